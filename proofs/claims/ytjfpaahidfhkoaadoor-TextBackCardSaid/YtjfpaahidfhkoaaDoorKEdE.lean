/- TextEdits, part 5: the reference's shortest edit. -/
import Derived.Test.YtjfpaahidfhkoaaDoorKEdD
import Derived.WalkKit
import Derived.Lib.Hide
import Derived.Deep.QuietTactic
import Derived.BigQuiet
import Derived.IntWalk
namespace Go.Proofs.YtjfpaahidfhkoaaDoor.Ke
open Go.RowKit

theorem diffOf_end {a b : ByteArray} {k m : Nat} (hF : dF a b = k) (hN : dN a b = m) (hx : k + m ≤ a.size) :
    Ending.returned (.agg #[.int .i64 k, .int .i64 ((a.size : Int) - (m : Int)), .string (b.extract k (b.size - m))]) = .returned (.agg #[.int .i64 (dF a b), .int .i64 (a.size - dN a b : Nat), .string (b.extract (dF a b) (b.size - dN a b))]) := by
  rw [hF, hN, show (a.size : Int) - (m : Int) = (a.size - m : Nat) from by omega]

theorem index_at {P : Program} {t : TypeId} {s : ByteArray} {k : IntKind} {i : Int} {n : Nat} (h : P.underlying t = some .string) (hi : i = (n : Int)) (hn : n < s.size) (W : World) :
    (Instr.index t (.string s) (.int k i)).run P W = .ok (.int .u8 (s[n]).toNat) W := by
  subst hi
  rw [run_index_string W t s k n h, dif_pos ⟨by omega, by omega⟩]
  rfl

end Go.Proofs.YtjfpaahidfhkoaaDoor.Ke
