/- Properties: hasType, the reference's closure. -/
import Derived.Test.YtggnocajpnmemaaDoorPtS
namespace Go.Proofs.YtggnocajpnmemaaDoor
open Go.RowKit Go.Shelf

theorem hasAsks (q : ByteArray) (b : Nat) (w : World) (hc : w.cell? ⟨b, 0, none⟩ = some (.string q)) (hb : b < w.heap.size) : Asks 27 #[.pointer (some ⟨b, 0, none⟩)] q w :=
  ⟨enters_of Tryd.func27 (by kernel_rfl) rfl, fun W nm k nd g le mo hW => hasAsk_any q nm k nd g le mo b W ((hW.cell (p := ⟨b, 0, none⟩) hb).trans hc) (Nat.lt_of_lt_of_le hb hW.size)⟩

set_option maxRecDepth 100000 in
set_option maxHeartbeats 4000000 in
theorem hasType_any (l : List TV) (q : ByteArray) (A : Option Addr) (c : Nat) (w : World) (hl : TySl w w.heap.size l (.slice A l.length c)) :
    Calls Tryd.prog 15 #[.slice A l.length c, .string q] w (Quiet w (.bool (hasT l q))) := by
  have HC := Lib.hid (fun (W : World) (hW : Below w.heap.size w W) (ha : Asks 27 #[.pointer (some ⟨w.heap.size, 0, none⟩)] q W) => typeContains_any l q _ _ A c W ((hl.below hW (Nat.le_refl _)).up hW.size) ha)
  obtain ⟨n, hnn⟩ : ∃ n, n = l.length := ⟨_, rfl⟩
  rw [← hnn] at HC ⊢
  clear hl hnn
  go_enter Tryd.func15, Tryd.ntmps15
  go_wp2_with fail
  refine (HC.out _ ((Below.refl _ _).alloc (Nat.le_refl _) _) (hasAsks q _ _ ?_ (by simp))).mono ?_
  · exact cell_of_row _ w.heap.size 0 _ _ (0, 0) (heap_alloc_new w _)
  · rintro e2 w2 ⟨rfl, hb⟩
    have HB := Lib.hid (((Below.refl _ w).alloc (Nat.le_refl _) _).trans (hb.mono (by simp)))
    clear hb
    go_wp2_with fail
    go_ret
    exact ⟨rfl, HB.out⟩

set_option maxRecDepth 100000 in
set_option maxHeartbeats 4000000 in
theorem refAsk_any (q nm : ByteArray) (k : Int) (nd : Bool) (g : Value) (le mo : Int) (b : Nat) (W : World) (hc : W.cell? ⟨b, 0, none⟩ = some (.string q)) (hb : b < W.heap.size) :
    Calls Tryd.prog 19 #[.agg #[.string nm, .int .i64 k, .bool nd, g, .int .i64 le, .int .i64 mo], .pointer (some ⟨b, 0, none⟩)] W (Quiet W (.bool (nm.toList == q.toList))) := by
  go_enter Tryd.func19, Tryd.ntmps19
  go_wp2_with fail
  go_ret
  exact ⟨rfl, (Below.refl _ _).alloc (Nat.le_refl _) _⟩
theorem refAsks (q : ByteArray) (b : Nat) (w : World) (hc : w.cell? ⟨b, 0, none⟩ = some (.string q)) (hb : b < w.heap.size) : Asks 19 #[.pointer (some ⟨b, 0, none⟩)] q w :=
  ⟨enters_of Tryd.func19 (by kernel_rfl) rfl, fun W nm k nd g le mo hW => refAsk_any q nm k nd g le mo b W ((hW.cell (p := ⟨b, 0, none⟩) hb).trans hc) (Nat.lt_of_lt_of_le hb hW.size)⟩
end Go.Proofs.YtggnocajpnmemaaDoor
