/- Properties: cmp.Compare at strings; the comparison of position. -/
import Derived.Test.YtggnocajpnmemaaDoorPtV
namespace Go.Proofs.YtggnocajpnmemaaDoor
open Go.RowKit Go.Shelf

def cmpS (a b : ByteArray) : Int := if Op.bytesLess a.toList b.toList = true then -1 else if leB a b = true then 0 else 1
theorem gtr_str (a b : ByteArray) (W : World) : (binOp .gtr 9 (.string a) (.string b)).run Tryd.prog W = .ok (.bool (!leB a b)) W := rfl

set_option maxRecDepth 100000 in
set_option maxHeartbeats 4000000 in
theorem strNaN_any (a : ByteArray) (w : World) : Calls Tryd.prog 49 #[.string a] w fun e w' => e = .returned (.bool false) ∧ w' = w := by
  have h : (a.toList == a.toList) = true := by simp
  go_enter Tryd.func49, Tryd.ntmps49
  go_wp2_with fail
  go_ret
  exact ⟨ret_bool (by simp), rfl⟩
set_option maxRecDepth 100000 in
set_option maxHeartbeats 4000000 in
theorem strCmp_any (a b : ByteArray) (w : World) : Calls Tryd.prog 34 #[.string a, .string b] w fun e w' => e = .returned (.int .i64 (cmpS a b)) ∧ w' = w := by
  have HA := Lib.hid (fun W => strNaN_any a W)
  have HB := Lib.hid (fun W => strNaN_any b W)
  have HE : Hid (cmpS a b = if Op.bytesLess a.toList b.toList = true then -1 else if leB a b = true then 0 else 1) := Lib.hid rfl
  rcases hl : Op.bytesLess a.toList b.toList with _ | _
  · rw [hl, if_neg (by simp)] at HE
    rcases hg : leB a b with _ | _
    · rw [hg, if_neg (by simp)] at HE
      have o2 : ∀ W, (binOp .gtr 9 (.string a) (.string b)).run Tryd.prog W = .ok (.bool true) W := fun W => by rw [gtr_str, hg]; rfl
      clear hg
      go_enter Tryd.func34, Tryd.ntmps34
      go_wp2_with fail
      refine (HA.out _).mono ?_
      rintro e1 w1 ⟨rfl, h1⟩
      rw [h1]
      clear h1
      go_wp2_with fail
      refine (HB.out _).mono ?_
      rintro e2 w2 ⟨rfl, h2⟩
      rw [h2]
      clear h2
      go_wp2_with fail
      go_ret
      exact ⟨ret_int HE.out.symm, rfl⟩
    · rw [hg, if_pos rfl] at HE
      have o2 : ∀ W, (binOp .gtr 9 (.string a) (.string b)).run Tryd.prog W = .ok (.bool false) W := fun W => by rw [gtr_str, hg]; rfl
      clear hg
      go_enter Tryd.func34, Tryd.ntmps34
      go_wp2_with fail
      refine (HA.out _).mono ?_
      rintro e1 w1 ⟨rfl, h1⟩
      rw [h1]
      clear h1
      go_wp2_with fail
      refine (HB.out _).mono ?_
      rintro e2 w2 ⟨rfl, h2⟩
      rw [h2]
      clear h2
      go_wp2_with fail
      go_ret
      exact ⟨ret_int HE.out.symm, rfl⟩
  · rw [hl, if_pos rfl] at HE
    go_enter Tryd.func34, Tryd.ntmps34
    go_wp2_with fail
    refine (HA.out _).mono ?_
    rintro e1 w1 ⟨rfl, h1⟩
    rw [h1]
    clear h1
    go_wp2_with fail
    refine (HB.out _).mono ?_
    rintro e2 w2 ⟨rfl, h2⟩
    rw [h2]
    clear h2
    go_wp2_with fail
    go_ret
    exact ⟨ret_int HE.out.symm, rfl⟩

set_option maxRecDepth 100000 in
set_option maxHeartbeats 4000000 in
theorem posCmp_any (nm q : ByteArray) (k i t : Int) (s : ByteArray) (g : Value) (w : World) :
    Calls Tryd.prog 33 #[.agg #[.string nm, .int .i64 k, .int .i64 i, .int .i64 t, .string s, g], .string q] w (Quiet w (.int .i64 (cmpS nm q))) := by
  have HC := Lib.hid (fun W => strCmp_any nm q W)
  go_enter Tryd.func33, Tryd.ntmps33
  go_wp2_with fail
  refine (HC.out _).mono ?_
  rintro e1 w1 ⟨rfl, h1⟩
  rw [h1]
  clear h1
  go_wp2_with fail
  go_ret
  exact ⟨rfl, (Below.refl _ _).alloc (Nat.le_refl _) _⟩
end Go.Proofs.YtggnocajpnmemaaDoor
