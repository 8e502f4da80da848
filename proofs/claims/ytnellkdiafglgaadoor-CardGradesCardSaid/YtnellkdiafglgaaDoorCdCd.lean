/- Cards: a state put into a list of one's own; what GradeAt and Bury give. -/
import Derived.Test.YtnellkdiafglgaaDoorCdCc
namespace Go.Proofs.YtnellkdiafglgaaDoor
open Go.RowKit Go.Shelf Go.Joins

def putAt (w : World) (g o : Nat) (x : StV) : World :=
  ((((((((w.setCell ⟨g, o, none⟩ (.int .i64 x.bl)).setCell ⟨g, o + 1, none⟩ (.int .i64 x.no)).setCell ⟨g, o + 2, none⟩ (.int .i64 x.st)).setCell ⟨g, o + 3, none⟩ (.int .i64 x.ea)).setCell ⟨g, o + 4, none⟩ (.int .i64 x.du)).setCell ⟨g, o + 5, none⟩ (.int .i64 x.la)).setCell ⟨g, o + 6, none⟩ (.int .i64 x.ti)).setCell ⟨g, o + 7, none⟩ (.int .i64 x.lp)).setCell ⟨g, o + 8, none⟩ (.int .i64 x.bu)
theorem ne_off {g p q : Nat} (h : p ≠ q) : (⟨g, p, none⟩ : Addr) ≠ ⟨g, q, none⟩ := fun he => h (by cases he; rfl)
theorem putAt_far {w : World} {g o q : Nat} {x : StV} (h : q < o ∨ o + 9 ≤ q) : (putAt w g o x).cell? ⟨g, q, none⟩ = w.cell? ⟨g, q, none⟩ := by
  unfold putAt
  rw [World.cell?_setCell_other _ _ _ _ (ne_off (by omega)), World.cell?_setCell_other _ _ _ _ (ne_off (by omega)), World.cell?_setCell_other _ _ _ _ (ne_off (by omega)), World.cell?_setCell_other _ _ _ _ (ne_off (by omega)), World.cell?_setCell_other _ _ _ _ (ne_off (by omega)), World.cell?_setCell_other _ _ _ _ (ne_off (by omega)), World.cell?_setCell_other _ _ _ _ (ne_off (by omega)), World.cell?_setCell_other _ _ _ _ (ne_off (by omega)), World.cell?_setCell_other _ _ _ _ (ne_off (by omega))]
theorem putAt_0 {w : World} {g o : Nat} {x : StV} {u : Value} (h : w.cell? ⟨g, o, none⟩ = some u) : (putAt w g o x).cell? ⟨g, o, none⟩ = some (.int .i64 x.bl) := by
  unfold putAt
  rw [World.cell?_setCell_other _ _ _ _ (ne_off (by omega)), World.cell?_setCell_other _ _ _ _ (ne_off (by omega)), World.cell?_setCell_other _ _ _ _ (ne_off (by omega)), World.cell?_setCell_other _ _ _ _ (ne_off (by omega)), World.cell?_setCell_other _ _ _ _ (ne_off (by omega)), World.cell?_setCell_other _ _ _ _ (ne_off (by omega)), World.cell?_setCell_other _ _ _ _ (ne_off (by omega)), World.cell?_setCell_other _ _ _ _ (ne_off (by omega))]
  exact World.cell?_setCell_same _ _ _ h
theorem putAt_1 {w : World} {g o : Nat} {x : StV} {u : Value} (h : w.cell? ⟨g, o + 1, none⟩ = some u) : (putAt w g o x).cell? ⟨g, o + 1, none⟩ = some (.int .i64 x.no) := by
  unfold putAt
  rw [World.cell?_setCell_other _ _ _ _ (ne_off (by omega)), World.cell?_setCell_other _ _ _ _ (ne_off (by omega)), World.cell?_setCell_other _ _ _ _ (ne_off (by omega)), World.cell?_setCell_other _ _ _ _ (ne_off (by omega)), World.cell?_setCell_other _ _ _ _ (ne_off (by omega)), World.cell?_setCell_other _ _ _ _ (ne_off (by omega)), World.cell?_setCell_other _ _ _ _ (ne_off (by omega))]
  exact World.cell?_setCell_same _ _ _ (by rw [World.cell?_setCell_other _ _ _ _ (ne_off (by omega))]; exact h)
theorem putAt_2 {w : World} {g o : Nat} {x : StV} {u : Value} (h : w.cell? ⟨g, o + 2, none⟩ = some u) : (putAt w g o x).cell? ⟨g, o + 2, none⟩ = some (.int .i64 x.st) := by
  unfold putAt
  rw [World.cell?_setCell_other _ _ _ _ (ne_off (by omega)), World.cell?_setCell_other _ _ _ _ (ne_off (by omega)), World.cell?_setCell_other _ _ _ _ (ne_off (by omega)), World.cell?_setCell_other _ _ _ _ (ne_off (by omega)), World.cell?_setCell_other _ _ _ _ (ne_off (by omega)), World.cell?_setCell_other _ _ _ _ (ne_off (by omega))]
  exact World.cell?_setCell_same _ _ _ (by rw [World.cell?_setCell_other _ _ _ _ (ne_off (by omega)), World.cell?_setCell_other _ _ _ _ (ne_off (by omega))]; exact h)
theorem putAt_3 {w : World} {g o : Nat} {x : StV} {u : Value} (h : w.cell? ⟨g, o + 3, none⟩ = some u) : (putAt w g o x).cell? ⟨g, o + 3, none⟩ = some (.int .i64 x.ea) := by
  unfold putAt
  rw [World.cell?_setCell_other _ _ _ _ (ne_off (by omega)), World.cell?_setCell_other _ _ _ _ (ne_off (by omega)), World.cell?_setCell_other _ _ _ _ (ne_off (by omega)), World.cell?_setCell_other _ _ _ _ (ne_off (by omega)), World.cell?_setCell_other _ _ _ _ (ne_off (by omega))]
  exact World.cell?_setCell_same _ _ _ (by rw [World.cell?_setCell_other _ _ _ _ (ne_off (by omega)), World.cell?_setCell_other _ _ _ _ (ne_off (by omega)), World.cell?_setCell_other _ _ _ _ (ne_off (by omega))]; exact h)
theorem putAt_4 {w : World} {g o : Nat} {x : StV} {u : Value} (h : w.cell? ⟨g, o + 4, none⟩ = some u) : (putAt w g o x).cell? ⟨g, o + 4, none⟩ = some (.int .i64 x.du) := by
  unfold putAt
  rw [World.cell?_setCell_other _ _ _ _ (ne_off (by omega)), World.cell?_setCell_other _ _ _ _ (ne_off (by omega)), World.cell?_setCell_other _ _ _ _ (ne_off (by omega)), World.cell?_setCell_other _ _ _ _ (ne_off (by omega))]
  exact World.cell?_setCell_same _ _ _ (by rw [World.cell?_setCell_other _ _ _ _ (ne_off (by omega)), World.cell?_setCell_other _ _ _ _ (ne_off (by omega)), World.cell?_setCell_other _ _ _ _ (ne_off (by omega)), World.cell?_setCell_other _ _ _ _ (ne_off (by omega))]; exact h)
theorem putAt_5 {w : World} {g o : Nat} {x : StV} {u : Value} (h : w.cell? ⟨g, o + 5, none⟩ = some u) : (putAt w g o x).cell? ⟨g, o + 5, none⟩ = some (.int .i64 x.la) := by
  unfold putAt
  rw [World.cell?_setCell_other _ _ _ _ (ne_off (by omega)), World.cell?_setCell_other _ _ _ _ (ne_off (by omega)), World.cell?_setCell_other _ _ _ _ (ne_off (by omega))]
  exact World.cell?_setCell_same _ _ _ (by rw [World.cell?_setCell_other _ _ _ _ (ne_off (by omega)), World.cell?_setCell_other _ _ _ _ (ne_off (by omega)), World.cell?_setCell_other _ _ _ _ (ne_off (by omega)), World.cell?_setCell_other _ _ _ _ (ne_off (by omega)), World.cell?_setCell_other _ _ _ _ (ne_off (by omega))]; exact h)
theorem putAt_6 {w : World} {g o : Nat} {x : StV} {u : Value} (h : w.cell? ⟨g, o + 6, none⟩ = some u) : (putAt w g o x).cell? ⟨g, o + 6, none⟩ = some (.int .i64 x.ti) := by
  unfold putAt
  rw [World.cell?_setCell_other _ _ _ _ (ne_off (by omega)), World.cell?_setCell_other _ _ _ _ (ne_off (by omega))]
  exact World.cell?_setCell_same _ _ _ (by rw [World.cell?_setCell_other _ _ _ _ (ne_off (by omega)), World.cell?_setCell_other _ _ _ _ (ne_off (by omega)), World.cell?_setCell_other _ _ _ _ (ne_off (by omega)), World.cell?_setCell_other _ _ _ _ (ne_off (by omega)), World.cell?_setCell_other _ _ _ _ (ne_off (by omega)), World.cell?_setCell_other _ _ _ _ (ne_off (by omega))]; exact h)
theorem putAt_7 {w : World} {g o : Nat} {x : StV} {u : Value} (h : w.cell? ⟨g, o + 7, none⟩ = some u) : (putAt w g o x).cell? ⟨g, o + 7, none⟩ = some (.int .i64 x.lp) := by
  unfold putAt
  rw [World.cell?_setCell_other _ _ _ _ (ne_off (by omega))]
  exact World.cell?_setCell_same _ _ _ (by rw [World.cell?_setCell_other _ _ _ _ (ne_off (by omega)), World.cell?_setCell_other _ _ _ _ (ne_off (by omega)), World.cell?_setCell_other _ _ _ _ (ne_off (by omega)), World.cell?_setCell_other _ _ _ _ (ne_off (by omega)), World.cell?_setCell_other _ _ _ _ (ne_off (by omega)), World.cell?_setCell_other _ _ _ _ (ne_off (by omega)), World.cell?_setCell_other _ _ _ _ (ne_off (by omega))]; exact h)
theorem putAt_8 {w : World} {g o : Nat} {x : StV} {u : Value} (h : w.cell? ⟨g, o + 8, none⟩ = some u) : (putAt w g o x).cell? ⟨g, o + 8, none⟩ = some (.int .i64 x.bu) := by
  unfold putAt
  exact World.cell?_setCell_same _ _ _ (by rw [World.cell?_setCell_other _ _ _ _ (ne_off (by omega)), World.cell?_setCell_other _ _ _ _ (ne_off (by omega)), World.cell?_setCell_other _ _ _ _ (ne_off (by omega)), World.cell?_setCell_other _ _ _ _ (ne_off (by omega)), World.cell?_setCell_other _ _ _ _ (ne_off (by omega)), World.cell?_setCell_other _ _ _ _ (ne_off (by omega)), World.cell?_setCell_other _ _ _ _ (ne_off (by omega)), World.cell?_setCell_other _ _ _ _ (ne_off (by omega))]; exact h)
theorem putAt_size (w : World) (g o : Nat) (x : StV) : (putAt w g o x).heap.size = w.heap.size := by
  unfold putAt
  simp
theorem putAt_below {B : Nat} {a w : World} (h : Below B a w) (g o : Nat) (x : StV) (hk : B ≤ g) : Below B a (putAt w g o x) := by
  unfold putAt
  exact ((((((((h.setCell hk _).setCell hk _).setCell hk _).setCell hk _).setCell hk _).setCell hk _).setCell hk _).setCell hk _).setCell hk _
/-- A state is put at place k. -/
theorem StOwn.put {w wr : World} {g : Nat} {l : List StV} {k : Nat} (h : StOwn w g l wr) (hk : k < l.length) (x : StV) : StOwn w g (l.set k x) (putAt wr g (k * 9) x) := by
  refine ⟨putAt_below h.bel _ _ _ h.lo, h.lo, fun j y hj => ?_, fun j => by unfold putAt; simpa using h.warm j⟩
  obtain ⟨hjl, hje⟩ := List.getElem?_eq_some_iff.1 hj
  rw [List.length_set] at hjl
  obtain ⟨b', o', hA, hB, c0, c1, c2, c3, c4, c5, c6, c7, c8⟩ := h.at_ j _ (List.getElem?_eq_getElem hjl)
  simp only [Option.some.injEq, Addr.mk.injEq, and_true] at hA
  obtain ⟨rfl, rfl⟩ := hA
  rw [Nat.zero_add] at c0 c1 c2 c3 c4 c5 c6 c7 c8
  by_cases hjk : j = k
  · subst hjk
    have hy : y = x := by rw [← hje, List.getElem_set_self]
    subst hy
    exact ⟨g, 0, rfl, by rw [putAt_size]; exact hB, by rw [Nat.zero_add]; exact putAt_0 c0, by rw [Nat.zero_add]; exact putAt_1 c1, by rw [Nat.zero_add]; exact putAt_2 c2, by rw [Nat.zero_add]; exact putAt_3 c3, by rw [Nat.zero_add]; exact putAt_4 c4, by rw [Nat.zero_add]; exact putAt_5 c5, by rw [Nat.zero_add]; exact putAt_6 c6, by rw [Nat.zero_add]; exact putAt_7 c7, by rw [Nat.zero_add]; exact putAt_8 c8⟩
  · have hy : y = l[j] := by rw [← hje, List.getElem_set_ne (Ne.symm hjk)]
    subst hy
    exact ⟨g, 0, rfl, by rw [putAt_size]; exact hB, by rw [Nat.zero_add, putAt_far (by omega)]; exact c0, by rw [Nat.zero_add, putAt_far (by omega)]; exact c1, by rw [Nat.zero_add, putAt_far (by omega)]; exact c2, by rw [Nat.zero_add, putAt_far (by omega)]; exact c3, by rw [Nat.zero_add, putAt_far (by omega)]; exact c4, by rw [Nat.zero_add, putAt_far (by omega)]; exact c5, by rw [Nat.zero_add, putAt_far (by omega)]; exact c6, by rw [Nat.zero_add, putAt_far (by omega)]; exact c7, by rw [Nat.zero_add, putAt_far (by omega)]; exact c8⟩
theorem StOwn.bury {w wr : World} {g : Nat} {l : List StV} {k : Nat} (h : StOwn w g l wr) (hk : k < l.length) (d : Int) : StOwn w g (l.set k { l[k] with bu := d }) (wr.setCell ⟨g, k * 9 + 8, none⟩ (.int .i64 d)) := by
  refine ⟨h.bel.setCell h.lo _, h.lo, fun j y hj => ?_, fun j => by simpa using h.warm j⟩
  obtain ⟨hjl, hje⟩ := List.getElem?_eq_some_iff.1 hj
  rw [List.length_set] at hjl
  obtain ⟨b', o', hA, hB, c0, c1, c2, c3, c4, c5, c6, c7, c8⟩ := h.at_ j _ (List.getElem?_eq_getElem hjl)
  simp only [Option.some.injEq, Addr.mk.injEq, and_true] at hA
  obtain ⟨rfl, rfl⟩ := hA
  rw [Nat.zero_add] at c0 c1 c2 c3 c4 c5 c6 c7 c8
  by_cases hjk : j = k
  · subst hjk
    have hy : y = { l[j] with bu := d } := by rw [← hje, List.getElem_set_self]
    subst hy
    exact ⟨g, 0, rfl, by simpa using hB, by rw [Nat.zero_add, World.cell?_setCell_other _ _ _ _ (ne_off (by omega))]; exact c0, by rw [Nat.zero_add, World.cell?_setCell_other _ _ _ _ (ne_off (by omega))]; exact c1, by rw [Nat.zero_add, World.cell?_setCell_other _ _ _ _ (ne_off (by omega))]; exact c2, by rw [Nat.zero_add, World.cell?_setCell_other _ _ _ _ (ne_off (by omega))]; exact c3, by rw [Nat.zero_add, World.cell?_setCell_other _ _ _ _ (ne_off (by omega))]; exact c4, by rw [Nat.zero_add, World.cell?_setCell_other _ _ _ _ (ne_off (by omega))]; exact c5, by rw [Nat.zero_add, World.cell?_setCell_other _ _ _ _ (ne_off (by omega))]; exact c6, by rw [Nat.zero_add, World.cell?_setCell_other _ _ _ _ (ne_off (by omega))]; exact c7, by rw [Nat.zero_add]; exact World.cell?_setCell_same _ _ _ c8⟩
  · have hy : y = l[j] := by rw [← hje, List.getElem_set_ne (Ne.symm hjk)]
    subst hy
    exact ⟨g, 0, rfl, by simpa using hB, by rw [Nat.zero_add, World.cell?_setCell_other _ _ _ _ (ne_off (by omega))]; exact c0, by rw [Nat.zero_add, World.cell?_setCell_other _ _ _ _ (ne_off (by omega))]; exact c1, by rw [Nat.zero_add, World.cell?_setCell_other _ _ _ _ (ne_off (by omega))]; exact c2, by rw [Nat.zero_add, World.cell?_setCell_other _ _ _ _ (ne_off (by omega))]; exact c3, by rw [Nat.zero_add, World.cell?_setCell_other _ _ _ _ (ne_off (by omega))]; exact c4, by rw [Nat.zero_add, World.cell?_setCell_other _ _ _ _ (ne_off (by omega))]; exact c5, by rw [Nat.zero_add, World.cell?_setCell_other _ _ _ _ (ne_off (by omega))]; exact c6, by rw [Nat.zero_add, World.cell?_setCell_other _ _ _ _ (ne_off (by omega))]; exact c7, by rw [Nat.zero_add, World.cell?_setCell_other _ _ _ _ (ne_off (by omega))]; exact c8⟩
/-- The position's fault. -/
def caE (l : List StV) (p : Int) : Int := if statesE l ≠ 0 then statesE l else if p < 0 ∨ (l.length : Int) ≤ p then 7 else 0
theorem caE_ok {l : List StV} {p : Int} (h : caE l p = 0) : statesE l = 0 ∧ ∃ k : Nat, p = k ∧ k < l.length := by
  unfold caE at h
  split at h
  · exact absurd h ‹_›
  · split at h
    · omega
    · exact ⟨by omega, p.toNat, by omega, by omega⟩
def gaE (l : List StV) (p g d : Int) : Int := if caE l p ≠ 0 then caE l p else gradeE (l.getD p.toNat StV.zero) g d
def gaL (l : List StV) (p g d : Int) : List StV := if gaE l p g d = 0 then l.set p.toNat (gradedV (l.getD p.toNat StV.zero) g d) else []
def buE (l : List StV) (p d : Int) : Int := if caE l p ≠ 0 then caE l p else if d < 0 ∨ 100000 < d then 2 else 0
def buL (l : List StV) (p d : Int) : List StV := if buE l p d = 0 then l.set p.toNat { l.getD p.toNat StV.zero with bu := d } else []
theorem getD_at {l : List StV} {k : Nat} (h : k < l.length) : l.getD k StV.zero = l[k] := by rw [List.getD_eq_getElem?_getD, List.getElem?_eq_getElem h]; rfl
/-- A list of states and an error are handed back. -/
def GivesSts (L : List StV) (er : Int) (w : World) (e : Ending) (w' : World) : Prop :=
  ∃ A c, e = .returned (.tuple #[.slice A L.length c, .int .i64 er]) ∧ StVsAt w' w'.heap.size A L ∧ Below w.heap.size w w'
theorem givesSts_none {er : Int} {w w' : World} (h : Below w.heap.size w w') : GivesSts [] er w (.returned (.tuple #[.slice none 0 0, .int .i64 er])) w' := ⟨none, 0, rfl, fun k x hk => by simp at hk, h⟩
theorem statesE_few {l : List StV} (h : statesE l = 0) : l.length ≤ 5000 := by
  unfold statesE at h
  split at h <;> omega
set_option maxRecDepth 100000 in
set_option maxHeartbeats 4000000 in
theorem checkAt_any (l : List StV) (A : Option Addr) (c : Nat) (p : Int) (w : World) (hl : StVsAt w w.heap.size A l) :
    Calls Tryd.prog 53 #[.slice A l.length c, .int .i64 p] w fun e w' => e = .returned (.int .i64 (caE l p)) ∧ Below w.heap.size w w' := by
  have HC := Lib.hid (checkStates_any l A c w hl)
  obtain ⟨R, hR⟩ : ∃ R, R = caE l p := ⟨_, rfl⟩
  rw [← hR]
  have HR : Hid (R = if statesE l ≠ 0 then statesE l else if p < 0 ∨ (l.length : Int) ≤ p then 7 else 0) := Lib.hid hR
  generalize statesE l = E at *
  generalize l.length = N at *
  clear hR hl
  by_cases hE : E = 0
  case neg =>
    have hE' : (E != 0) = true := bne_iff_ne.2 hE
    have HF : Hid (R = E) := Lib.hid (by rw [HR.out, if_pos hE])
    clear hE
    go_enter Tryd.func53, Tryd.ntmps53
    go_wp2_with fail
    refine HC.out.mono ?_
    rintro e1 w1 ⟨rfl, hb1⟩
    have HB1 := Lib.hid hb1
    clear hb1
    go_wp2_with fail
    go_ret
    exact ⟨ret_intR HF.out.symm, HB1.out⟩
  case pos =>
    subst hE
    have HR2 : Hid (R = if p < 0 ∨ (N : Int) ≤ p then 7 else 0) := Lib.hid (by rw [HR.out, if_neg (by simp)])
    clear HR
    rcases (by omega : p < 0 ∨ (0 ≤ p ∧ (N : Int) ≤ p) ∨ (0 ≤ p ∧ p < N)) with h1 | ⟨h1, h2⟩ | ⟨h1, h2⟩
    case' inl => have HF : Hid (R = 7) := Lib.hid (by rw [HR2.out, if_pos (by omega)])
    case' inr.inl => have HF : Hid (R = 7) := Lib.hid (by rw [HR2.out, if_pos (by omega)])
    case' inr.inr => have HF : Hid (R = 0) := Lib.hid (by rw [HR2.out, if_neg (by omega)])
    all_goals
      clear HR2
      go_enter Tryd.func53, Tryd.ntmps53
      go_wp2_with fail
      refine HC.out.mono ?_
      rintro e1 w1 ⟨rfl, hb1⟩
      have HB1 := Lib.hid hb1
      clear hb1
      go_wp2_with fail
      go_ret
      exact ⟨ret_intR HF.out.symm, HB1.out⟩
end Go.Proofs.YtnellkdiafglgaaDoor
