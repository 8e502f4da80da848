/- Properties: the law PropTypes. -/
import Derived.Test.YtggnocajpnmemaaDoorPbD
namespace Go.Proofs.YtggnocajpnmemaaDoor
open Go.RowKit Go.Shelf

theorem frow_mk {w : World} {B : Nat} : ∀ (l : List FV) (b off : Nat), (∀ j (h : j < l.length), b < B ∧ w.cell? ⟨b, off + j * 2, none⟩ = some (.string l[j].nm) ∧ w.cell? ⟨b, off + j * 2 + 1, none⟩ = some (.int .i64 l[j].err)) → FRow w B l b off
  | [], _, _, _ => trivial
  | f :: r, b, off, h => by
    unfold FRow
    refine ⟨?_, frow_mk r b (off + 2) (fun j hj => ?_)⟩
    · have := h 0 (by simp)
      simpa using this
    · have := h (j + 1) (by simp; exact hj)
      rw [show off + (j + 1) * 2 = off + 2 + j * 2 by omega] at this
      simpa using this
theorem fsl_of_own {w : World} {base : Nat} {l : List FV} {v : Value} (h : w.ownsRow base 30 2 v l.length (l.flatMap FV.cells)) (hl : l.length ≤ 140737488355328) : FSl w w.heap.size l v := by
  obtain ⟨A, c, rfl, hA⟩ := own_slice h
  by_cases h0 : 0 < l.length
  · obtain ⟨g, rfl, hc, -⟩ := hA h0
    refine ⟨_, c, rfl, hl, hc, .inr ⟨g, 0, rfl, frow_mk l g 0 (fun j hj => ?_)⟩⟩
    have e0 := (h.cellAt (j * 2 + 0) (by omega)).trans (fv_flat l j hj 0 (by omega))
    have e1 := (h.cellAt (j * 2 + 1) (by omega)).trans (fv_flat l j hj 1 (by omega))
    have hg : g < w.heap.size := (h.lt g rfl).2
    rw [Nat.zero_add]
    exact ⟨hg, e0, e1⟩
  · exact ⟨A, c, rfl, hl, by omega, .inl (List.eq_nil_of_length_eq_zero (by omega))⟩
theorem fsL_len (ts : List TV) (l : List PV) : (fsL ts l).length ≤ ts.length := by
  unfold fsL
  split
  · exact faultsL_len ts l
  · exact Nat.zero_le _

set_option maxRecDepth 100000 in
set_option maxHeartbeats 8000000 in
theorem propTypes_any (ts : List TV) (l : List PV) (At A : Option Addr) (ct c : Nat) (w : World) (ht : TySl w w.heap.size ts (.slice At ts.length ct)) (hl : PSl w w.heap.size l (.slice A l.length c)) :
    Calls Tryd.prog 3 #[.slice At ts.length ct, .slice A l.length c] w (Quiet w (.bool true)) := by
  have hnt : ts.length ≤ 140737488355328 := by obtain ⟨_, _, e, h1, _⟩ := ht; exact h1
  have hfl := fsL_len ts l
  have HF := Lib.hid (fun W (hW : Below w.heap.size w W) => faults_any ts l At A ct c W ((ht.below hW (Nat.le_refl _)).up hW.size) ((hl.below hW (Nat.le_refl _)).up hW.size))
  have HO := Lib.hid (fun W (hW : Below w.heap.size w W) => faultsOf_any ts l At A ct c W ((ht.below hW (Nat.le_refl _)).up hW.size) ((hl.below hW (Nat.le_refl _)).up hW.size))
  have HC := Lib.hid (fun W (hW : Below w.heap.size w W) => checkTypes_any ts At ct W ((ht.below hW (Nat.le_refl _)).up hW.size))
  have HT := Lib.hid (fun W (hW : Below w.heap.size w W) => typesFault_any ts At ct W ((ht.below hW (Nat.le_refl _)).up hW.size))
  have HE := Lib.hid (fun W A1 A2 c1 c2 h1 h2 => faultEqual_any (fsL ts l) A1 A2 c1 c2 W h1 h2)
  have HL : Hid ((fsL ts l).length ≤ 140737488355328) := Lib.hid (by omega)
  generalize fsL ts l = L at HF HO HE HL
  generalize fsE ts l = err at HF HO
  generalize typesE ts = te at HC HT
  generalize ts.length = n at HF HO HC HT ⊢
  generalize l.length = m at HF HO ⊢
  clear ht hl hnt hfl
  go_enter Tryd.func3, Tryd.ntmps3
  go_wp2_with fail
  have X := HF.out w (Below.refl _ _)
  refine X.mono ?_
  rintro e1 w1 ⟨v1, rfl, ho1, hb1⟩
  have HB1 := Lib.hid hb1
  have HO1 := Lib.hid ho1
  clear hb1 ho1
  go_wp2_with fail
  refine (HO.out _ HB1.out).mono ?_
  rintro e2 w2 ⟨v2, rfl, ho2, hb2⟩
  have HB2 := Lib.hid (HB1.out.trans (hb2.mono HB1.out.size))
  have HP1 := Lib.hid (fsl_of_own (own_keepB HO1.out hb2 (Nat.le_refl _)) HL.out)
  have HP2 := Lib.hid (fsl_of_own ho2 HL.out)
  clear hb2 ho2
  obtain ⟨A1, c1, rfl, -⟩ := HP1.out
  obtain ⟨A2, c2, rfl, -⟩ := HP2.out
  have HEQ := Lib.hid (HE.out w2 A1 A2 c1 c2 HP1.out HP2.out)
  generalize L.length = k at HEQ ⊢
  clear HE HP1 HP2 HO1
  go_wp2_with fail
  refine HEQ.out.mono ?_
  rintro e3 w3 ⟨rfl, hb3⟩
  have HB3 := Lib.hid (HB2.out.trans (hb3.mono HB2.out.size))
  clear hb3
  go_wp2_with fail
  refine (HC.out _ HB3.out).mono ?_
  rintro e4 w4 ⟨rfl, hb4⟩
  have HB4 := Lib.hid (HB3.out.trans (hb4.mono HB3.out.size))
  clear hb4
  go_wp2_with fail
  refine (HT.out _ HB4.out).mono ?_
  rintro e5 w5 ⟨rfl, hb5⟩
  have HB5 := Lib.hid (HB4.out.trans (hb5.mono HB4.out.size))
  clear hb5
  go_wp2_with fail
  go_ret
  exact ⟨ret_bool (by simp), HB5.out⟩
end Go.Proofs.YtggnocajpnmemaaDoor
