/- DayGrids: a month's length, and a week's beginning, in package day. -/
import Derived.Test.YtfpiannnggkdiaaDoorGrE
namespace Go.Proofs.YtfpiannnggkdiaaDoor
open Go.RowKit Go.Maps Go.Shelf

def TabD (w : World) : Prop := ∀ i : Nat, i < 12 → w.cell? ⟨0, i, none⟩ = some (.int .i64 (tab.getD i 0))
theorem TabD.below {w w' : World} (h : TabD w) (hb : Below w.heap.size w w') : TabD w' := fun i hi => by
  have hc := h i hi
  have hlt : 0 < w.heap.size := World.block_lt_of_cell? w _ hc
  exact (hb.cell (p := ⟨0, i, none⟩) hlt).trans hc
theorem ys_2274 : Cal.ys 2274 = 99711 := by decide
theorem feb29 (y : Int) (w : World) (h0 : 2001 ≤ y) (h1 : y ≤ 2274) (ht : Tab w) :
    Calls Tryd.prog 14 #[.int .i64 y, .int .i64 2, .int .i64 29] w fun e w' => (∃ x : Int, e = .returned (.tuple #[.int .i64 x, .int .i64 (if Cal.leapB y = true then 0 else 2)])) ∧ w = w' := by
  have hm := Cal.ys_mono y 2274 h1
  rw [ys_2274] at hm
  have hc : Cal.cum y 2 = 31 := by simp [Cal.cum]
  have hl := Cal.ml_cases y 2 (by omega) (by omega)
  rw [if_pos rfl] at hl
  refine (dayOf_any y 2 29 w ht).mono ?_
  rintro e w' ⟨h, rfl⟩
  refine ⟨?_, rfl⟩
  rcases h with ⟨⟨_, _, _, _, _, h5⟩, _, rfl⟩ | ⟨hn, rfl⟩
  · rcases hb : Cal.leapB y with _ | _
    · rw [Cal.lp_false hb] at hl; omega
    · exact ⟨_, rfl⟩
  · rcases hb : Cal.leapB y with _ | _
    · exact ⟨_, rfl⟩
    · rw [Cal.lp_true hb] at hl
      exact absurd ⟨⟨h0, h1, by omega, by omega, by omega, by omega⟩, by omega⟩ hn

set_option maxHeartbeats 1000000 in
theorem dayMonthLength_any (y m : Int) (w : World) (h0 : 2001 ≤ y) (h1 : y ≤ 2274) (m1 : 1 ≤ m) (m2 : m ≤ 12) (ht : Tab w) (hd : TabD w) :
    Calls Tryd.prog 15 #[.int .i64 y, .int .i64 m] w fun e w' => e = .returned (.int .i64 (Cal.ml y m)) ∧ w = w' := by
  obtain ⟨k, rfl⟩ : ∃ k : Nat, m = k + 1 := ⟨(m - 1).toNat, by omega⟩
  have hc := hd k (by omega)
  have HM := Lib.hid (tab_ml y k (by omega))
  have e1 : (k : Int) + 1 - 1 = k := by omega
  have HF := Lib.hid (feb29 y w h0 h1 ht)
  clear ht hd
  by_cases hm : k = 1
  · subst hm
    have HT : Hid (Cal.ml y (((1 : Nat) : Int) + 1) = 28 + Cal.lp y) := Lib.hid (by rw [HM.out, if_pos rfl]; rfl)
    clear HM
    rcases hb : Cal.leapB y with _ | _
    all_goals
      rw [hb] at HF
      have HL := Lib.hid hb
      clear hb
      go_enter Tryd.func15, Tryd.ntmps15
      go_wp2_with (go_at_call 14; refine HF.out.mono ?_; rintro e w' ⟨⟨x, rfl⟩, rfl⟩)
      go_ret
      refine ⟨ret_intC ?_, rfl⟩
      have h28 := HT.out
      first | rw [Cal.lp_true HL.out] at h28 | rw [Cal.lp_false HL.out] at h28
      rw [h28]
      rfl
  · have p2 : ((k : Int) + 1 == 2) = false := by simp; omega
    obtain ⟨v, hv⟩ : ∃ v, v = tab.getD k 0 := ⟨_, rfl⟩
    rw [← hv] at hc HM
    generalize (if Cal.leapB y = true then (0 : Int) else 2) = er at HF
    clear hv
    go_enter Tryd.func15, Tryd.ntmps15
    go_wp2_with (go_at_call 14; refine HF.out.mono ?_; rintro e w' ⟨⟨x, rfl⟩, rfl⟩)
    go_ret
    refine ⟨ret_intC ?_, rfl⟩
    rw [HM.out, if_neg hm]
    omega

set_option maxHeartbeats 400000 in
theorem weekStart_any (d p : Int) (w : World) (h0 : 0 ≤ d) (h1 : d ≤ 1000000) (p0 : 0 ≤ p) (p1 : p ≤ 1000) :
    Calls Tryd.prog 17 #[.int .i64 d, .int .i64 p] w fun e w' => e = .returned (.int .i64 (d - d % 7 + 7 * p)) ∧ w = w' := by
  have q3 : 0 ≤ d % 7 := Int.emod_nonneg _ (by omega)
  have q4 : d % 7 < 7 := Int.emod_lt_of_pos _ (by omega)
  go_enter Tryd.func17, Tryd.ntmps17
  go_wp2
  go_ret
  exact ⟨ret_intC rfl, rfl⟩
end Go.Proofs.YtfpiannnggkdiaaDoor
