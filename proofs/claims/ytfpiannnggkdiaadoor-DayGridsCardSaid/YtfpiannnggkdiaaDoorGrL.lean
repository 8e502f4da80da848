/- The law DayGrids: true of every year, month, list of numbers and number. -/
import Derived.Test.YtfpiannnggkdiaaDoorGrJ
namespace Go.Proofs.YtfpiannnggkdiaaDoor
open Go.RowKit Go.Maps Go.Shelf

theorem Wks.low {W0 W wx : World} {L : List (List Int)} {v : Value} (h : Wks W L v wx) (hb : Below W0.heap.size W0 W) : Below W0.heap.size W0 wx := hb.trans (h.bel.mono hb.size)
theorem IntsAt.up {w w' : World} {zs : List Int} {v : Value} (h : IntsAt w w.heap.size zs v) (hb : Below w.heap.size w w') : IntsAt w' w'.heap.size zs v := by
  have h1 := h.below hb
  obtain ⟨A, c, e, h2⟩ := h1.sl
  refine ⟨⟨A, c, e, ?_⟩, h1.len, h1.wf⟩
  rcases h2 with h2 | ⟨b, off, ea, hlt, hc⟩
  · exact .inl h2
  · exact .inr ⟨b, off, ea, Nat.lt_of_lt_of_le hlt hb.size, hc⟩
open Classical in
noncomputable def gridLG (y m : Int) : List (List Int) := if GridOk y m then gridL (firstD y m) (lastD y m) (wkN (firstD y m) (lastD y m)) else []
open Classical in
noncomputable def gridEG (y m : Int) : Int := if GridOk y m then 0 else 2
theorem grid_form {w w' : World} {y m : Int} {e : Ending} (h : GivesGrid w y m e w') : ∃ v, e = .returned (.tuple #[v, .int .i64 (gridEG y m)]) ∧ Wks w (gridLG y m) v w' := by
  unfold gridEG gridLG
  rcases h with ⟨hg, v, rfl, k⟩ | ⟨hg, rfl, k⟩
  · rw [if_pos hg, if_pos hg]
    exact ⟨v, rfl, k⟩
  · rw [if_neg hg, if_neg hg]
    exact ⟨_, rfl, Wks.nil k⟩
theorem gridLG_rows {y m : Int} : ∀ r ∈ gridLG y m, r.length = 7 := by
  intro r hr
  unfold gridLG at hr
  split at hr
  · exact gridL_rows hr
  · simp at hr
theorem gridLG_few (y m : Int) : (gridLG y m).length ≤ 6 := by
  unfold gridLG
  split
  · rename_i hg
    obtain ⟨f0, f1, f2⟩ := hg.bd
    rw [gridL_len]
    exact wkN_few f0 f2
  · simp

set_option maxRecDepth 100000 in
set_option maxHeartbeats 8000000 in
theorem dayGrids_any (y m d : Int) (l : List Int) (A : Option Addr) (c : Nat) (w : World) (ht : Tab w) (hd : TabD w) (hl : IntsAt w w.heap.size l (.slice A l.length c)) :
    Calls Tryd.prog 3 #[.int .i64 y, .int .i64 m, .slice A l.length c, .int .i64 d] w (QuietG w (.bool true)) := by
  have HG := Lib.hid ((grid_any y m w ht hd).mono (fun _ _ h => grid_form h))
  have HR := Lib.hid (fun W => (gridOf_any y m W).mono (fun _ _ h => grid_form h))
  have HS := Lib.hid (fun W (hW : Below w.heap.size w W) => streak_any l A c d W (hl.up hW))
  have HT := Lib.hid (fun W (hW : Below w.heap.size w W) => streakOf_any l A c d W (hl.up hW))
  have HLR := Lib.hid (gridLG_rows (y := y) (m := m))
  have HLF := Lib.hid (gridLG_few y m)
  generalize gridLG y m = LG at *
  generalize gridEG y m = er at *
  generalize l.length = n at HS HT ⊢
  clear ht hd hl
  go_enter Tryd.func3, Tryd.ntmps3
  go_wp2_with fail
  refine HG.out.mono ?_
  rintro e1 w1 ⟨v1, rfl, k1⟩
  have HB1 := Lib.hid k1.bel
  have HK1 := Lib.hid k1
  clear k1
  go_wp2_with fail
  refine (HR.out w1).mono ?_
  rintro e2 w2 ⟨v2, rfl, k2⟩
  have HB2 := Lib.hid (HB1.out.trans (k2.bel.mono HB1.out.size))
  have HK2 := Lib.hid k2
  have HK1b := Lib.hid (HK1.out.later k2.bel)
  clear k2
  go_wp2_with fail
  refine (HS.out w2 HB2.out).mono ?_
  rintro e3 w3 ⟨k3, hb3⟩
  have HB3 := Lib.hid (HB2.out.trans (hb3.mono HB2.out.size))
  have HK1c := Lib.hid (HK1b.out.later hb3)
  have HK2c := Lib.hid (HK2.out.later hb3)
  have hform : ∃ a b : Int, e3 = .returned (.tuple #[.int .i64 a, .int .i64 b]) := by
    rcases k3 with ⟨_, rfl⟩ | ⟨_, _, rfl⟩ | ⟨_, _, c, _, _, rfl⟩
    · exact ⟨_, _, rfl⟩
    · exact ⟨_, _, rfl⟩
    · exact ⟨_, _, rfl⟩
  obtain ⟨a, b, rfl⟩ := hform
  have HK3 := Lib.hid k3
  clear k3 hb3
  go_wp2_with fail
  refine (HT.out w3 HB3.out).mono ?_
  rintro e4 w4 ⟨k4, rfl⟩
  obtain ⟨a', b', q1, rfl⟩ := HK3.out.both k4
  simp only [Ending.returned.injEq, Value.tuple.injEq, Array.mk.injEq, List.cons.injEq, Value.int.injEq, true_and, and_true] at q1
  obtain ⟨rfl, rfl⟩ := q1
  have HAL := Lib.hid (alikeG_any LG w w1 v1 v2 w3 HK1c.out HK2c.out HLR.out HLF.out)
  clear k4 HK1 HK1b HK2 HG HR HS HT
  go_wp2_with fail
  refine HAL.out.mono ?_
  rintro e5 w5 ⟨rfl, hb5⟩
  have HB5 := Lib.hid (HB3.out.trans (hb5.mono HB3.out.size))
  clear hb5
  go_wp2_with fail
  go_ret
  exact ⟨ret_boolC (by simp), HB5.out⟩
end Go.Proofs.YtfpiannnggkdiaaDoor
