/- DayGrids: Alike at lists of lists of numbers that are the same. -/
import Derived.Test.YtfpiannnggkdiaaDoorGrI
import Derived.Test.YtfpiannnggkdiaaDoorShelf
namespace Go.Proofs.YtfpiannnggkdiaaDoor
open Go.RowKit Go.Maps Go.Shelf

/-- It returns v, and what was there is as it was. -/
def QuietG (w : World) (v : Value) (e : Ending) (w' : World) : Prop := e = .returned v ∧ Below w.heap.size w w'

theorem ta_ok (v : Value) (W : World) : (Instr.typeAssert (.iface 23 v) 20 23 true).run Tryd.prog W = .ok (.tuple #[v, .bool true]) W := by kernel_rfl
theorem ta_n1 (v : Value) (W : World) : (Instr.typeAssert (.iface 23 v) 20 53 true).run Tryd.prog W = .ok (.tuple #[.agg #[.int .i64 0, .int .i64 0, .int .i64 0, .string ⟨#[]⟩, .slice none 0 0], .bool false]) W := by kernel_rfl
theorem ta_n2 (v : Value) (W : World) : (Instr.typeAssert (.iface 23 v) 20 31 true).run Tryd.prog W = .ok (.tuple #[.slice none 0 0, .bool false]) W := by kernel_rfl
theorem ta_n3 (v : Value) (W : World) : (Instr.typeAssert (.iface 23 v) 20 62 true).run Tryd.prog W = .ok (.tuple #[.agg #[.int .i64 0, .int .i64 0, .slice none 0 0, .string ⟨#[]⟩, .slice none 0 0], .bool false]) W := by kernel_rfl
theorem ta_n4 (v : Value) (W : World) : (Instr.typeAssert (.iface 23 v) 20 65 true).run Tryd.prog W = .ok (.tuple #[.slice none 0 0, .bool false]) W := by kernel_rfl
theorem ta_n5 (v : Value) (W : World) : (Instr.typeAssert (.iface 23 v) 20 71 true).run Tryd.prog W = .ok (.tuple #[.agg #[.slice none 0 0, .slice none 0 0], .bool false]) W := by kernel_rfl
theorem ta_n6 (v : Value) (W : World) : (Instr.typeAssert (.iface 23 v) 20 83 true).run Tryd.prog W = .ok (.tuple #[.agg #[.slice none 0 0], .bool false]) W := by kernel_rfl
theorem ta_n7 (v : Value) (W : World) : (Instr.typeAssert (.iface 23 v) 20 92 true).run Tryd.prog W = .ok (.tuple #[.agg #[.int .i64 0, .int .i64 0, .slice none 0 0], .bool false]) W := by kernel_rfl
theorem ta_n8 (v : Value) (W : World) : (Instr.typeAssert (.iface 23 v) 20 98 true).run Tryd.prog W = .ok (.tuple #[.agg #[.int .i64 0, .int .i64 0, .int .i64 0, .int .i64 0, .int .i64 0, .slice none 0 0, .slice none 0 0, .int .i64 0, .slice none 0 0], .bool false]) W := by kernel_rfl
theorem ta_n9 (v : Value) (W : World) : (Instr.typeAssert (.iface 23 v) 20 101 true).run Tryd.prog W = .ok (.tuple #[.slice none 0 0, .bool false]) W := by kernel_rfl

theorem quiet_drewN {w w' : World} (h : ∃ q, w' = w.drewN q) : Below w.heap.size w w' := by
  obtain ⟨q, rfl⟩ := h
  exact ⟨rfl, rfl, rfl, Nat.le_refl _, fun _ _ => rfl⟩
theorem wkEqual_any (r : List Int) (g1 g2 : Nat) (w : World) (h1 : WkAt w r g1) (h2 : WkAt w r g2) (hr : r.length = 7) :
    Calls Tryd.prog 39 #[.slice (some ⟨g1, 0, none⟩) 7 7, .slice (some ⟨g2, 0, none⟩) 7 7] w (QuietG w (.bool true)) := by
  have hat : ∀ g, WkAt w r g → ∀ j, j < r.length → w.cell? ⟨g, 0 + j, none⟩ = some (.int .i64 (r.getD j 0)) := fun g h j hj => by
    rw [Nat.zero_add]
    exact h.cell j (by omega)
  refine (Tryd.slices_Equal_int g1 0 7 7 g2 0 7 7 r r w (by omega) (by omega) (by omega) (by omega) (hat _ h1) (hat _ h2)).mono ?_
  rintro e w' ⟨rfl, hq⟩
  exact ⟨by simp, quiet_drewN hq⟩

set_option maxRecDepth 100000 in
set_option maxHeartbeats 8000000 in
theorem wksEqual_any (L : List (List Int)) (W1 W2 : World) (v1 v2 : Value) (w : World) (h1 : Wks W1 L v1 w) (h2 : Wks W2 L v2 w) (hr : ∀ r ∈ L, r.length = 7) (hl : L.length ≤ 6) :
    Calls Tryd.prog 38 #[v1, v2, .func (Fn.func 39) #[] #[]] w (QuietG w (.bool true)) := by
  have hen := enters_of Tryd.func39 (by kernel_rfl) rfl
  obtain ⟨gs1, o1, l1, k1⟩ := h1.rep
  obtain ⟨gs2, o2, l2, k2⟩ := h2.rep
  have shape : ∀ {base : Nat} {v : Value} {gs : List Nat}, w.ownsRow base 22 1 v L.length (gs.map WkV) → ∃ A c, v = .slice A L.length c ∧ (0 < L.length → ∃ g, A = some ⟨g, 0, none⟩ ∧ L.length ≤ c) := by
    intro base v gs h
    rcases h.2 with ⟨h0, h1⟩ | ⟨g, cap, cur, e1, hg, hc, h2, h3, r⟩
    · exact ⟨none, 0, by rw [h0, h1], fun h => by omega⟩
    · exact ⟨_, cap, e1, fun _ => ⟨g, rfl, h2⟩⟩
  obtain ⟨A1, c1, rfl, s1⟩ := shape o1
  obtain ⟨A2, c2, rfl, s2⟩ := shape o2
  have hit : ∀ j, j < L.length → ∃ a1 a2 g1 g2, A1 = some ⟨a1, 0, none⟩ ∧ A2 = some ⟨a2, 0, none⟩ ∧ w.cell? ⟨a1, j, none⟩ = some (.slice (some ⟨g1, 0, none⟩) 7 7) ∧ w.cell? ⟨a2, j, none⟩ = some (.slice (some ⟨g2, 0, none⟩) 7 7) ∧ ∀ W, Below w.heap.size w W → Calls Tryd.prog 39 #[.slice (some ⟨g1, 0, none⟩) 7 7, .slice (some ⟨g2, 0, none⟩) 7 7] W (QuietG W (.bool true)) := by
    intro j hj
    obtain ⟨a1, rfl, _⟩ := s1 (by omega)
    obtain ⟨a2, rfl, _⟩ := s2 (by omega)
    have e1 := o1.cellAt j (by omega)
    have e2 := o2.cellAt j (by omega)
    have q1 := (k1 j (by omega) hj).1
    have q2 := (k2 j (by omega) hj).1
    rw [List.getElem?_map, List.getElem?_eq_getElem (by omega)] at e1 e2
    refine ⟨a1, a2, _, _, rfl, rfl, e1, e2, fun W hW => wkEqual_any L[j] _ _ W (q1.keep (hW.block _ q1.lt) hW.size) (q2.keep (hW.block _ q2.lt) hW.size) (hr _ (List.getElem_mem hj))⟩
  have hlt : ∀ j, j < L.length → ∀ a1 a2, A1 = some ⟨a1, 0, none⟩ → A2 = some ⟨a2, 0, none⟩ → a1 < w.heap.size ∧ a2 < w.heap.size := by
    intro j hj a1 a2 e1 e2
    subst e1 e2
    exact ⟨(o1.lt a1 rfl).2, (o2.lt a2 rfl).2⟩
  have HIT := Lib.hid hit
  have HLT := Lib.hid hlt
  clear h1 h2 o1 o2 k1 k2 s1 s2 shape hit hlt hr l1 l2
  generalize L.length = n at *
  go_enter Tryd.func38, Tryd.ntmps38
  go_wp2_with fail
  go_loopw [17] (fun iv wx => ∃ j : Nat, iv = .int .i64 j ∧ j ≤ n ∧ Hid (Below w.heap.size w wx)) (fun iv _ => n - (intOf iv).toNat)
  case atStart => exact ⟨0, rfl, Nat.zero_le _, Lib.hid (Below.refl _ _)⟩
  case round =>
    obtain ⟨j, rfl, hjl, HR⟩ := hrel
    by_cases hj : j < n
    · have p2 : (j : Int) < n := by omega
      obtain ⟨a1, a2, g1, g2, rfl, rfl, e1, e2, hC⟩ := HIT.out j hj
      obtain ⟨t1, t2⟩ := HLT.out j hj a1 a2 rfl rfl
      have hbel := HR.out
      replace e1 := (hbel.cell (p := ⟨a1, j, none⟩) t1).trans e1
      replace e2 := (hbel.cell (p := ⟨a2, j, none⟩) t2).trans e2
      have HC := Lib.hid (hC wr hbel)
      have HB := Lib.hid hbel
      clear hC hbel
      go_wp2_with fail
      refine HC.out.mono ?_
      rintro e3 w3 ⟨rfl, hb3⟩
      have HB3 := Lib.hid (HB.out.trans (hb3.mono HB.out.size))
      clear hb3
      go_wp2_with fail
      go_roundw
      case rel => exact ⟨j + 1, by go_num, hj, HB3⟩
      case measure => simp [intOf]; omega
    · have p2 : ¬ (j : Int) < n := by omega
      go_wp2_with fail
      go_ret
      exact ⟨rfl, HR.out⟩

set_option maxRecDepth 100000 in
set_option maxHeartbeats 8000000 in
theorem alikeG_any (L : List (List Int)) (W1 W2 : World) (v1 v2 : Value) (w : World) (h1 : Wks W1 L v1 w) (h2 : Wks W2 L v2 w) (hr : ∀ r ∈ L, r.length = 7) (hl : L.length ≤ 6) :
    Calls Tryd.prog 9 #[.iface 23 v1, .iface 23 v2] w (QuietG w (.bool true)) := by
  have HC := Lib.hid (wksEqual_any L W1 W2 v1 v2 w h1 h2 hr hl)
  have t0 := ta_ok v1
  have t0' := ta_ok v2
  have t1 := ta_n1 v1
  have t2 := ta_n2 v1
  have t3 := ta_n3 v1
  have t4 := ta_n4 v1
  have t5 := ta_n5 v1
  have t6 := ta_n6 v1
  have t7 := ta_n7 v1
  have t8 := ta_n8 v1
  have t9 := ta_n9 v1
  clear h1 h2 hr hl
  go_enter Tryd.func9, Tryd.ntmps9
  go_wp2_with fail
  refine HC.out.mono ?_
  rintro e3 w3 ⟨rfl, hb3⟩
  go_wp2_with fail
  go_ret
  exact ⟨ret_boolC (by simp), hb3⟩
end Go.Proofs.YtfpiannnggkdiaaDoor
