/- Properties: days, checkFields. Properties: checkFields. Properties: CheckValue. -/
import Derived.Test.YtfpiannnggkdiaaDoorPtF
import Derived.WalkKit
import Derived.Lib.Hide
import Derived.Outline
import Derived.Below
import Derived.Deep.QuietTactic
import Derived.BigQuiet
import Derived.Deep.DeepCutAuto
import Derived.Deep.CutBlock
import Derived.Deep.LoopGhost
namespace Go.Proofs.YtfpiannnggkdiaaDoor
open Go.RowKit Go.Shelf

def daysE (a b : Int) : Int := if inR a 0 100000 = false ∨ inR b 0 100000 = false then 2 else if b < a then 5 else 0
set_option maxHeartbeats 2000000 in
theorem days_any (a b : Int) (w : World) : Calls Tryd.prog 85 #[.int .i64 a, .int .i64 b] w fun e w' => (∃ x y : Int, e = .returned (.tuple #[.int .i64 x, .int .i64 y, .int .i64 (daysE a b)])) ∧ w' = w := by
  have HA := Lib.hid (fun W => isDay_any a W)
  have HB := Lib.hid (fun W => isDay_any b W)
  rcases h1 : inR a 0 100000 with _ | _
  · rw [h1] at HA
    have HE : Hid (daysE a b = 2) := Lib.hid (by unfold daysE; rw [if_pos (.inl h1)])
    clear h1
    go_enter Tryd.func85, Tryd.ntmps85
    go_wp2_with fail
    refine (HA.out _).mono ?_
    rintro e1 w1 ⟨rfl, hw⟩
    rw [hw]
    clear hw
    go_wp2_with fail
    go_ret3
    exact ⟨⟨0, 0, by rw [HE.out]; rfl⟩, rfl⟩
  · rw [h1] at HA
    rcases h2 : inR b 0 100000 with _ | _
    · rw [h2] at HB
      have HE : Hid (daysE a b = 2) := Lib.hid (by unfold daysE; rw [if_pos (.inr h2)])
      clear h1 h2
      go_enter Tryd.func85, Tryd.ntmps85
      go_wp2_with fail
      refine (HA.out _).mono ?_
      rintro e1 w1 ⟨rfl, hw⟩
      rw [hw]
      clear hw
      go_wp2_with fail
      refine (HB.out _).mono ?_
      rintro e2 w2 ⟨rfl, hw⟩
      rw [hw]
      clear hw
      go_wp2_with fail
      go_ret3
      exact ⟨⟨0, 0, by rw [HE.out]; rfl⟩, rfl⟩
    · rw [h2] at HB
      by_cases h3 : b < a
      · have HE : Hid (daysE a b = 5) := Lib.hid (by unfold daysE; rw [if_neg (by rw [h1, h2]; simp), if_pos h3])
        clear h1 h2
        go_enter Tryd.func85, Tryd.ntmps85
        go_wp2_with fail
        refine (HA.out _).mono ?_
        rintro e1 w1 ⟨rfl, hw⟩
        rw [hw]
        clear hw
        go_wp2_with fail
        refine (HB.out _).mono ?_
        rintro e2 w2 ⟨rfl, hw⟩
        rw [hw]
        clear hw
        go_wp2_with fail
        go_ret3
        exact ⟨⟨0, 0, by rw [HE.out]; rfl⟩, rfl⟩
      · have HE : Hid (daysE a b = 0) := Lib.hid (by unfold daysE; rw [if_neg (by rw [h1, h2]; simp), if_neg h3])
        clear h1 h2
        go_enter Tryd.func85, Tryd.ntmps85
        go_wp2_with fail
        refine (HA.out _).mono ?_
        rintro e1 w1 ⟨rfl, hw⟩
        rw [hw]
        clear hw
        go_wp2_with fail
        refine (HB.out _).mono ?_
        rintro e2 w2 ⟨rfl, hw⟩
        rw [hw]
        clear hw
        go_wp2_with fail
        go_ret3
        exact ⟨⟨a, b, by rw [HE.out]; rfl⟩, rfl⟩
end Go.Proofs.YtfpiannnggkdiaaDoor
namespace Go.Proofs.YtfpiannnggkdiaaDoor
open Go.RowKit Go.Shelf

theorem textE_eq (s : ByteArray) : checkV s = textE s := rfl
theorem fields_kind {k i t : Int} {s : ByteArray} {n : Nat} (h : ¬ (0 ≤ k ∧ k ≤ 7)) : fieldsE k i t s n = 10 := by unfold fieldsE; rw [if_pos h]
theorem fields_unused {k i t : Int} {s : ByteArray} {n : Nat} (h : 0 ≤ k ∧ k ≤ 7) (h1 : unusedB k i t s n = true) : fieldsE k i t s n = 1 := by unfold fieldsE; rw [if_neg (by simpa using h), if_pos h1]
theorem fields_in {k i t : Int} {s : ByteArray} {n : Nat} (h : 0 ≤ k ∧ k ≤ 7) (h1 : unusedB k i t s n = false) : fieldsE k i t s n =
    (if k = 1 then rangeE i 0 1 else if k = 2 then rangeE i (-1000000000) 1000000000 else if k = 4 then rangeE i 0 100000 else if k = 5 then daysE i t else if k = 3 then textE s else if k = 6 then titleE s else 0) := by
  unfold fieldsE daysE; rw [if_neg (by simpa using h), if_neg (by simp [h1])]

set_option maxRecDepth 100000 in
set_option maxHeartbeats 8000000 in
theorem checkFields_any (k i t : Int) (s : ByteArray) (A : Option Addr) (n c : Nat) (w : World) (hz : s.size ≤ 1048576) (hn : n ≤ 1048576) :
    Calls Tryd.prog 66 #[.agg #[.int .i64 k, .int .i64 i, .int .i64 t, .string s, .slice A n c]] w (Quiet w (.int .i64 (fieldsE k i t s n))) := by
  have HK := Lib.hid (fun W => isKind_any k W)
  by_cases hk : 0 ≤ k ∧ k ≤ 7
  · rw [show inR k 0 7 = true from decide_eq_true hk] at HK
    have HU := Lib.hid (fun W => hasUnused_any k i t s A n c W hk hz hn)
    cases hu : unusedB k i t s n with
    | true =>
      have HE := Lib.hid (fields_unused hk hu)
      rw [hu] at HU
      clear hu hk
      go_enter Tryd.func66, Tryd.ntmps66
      go_wp2_with fail
      refine (HK.out _).mono ?_
      rintro e1 w1 ⟨rfl, hw⟩
      rw [hw]
      clear hw w1
      go_wp2_with fail
      refine (HU.out _).mono ?_
      rintro e2 w2 ⟨rfl, hb2⟩
      have HB := Lib.hid (((Below.refl _ w).alloc (Nat.le_refl _) _).trans (hb2.mono (by simp)))
      clear hb2
      go_wp2_with fail
      go_ret
      exact ⟨ret_int HE.out.symm, HB.out⟩
    | false =>
      have HE := Lib.hid (fields_in hk hu)
      rw [hu] at HU
      clear hu
      have hk8 : k = 0 ∨ k = 1 ∨ k = 2 ∨ k = 3 ∨ k = 4 ∨ k = 5 ∨ k = 6 ∨ k = 7 := by omega
      clear hk
      have HW : Hid (∀ (o : Obj) (w2 : World), Below (w.alloc o).heap.size (w.alloc o) w2 → Below w.heap.size w w2 ∧ w2.heap[w.heap.size]? = some o) := Lib.hid (fun o w2 hb => ⟨((Below.refl _ w).alloc (Nat.le_refl _) o).trans (hb.mono (by simp)), (hb.block _ (by simp)).trans (heap_alloc_new w o)⟩)
      rcases hk8 with rfl | rfl | rfl | rfl | rfl | rfl | rfl | rfl
      all_goals
        go_enter Tryd.func66, Tryd.ntmps66
        go_wp2_with fail
        refine (HK.out _).mono ?_
        rintro e1 w1 ⟨rfl, hw⟩
        rw [hw]
        clear hw w1
        go_wp2_with fail
        refine (HU.out _).mono ?_
        rintro e2 w2 ⟨rfl, hb2⟩
        obtain ⟨hb3, hblk⟩ := HW.out _ _ hb2
        have c0 := cell_of_row w2 w.heap.size 0 _ _ (0, 0) hblk
        have c1 := cell_of_row w2 w.heap.size 1 _ _ (0, 0) hblk
        have c2 := cell_of_row w2 w.heap.size 2 _ _ (0, 0) hblk
        have c3 := cell_of_row w2 w.heap.size 3 _ _ (0, 0) hblk
        have HB := Lib.hid hb3
        clear hb2 hb3 hblk
        go_wp2_with fail
      · go_ret
        exact ⟨ret_int (by rw [HE.out]; rfl), HB.out⟩
      · refine (checkRange_any i 0 1 _).mono ?_
        rintro e3 w3 ⟨rfl, hw⟩
        rw [hw]
        clear hw
        go_wp2_with fail
        go_ret
        exact ⟨ret_int (by rw [HE.out]; rfl), HB.out⟩
      · refine (checkRange_any i (-1000000000) 1000000000 _).mono ?_
        rintro e3 w3 ⟨rfl, hw⟩
        rw [hw]
        clear hw
        go_wp2_with fail
        go_ret
        exact ⟨ret_int (by rw [HE.out]; rfl), HB.out⟩
      · refine (check_any s _ (by omega)).mono ?_
        rintro e3 w3 ⟨rfl, hw⟩
        rw [hw]
        clear hw
        go_wp2_with fail
        go_ret
        exact ⟨ret_int (by rw [HE.out]; rfl), HB.out⟩
      · refine (checkRange_any i 0 100000 _).mono ?_
        rintro e3 w3 ⟨rfl, hw⟩
        rw [hw]
        clear hw
        go_wp2_with fail
        go_ret
        exact ⟨ret_int (by rw [HE.out]; rfl), HB.out⟩
      · refine (days_any i t _).mono ?_
        rintro e3 w3 ⟨⟨x, y, rfl⟩, hw⟩
        rw [hw]
        clear hw
        go_wp2_with fail
        go_ret
        exact ⟨ret_int (by rw [HE.out]; rfl), HB.out⟩
      · refine (checkTitle_any s _ hz).mono ?_
        rintro e3 w3 ⟨rfl, hb4⟩
        have HB4 := Lib.hid (HB.out.trans (hb4.mono HB.out.size))
        clear hb4
        go_wp2_with fail
        go_ret
        exact ⟨ret_int (by rw [HE.out]; rfl), HB4.out⟩
      · go_ret
        exact ⟨ret_int (by rw [HE.out]; rfl), HB.out⟩
  · rw [show inR k 0 7 = false from decide_eq_false hk] at HK
    have HE := Lib.hid (fields_kind (i := i) (t := t) (s := s) (n := n) hk)
    clear hk
    go_enter Tryd.func66, Tryd.ntmps66
    go_wp2_with fail
    refine (HK.out _).mono ?_
    rintro e1 w1 ⟨rfl, hw⟩
    rw [hw]
    clear hw
    go_wp2_with fail
    go_ret
    exact ⟨ret_int HE.out.symm, (Below.refl _ _).alloc (Nat.le_refl _) _⟩
end Go.Proofs.YtfpiannnggkdiaaDoor
namespace Go.Proofs.YtfpiannnggkdiaaDoor
open Go.RowKit Go.Shelf

structure VlRow (l : List V) (w : World) (j : Nat) (wx : World) : Prop where
  le : j ≤ l.length
  bad : itemsE l = itemsE (l.drop j)
  bel : Below w.heap.size w wx
theorem valueE_mk (k i t : Int) (s : ByteArray) (l : List V) : valueE (.mk k i t s l) = if fieldsE k i t s l.length ≠ 0 then fieldsE k i t s l.length else if 20 < l.length then 4 else itemsE l := rfl
theorem value_bad {k i t : Int} {s : ByteArray} {l : List V} (h : fieldsE k i t s l.length ≠ 0) : valueE (.mk k i t s l) = fieldsE k i t s l.length := by rw [valueE_mk, if_pos h]
theorem value_many {k i t : Int} {s : ByteArray} {l : List V} (h : fieldsE k i t s l.length = 0) (h1 : 20 < l.length) : valueE (.mk k i t s l) = 4 := by rw [valueE_mk, if_neg (by simp [h]), if_pos h1]
theorem value_items {k i t : Int} {s : ByteArray} {l : List V} (h : fieldsE k i t s l.length = 0) (h1 : ¬ 20 < l.length) : valueE (.mk k i t s l) = itemsE l := by rw [valueE_mk, if_neg (by simp [h]), if_neg h1]
/-- An item's cells. -/
theorem itemIn {w : World} {B : Nat} {l : List V} {A : Option Addr} {c j : Nat} (h : SlAt w B l (.slice A l.length c)) (hj : j < l.length) :
    ∃ b off kx ix tx sx lx Ax cx, A = some ⟨b, off, none⟩ ∧ l[j] = .mk kx ix tx sx lx ∧ b < B ∧ w.cell? ⟨b, off + j * 5, none⟩ = some (.int .i64 kx) ∧ w.cell? ⟨b, off + j * 5 + 1, none⟩ = some (.int .i64 ix) ∧ w.cell? ⟨b, off + j * 5 + 2, none⟩ = some (.int .i64 tx) ∧
      w.cell? ⟨b, off + j * 5 + 3, none⟩ = some (.string sx) ∧ w.cell? ⟨b, off + j * 5 + 4, none⟩ = some (.slice Ax lx.length cx) ∧ sx.size ≤ 1048576 ∧ lx.length ≤ 1048576 ∧ SlAt w B lx (.slice Ax lx.length cx) := by
  obtain ⟨A', c', e, h1, h2, h3⟩ := h
  injection e with e1 e2 e3
  subst e1
  rcases h3 with h3 | ⟨b, off, rfl, h3⟩
  · rw [h3] at hj; exact absurd hj (by simp)
  · obtain ⟨x, hx, hc⟩ := RowAt.get l b off j h3 hj
    obtain ⟨kx, ix, tx, sx, lx⟩ := x
    have hx2 : l[j] = .mk kx ix tx sx lx := by
      rw [List.getElem?_eq_getElem hj] at hx
      exact Option.some.inj hx
    unfold CellsAt at hc
    obtain ⟨g0, g1, g2, g3, g4, gz, Ax, cx, g5, g6, g7, g8⟩ := hc
    exact ⟨b, off, kx, ix, tx, sx, lx, Ax, cx, rfl, hx2, g0, g1, g2, g3, g4, g5, gz, g6, Ax, cx, rfl, g6, g7, g8⟩

set_option maxRecDepth 100000 in
set_option maxHeartbeats 8000000 in
theorem checkValue_any (k i t : Int) (s : ByteArray) (l : List V) (A : Option Addr) (c : Nat) (w : World) (hz : s.size ≤ 1048576) (hl : SlAt w w.heap.size l (.slice A l.length c)) :
    Calls Tryd.prog 44 #[.agg #[.int .i64 k, .int .i64 i, .int .i64 t, .string s, .slice A l.length c]] w (Quiet w (.int .i64 (valueE (.mk k i t s l)))) := by
  have hn : l.length ≤ 1048576 := by obtain ⟨_, _, e, h1, _⟩ := hl; exact h1
  have HSL := Lib.hid hl
  obtain ⟨n, hnn⟩ : ∃ n, n = l.length := ⟨_, rfl⟩
  rw [← hnn] at hn HSL ⊢
  have HN := Lib.hid hnn
  have HF := Lib.hid (fun W => checkFields_any k i t s A n c W hz hn)
  clear hl hnn
  have HW : Hid (∀ (o : Obj) (w2 : World), Below (w.alloc o).heap.size (w.alloc o) w2 → Below w.heap.size w w2 ∧ w2.heap[w.heap.size]? = some o) := Lib.hid (fun o w2 hb => ⟨((Below.refl _ w).alloc (Nat.le_refl _) o).trans (hb.mono (by simp)), (hb.block _ (by simp)).trans (heap_alloc_new w o)⟩)
  by_cases hf : fieldsE k i t s n = 0
  · rw [hf] at HF
    by_cases h20 : 20 < n
    · have HE := Lib.hid (value_many (by rw [← HN.out]; exact hf) (by rw [← HN.out]; exact h20))
      have p1 : (20 : Int) < n := by omega
      clear hf h20
      go_enter Tryd.func44, Tryd.ntmps44
      go_wp2_with fail
      refine (HF.out _).mono ?_
      rintro e2 w2 ⟨rfl, hb2⟩
      obtain ⟨hb3, hblk⟩ := HW.out _ _ hb2
      have c4 := cell_of_row w2 w.heap.size 4 _ _ (0, 0) hblk
      have HB := Lib.hid hb3
      clear hb2 hb3 hblk
      go_wp2_with fail
      go_ret
      exact ⟨ret_int HE.out.symm, HB.out⟩
    · have HE := Lib.hid (value_items (k := k) (i := i) (t := t) (s := s) (l := l) (by rw [← HN.out]; exact hf) (by rw [← HN.out]; exact h20))
      have p1 : ¬ (20 : Int) < n := by omega
      have hn20 : n ≤ 20 := by omega
      clear hf h20
      go_enter Tryd.func44, Tryd.ntmps44
      go_wp2_with fail
      refine (HF.out _).mono ?_
      rintro e2 w2 ⟨rfl, hb2⟩
      obtain ⟨hb3, hblk⟩ := HW.out _ _ hb2
      have c4 := cell_of_row w2 w.heap.size 4 _ _ (0, 0) hblk
      have HB := Lib.hid hb3
      clear hb2 hb3 hblk
      go_wp2_with fail
      go_loopw [19] (fun iv wx => ∃ j : Nat, iv = .int .i64 j ∧ Hid (VlRow l w j wx)) (fun iv _ => n - (intOf iv).toNat)
      case atStart => exact ⟨0, rfl, Lib.hid ⟨Nat.zero_le _, rfl, HB.out⟩⟩
      case round =>
        clear c4
        obtain ⟨j, rfl, HR⟩ := hrel
        have hjl : j ≤ n := by have := HR.out.le; rw [HN.out]; exact this
        by_cases hj : j < n
        · have hj2 : j < l.length := by rw [← HN.out]; exact hj
          have p2 : (j : Int) < n := by omega
          obtain ⟨b, off, kx, ix, tx, sx, lx, Ax, cx, rfl, hx, hlt, g0, g1, g2, g3, g4, gz, gl, gs⟩ := itemIn (by rw [← HN.out]; exact HSL.out) hj2
          replace g0 := (HR.out.bel.cell (p := ⟨b, off + j * 5, none⟩) hlt).trans g0
          replace g1 := (HR.out.bel.cell (p := ⟨b, off + j * 5 + 1, none⟩) hlt).trans g1
          replace g2 := (HR.out.bel.cell (p := ⟨b, off + j * 5 + 2, none⟩) hlt).trans g2
          replace g3 := (HR.out.bel.cell (p := ⟨b, off + j * 5 + 3, none⟩) hlt).trans g3
          replace g4 := (HR.out.bel.cell (p := ⟨b, off + j * 5 + 4, none⟩) hlt).trans g4
          have hie : itemE l[j] = if kx = 0 ∨ kx = 7 then 10 else fieldsE kx ix tx sx lx.length := by rw [hx]; rfl
          have HBL := Lib.hid HR.out.bel
          have hszw := HBL.out.size
          obtain ⟨m, hm⟩ : ∃ m, m = lx.length := ⟨_, rfl⟩
          rw [← hm] at g4 gl hie
          have HFX := Lib.hid (fun W => checkFields_any kx ix tx sx Ax m cx W gz gl)
          have HIE := Lib.hid hie
          clear hx gs hm hie
          by_cases hk0 : kx = 0
          · have hE2 := itemsE_hit hj2 HR.out.bad (by rw [HIE.out, if_pos (.inl hk0)]; decide)
            rw [HIE.out, if_pos (.inl hk0)] at hE2
            have HE2 := Lib.hid hE2
            subst hk0
            clear hE2 HR
            go_wp2_with fail
            go_ret
            exact ⟨ret_int (by rw [HE.out, HE2.out]), HBL.out.alloc hszw _⟩
          · by_cases hk7 : kx = 7
            · have hE2 := itemsE_hit hj2 HR.out.bad (by rw [HIE.out, if_pos (.inr hk7)]; decide)
              rw [HIE.out, if_pos (.inr hk7)] at hE2
              have HE2 := Lib.hid hE2
              subst hk7
              clear hE2 HR hk0
              go_wp2_with fail
              go_ret
              exact ⟨ret_int (by rw [HE.out, HE2.out]), HBL.out.alloc hszw _⟩
            · have q0 : (kx == 0) = false := by simpa using hk0
              have q7 : (kx == 7) = false := by simpa using hk7
              have hie2 : itemE l[j] = fieldsE kx ix tx sx m := by rw [HIE.out, if_neg (by simp [hk0, hk7])]
              by_cases hfx : fieldsE kx ix tx sx m = 0
              · have hnx := itemsE_at hj2 HR.out.bad (by rw [hie2]; exact hfx)
                have HNX := Lib.hid hnx
                rw [hfx] at HFX
                clear hnx hie2 hfx hk0 hk7 HIE HR
                go_wp2_with fail
                refine (HFX.out _).mono ?_
                rintro e5 w5 ⟨rfl, hb5⟩
                have HB5 := Lib.hid ((HBL.out.alloc hszw _).trans (hb5.mono (by simp; omega)))
                clear hb5
                go_wp2_with fail
                go_roundw
                case rel => exact ⟨j + 1, by go_num, Lib.hid ⟨hj2, HNX.out, HB5.out⟩⟩
                case measure => simp [intOf]; omega
              · have hE2 := itemsE_hit hj2 HR.out.bad (by rw [hie2]; exact hfx)
                rw [hie2] at hE2
                obtain ⟨r, hr⟩ : ∃ r, r = fieldsE kx ix tx sx m := ⟨_, rfl⟩
                rw [← hr] at hE2 HFX hfx
                have qr : (r == 0) = false := by simpa using hfx
                have HE2 := Lib.hid hE2
                clear hE2 hie2 hfx hk0 hk7 HIE HR hr
                go_wp2_with fail
                refine (HFX.out _).mono ?_
                rintro e5 w5 ⟨rfl, hb5⟩
                have HB5 := Lib.hid ((HBL.out.alloc hszw _).trans (hb5.mono (by simp; omega)))
                clear hb5
                go_wp2_with fail
                go_ret
                exact ⟨ret_int (by rw [HE.out, HE2.out]), HB5.out⟩
        · have p2 : ¬ (j : Int) < n := by omega
          have hend := itemsE_end (by rw [← HN.out]; omega) HR.out.bad
          have HEND := Lib.hid hend
          have HBL := Lib.hid HR.out.bel
          clear hend HR
          go_wp2_with fail
          go_ret
          exact ⟨ret_int (by rw [HE.out, HEND.out]), HBL.out⟩
  · have hE := value_bad (k := k) (i := i) (t := t) (s := s) (l := l) (by rw [← HN.out]; exact hf)
    rw [← HN.out] at hE
    obtain ⟨r, hr⟩ : ∃ r, r = fieldsE k i t s n := ⟨_, rfl⟩
    rw [← hr] at hE HF hf
    have qr : (r == 0) = false := by simpa using hf
    have HE := Lib.hid hE
    clear hE hf hr
    go_enter Tryd.func44, Tryd.ntmps44
    go_wp2_with fail
    refine (HF.out _).mono ?_
    rintro e2 w2 ⟨rfl, hb2⟩
    have HB := Lib.hid (HW.out _ _ hb2).1
    clear hb2
    go_wp2_with fail
    go_ret
    exact ⟨ret_int HE.out.symm, HB.out⟩
end Go.Proofs.YtfpiannnggkdiaaDoor
