/- firstOf: the walk. -/
import Derived.Test.YticdapkljbillaaGreatDoorTgF
import Derived.WalkKit
import Derived.Lib.Hide
import Derived.Outline
import Derived.Below
import Derived.Deep.QuietTactic
import Derived.BigQuiet
namespace Go.Proofs.YticdapkljbillaaGreatDoor
open Go.RowKit Go.Maps

/-- A slice of numbers, that is only read. -/
structure IntsAt (w : World) (B : Nat) (zs : List Int) (v : Value) : Prop where
  sl : ∃ A c, v = .slice A zs.length c ∧ (zs = [] ∨ ∃ b off, A = some ⟨b, off, none⟩ ∧ b < B ∧ ∀ j, j < zs.length → w.cell? ⟨b, off + j, none⟩ = some (.int .i64 (zs.getD j 0)))
  len : zs.length ≤ 4000000
  wf : ∀ n ∈ zs, (Lit.int .i64 n).wf = true
theorem IntsAt.below {w w' : World} {B : Nat} {zs : List Int} {v : Value} (h : IntsAt w B zs v) (hb : Below B w w') : IntsAt w' B zs v := by
  obtain ⟨A, c, e, h1⟩ := h.sl
  refine ⟨⟨A, c, e, ?_⟩, h.len, h.wf⟩
  rcases h1 with h1 | ⟨b, off, ea, hlt, hc⟩
  · exact .inl h1
  · exact .inr ⟨b, off, ea, hlt, fun j hj => (hb.cell (p := ⟨b, off + j, none⟩) hlt).trans (hc j hj)⟩
theorem getD_mem {zs : List Int} {j : Nat} (h : j < zs.length) : zs.getD j 0 ∈ zs := by
  rw [List.getD_eq_getElem?_getD, List.getElem?_eq_getElem h]
  exact List.getElem_mem h

theorem keyI : Keyed Tryz.prog 3 := int_keyed Tryz.underlying3
theorem zeroI (w : World) : (zeroValue 3).run Tryz.prog w = .ok (.int .i64 0) w := by kernel_rfl

/-- The pairs of both lists. -/
def prs (fs ts : List Int) : List (Int × Int) := fs.zip ts
theorem prs_len {fs ts : List Int} (h : fs.length = ts.length) : (prs fs ts).length = fs.length := by unfold prs; rw [List.length_zip, h]; exact Nat.min_self _
theorem prs_take {fs ts : List Int} (h : fs.length = ts.length) {k : Nat} (hk : k < fs.length) : (prs fs ts).take (k + 1) = (prs fs ts).take k ++ [(fs.getD k 0, ts.getD k 0)] := by
  have hl : k < (prs fs ts).length := by rw [prs_len h]; exact hk
  have h2 : k < ts.length := by omega
  rw [List.take_succ_eq_append_getElem hl]
  congr 2
  have e : (prs fs ts)[k]'hl = (fs[k], ts[k]) := by unfold prs; exact List.getElem_zip
  rw [e, List.getD_eq_getElem?_getD, List.getD_eq_getElem?_getD, List.getElem?_eq_getElem hk, List.getElem?_eq_getElem h2]
  rfl

/-- At the head of each round. -/
def FoRow (w : World) (fs ts : List Int) (k : Nat) (wr : World) : Prop :=
  ∃ D, wr.ownsMap Tryz.prog 3 (plainElem (H := Unit) Tryz.prog 3) w.heap.size k D ∧ MapIs D (nxt ((prs fs ts).take k)) ∧ Below w.heap.size w wr
def GivesMap (w : World) (fs ts : List Int) (e : Ending) (w' : World) : Prop :=
  ∃ D, e = .returned (.map (some w.heap.size)) ∧ w'.ownsMap Tryz.prog 3 (plainElem (H := Unit) Tryz.prog 3) w.heap.size fs.length D ∧ MapIs D (nxt (prs fs ts)) ∧ Below w.heap.size w w'

set_option maxRecDepth 100000 in
set_option maxHeartbeats 4000000 in
theorem firstOf_any (fs ts : List Int) (vf vt : Value) (w : World) (hf : IntsAt w w.heap.size fs vf) (ht : IntsAt w w.heap.size ts vt) (hl : fs.length = ts.length) :
    Calls Tryz.prog 20 #[vf, vt] w (GivesMap w fs ts) := by
  have HF := Lib.hid hf
  have HT := Lib.hid ht
  have hlen := hf.len
  obtain ⟨A1, c1, rfl, hc1⟩ := hf.sl
  obtain ⟨A2, c2, rfl, hc2⟩ := ht.sl
  obtain ⟨n, hn⟩ : ∃ n, n = fs.length := ⟨_, rfl⟩
  rw [← hl, ← hn] at hc2 ⊢
  rw [← hn] at hc1 hlen
  have HN := Lib.hid hn
  have HC1 := Lib.hid hc1
  have HC2 := Lib.hid hc2
  have HLL := Lib.hid hl
  have hn2 : (n : Int) ≤ 4000000 := by omega
  have hn0 : (0 : Int) ≤ n := by omega
  have hmm : ∀ W : World, (Instr.makeMap 40 (some (.int .i64 (n : Int)))).run Tryz.prog W = .ok (.map (some W.heap.size)) (W.alloc (.map #[] 0)) := fun _ => by kernel_rfl
  clear hf ht hn hc1 hc2 hl
  go_enter Tryz.func20, Tryz.ntmps20
  go_wp2_with fail
  go_loopw [15] (fun i wr => ∃ k : Nat, k ≤ n ∧ i = .int .i64 k ∧ Hid (FoRow w fs ts k wr)) (fun i _ => n - (intOf i).toNat)
  case atStart => exact ⟨0, Nat.zero_le _, rfl, Lib.hid ⟨.map [], World.ownsMap_made _ _ _ _, mapIs_nil, (Below.refl _ _).alloc (Nat.le_refl _) _⟩⟩
  case round =>
    obtain ⟨k, hk, rfl, HR⟩ := hrel
    obtain ⟨D, hown, hD, hbel⟩ := HR.out
    clear HR
    by_cases hlt : k < n
    · have hkf : k < fs.length := by rw [← HN.out]; exact hlt
      have hkt : k < ts.length := by rw [← HLL.out]; exact hkf
      have p1 : (k : Int) < n := by omega
      obtain ⟨b1, o1, rfl, l1, d1⟩ : ∃ b off, A1 = some ⟨b, off, none⟩ ∧ b < w.heap.size ∧ ∀ j, j < n → w.cell? ⟨b, off + j, none⟩ = some (.int .i64 (fs.getD j 0)) := by
        rcases HC1.out with h | h
        · rw [h] at hkf; exact absurd hkf (by simp)
        · exact h
      obtain ⟨b2, o2, rfl, l2, d2⟩ : ∃ b off, A2 = some ⟨b, off, none⟩ ∧ b < w.heap.size ∧ ∀ j, j < n → w.cell? ⟨b, off + j, none⟩ = some (.int .i64 (ts.getD j 0)) := by
        rcases HC2.out with h | h
        · rw [h] at hkt; exact absurd hkt (by simp)
        · exact h
      have e1 := (hbel.cell (p := ⟨b1, o1 + k, none⟩) l1).trans (d1 k hlt)
      have e2 := (hbel.cell (p := ⟨b2, o2 + k, none⟩) l2).trans (d2 k hlt)
      have w1 := HF.out.wf _ (getD_mem hkf)
      have w2 := HT.out.wf _ (getD_mem hkt)
      obtain ⟨x, hx⟩ : ∃ x, x = fs.getD k 0 := ⟨_, rfl⟩
      obtain ⟨y, hy⟩ : ∃ y, y = ts.getD k 0 := ⟨_, rfl⟩
      rw [← hx] at e1 w1
      rw [← hy] at e2 w2
      have htk := prs_take HLL.out hkf
      rw [← hx, ← hy] at htk
      have HTK := Lib.hid htk
      have hkey : keyOf Tryz.prog 3 (.int .i64 x) = some (intK x) := keyOf_int_mk Tryz.underlying3 w1
      have HD := Lib.hid hD
      have HB := Lib.hid hbel
      clear hx hy htk hD hbel d1 d2
      rcases hh : has D (intK x) with _ | _
      · have HH := Lib.hid hh
        have HP : Hid (MapIs (D.put (intK x) (.lit (.int .i64 y))) (nxt ((prs fs ts).take (k + 1)))) := Lib.hid (by rw [HTK.out]; exact MapIs.put (p := (x, y)) HD.out hh)
        go_wp2_with (first
          | (at_lookup; refine wpList_lookup_own_ok_int _ rfl _ _ 40 rfl 3 3 .i64 keyI Tryz.underlying40 Tryz.underlying3 (zeroI _) w.heap.size k D rfl hown _ _ rfl hkey ?_; intro c _ _)
          | (at_mapUpdate; refine wpList_mapUpdate_own _ rfl _ _ _ 40 rfl 3 3 keyI Tryz.underlying40 _ w.heap.size k D rfl hown (by unfold maxLen; omega) _ _ _ rfl rfl hkey _ [] (plainElem_int Tryz.underlying3 w2) ?_; intro w3 hown3 hgrow3))
        go_roundw
        case rel => exact ⟨k + 1, by omega, by go_num, Lib.hid ⟨_, hown3, HP.out, HB.out.grown hgrow3 HB.out.size (fun j hj => by cases hj; exact Nat.le_refl _)⟩⟩
        case measure => simp [intOf]; omega
      · have HP : Hid (MapIs D (nxt ((prs fs ts).take (k + 1)))) := Lib.hid (by rw [HTK.out]; exact MapIs.keep (p := (x, y)) HD.out hh)
        go_wp2_with (first
          | (at_lookup; refine wpList_lookup_own_ok_int _ rfl _ _ 40 rfl 3 3 .i64 keyI Tryz.underlying40 Tryz.underlying3 (zeroI _) w.heap.size k D rfl hown _ _ rfl hkey ?_; intro c _ _))
        go_roundw
        case rel => exact ⟨k + 1, by omega, by go_num, Lib.hid ⟨_, hown.mono (by omega), HP.out, HB.out⟩⟩
        case measure => simp [intOf]; omega
    · have p1 : ¬ (k : Int) < n := by omega
      have hkn : k = n := by omega
      have HG : Hid (GivesMap w fs ts (.returned (.map (some w.heap.size))) wr) := Lib.hid (by
        refine ⟨D, rfl, ?_, ?_, hbel⟩
        · rw [← HN.out, ← hkn]; exact hown
        · rw [hkn, HN.out, ← prs_len HLL.out, List.take_length] at hD; exact hD)
      clear hown hD hbel
      go_wp2
      go_ret
      exact HG.out
end Go.Proofs.YticdapkljbillaaGreatDoor
