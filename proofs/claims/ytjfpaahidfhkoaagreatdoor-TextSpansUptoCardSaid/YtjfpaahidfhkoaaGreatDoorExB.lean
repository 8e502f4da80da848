/- The reference's PlainText. -/
import Derived.Test.YtjfpaahidfhkoaaGreatDoorTzQ
import Derived.Test.YtjfpaahidfhkoaaGreatDoorTyA
import Derived.WalkKit
import Derived.Lib.Hide
import Derived.Outline
import Derived.Deep.DeepCutAuto
import Derived.Deep.CutBlock
import Derived.Deep.LoopGhost
import Derived.Deep.QuietTactic
import Derived.BigQuiet
import Derived.BigRegion
import Derived.Lib.SmallJoins
namespace Go.Proofs.YtjfpaahidfhkoaaGreatDoor
open Go.RowKit

theorem sp_len {s : ByteArray} : ∀ {a b : Nat} {l : List Sp}, SpRow s a l b → l.length + a ≤ b
  | a, b, [], h => by have : a = b := h; simp; omega
  | a, b, x :: r, h => by
    have h1 := sp_len h.2.2
    have h2 := h.2.1.lt
    have h3 := h.1
    simp only [List.length_cons]; omega
theorem sps_len (s : ByteArray) : (spans s).length ≤ s.size := by have := sp_len (spans_row s); omega
theorem sps_in (s : ByteArray) : ∀ x ∈ spans s, SpIn s x := (spans_row s).mem

/-- What is shown of the first j spans. -/
def accS (s : ByteArray) (j : Nat) : ByteArray := ⟨(shownL s ((spans s).take j)).toArray⟩
theorem accS_size (s : ByteArray) (j : Nat) : (accS s j).size ≤ s.size := by
  have h := shown_le s _ _ (List.take_append_drop j (spans s)).symm
  have e : (accS s j).size = (shownL s ((spans s).take j)).length := by simp [accS, ByteArray.size]
  omega
theorem accS_step {s : ByteArray} {j : Nat} (h : j < (spans s).length) : accS s (j + 1) = accS s j ++ refStr (spans s)[j] := by
  have e := (spans_ref s _ (List.getElem_mem h)).str
  apply ByteArray.ext
  unfold accS
  rw [List.take_succ_eq_append_getElem h]
  unfold shownL
  rw [List.flatMap_append, List.flatMap_singleton]
  rw [ByteArray.data_append, e]
  unfold shownB
  apply Array.ext'
  simp
theorem accS_end (s : ByteArray) : accS s (spans s).length = ⟨(shownL s (spans s)).toArray⟩ := by unfold accS; rw [List.take_length]

/-- At the head of each round. -/
structure PtRow (s : ByteArray) (w2 : World) (j : Nat) (wx : World) : Prop where
  le : j ≤ (spans s).length
  bel : Below w2.heap.size w2 wx

set_option maxRecDepth 100000 in
set_option maxHeartbeats 8000000 in
theorem plainText_any (s : ByteArray) (w : World) (hs : s.size ≤ 1048576) :
    Calls Tryz.prog 12 #[.string s] w (Quiet w (.string ⟨(shownL s (spans s)).toArray⟩)) := by
  rw [← accS_end]
  obtain ⟨R, hR⟩ : ∃ R, R = accS s (spans s).length := ⟨_, rfl⟩
  rw [← hR]
  have HRES := Lib.hid hR
  clear hR
  go_enter Tryz.func12, Tryz.ntmps12
  go_wp2_with fail
  refine (spansOf_any s _ hs).mono ?_
  rintro e1 w2 ⟨v1, rfl, hown, hbel⟩
  obtain ⟨A, c, rfl, hA⟩ := own_slice hown (by omega)
  have HOWN := Lib.hid hown
  have HBEL := Lib.hid hbel
  have hlz := sps_len s
  obtain ⟨nl, hnl⟩ : ∃ nl, nl = (spans s).length := ⟨_, rfl⟩
  rw [← hnl] at hA hlz HOWN HRES ⊢
  have HNL := Lib.hid hnl
  have HA := Lib.hid hA
  clear hown hbel hnl hA
  have hnl2 : (nl : Int) ≤ 1048576 := by omega
  go_wp2_with fail
  go_loopw [3, 11] (fun v ix wx => ∃ (j : Nat), ix = .int .i64 j ∧ v = .string (accS s j) ∧ Hid (PtRow s w2 j wx)) (fun _ ix _ => nl - (intOf ix).toNat)
  case atStart => exact ⟨0, rfl, by simp [accS, shownL], Lib.hid ⟨Nat.zero_le _, Below.refl _ _⟩⟩
  case round =>
    obtain ⟨j, rfl, rfl, HR⟩ := hrel
    have hjl : j ≤ nl := by have := HR.out.le; have := HNL.out; omega
    by_cases hj : j < nl
    · have hj2 : j < (spans s).length := by rw [← HNL.out]; exact hj
      have p1 : (j : Int) < nl := by omega
      obtain ⟨g, rfl, hA1, hA2⟩ := HA.out (by omega)
      obtain ⟨X, hX⟩ : ∃ X, X = (spans s)[j] := ⟨_, rfl⟩
      have hcell : ∀ c u, c < 7 → X.cells[c]? = some u → wr.cell? ⟨g, j * 7 + c, none⟩ = some u := by
        intro c u hc hu
        have h1 := (HOWN.out.cellAt (j * 7 + c) (by rw [HNL.out]; omega))
        have h2 := flat_at (spans s) j hj2 c hc
        rw [← hX, hu] at h2
        exact ((HR.out.bel.cell (p := ⟨g, j * 7 + c, none⟩) (HOWN.out.lt g rfl).2).trans h1).trans h2
      have hmem : X ∈ spans s := by rw [hX]; exact List.getElem_mem _
      have hin := sps_in s X hmem
      have href := spans_ref s X hmem
      have hst := accS_step hj2
      have hsz1 := accS_size s j
      have hsz2 := accS_size s (j + 1)
      rw [← hX] at hst
      rw [hst, ByteArray.size_append] at hsz2
      have HSH : Hid (∀ W, Calls Tryz.prog 45 #[X.val] W fun e w' => ∃ v, e = .returned (.tuple #[.string (refStr X), v]) ∧ ShownRow (refFrom X) (refStr X).size W v w') :=
        Lib.hid (fun W => shown_any X W href.kind (by have := href.bound; omega) (by have := hin.lt; have := hin.hi; omega) (by have := hin.text; omega) (by have := hin.shw; omega))
      obtain ⟨F, hF⟩ : ∃ F, F = refFrom X := ⟨_, rfl⟩
      obtain ⟨S, hS⟩ : ∃ S, S = refStr X := ⟨_, rfl⟩
      obtain ⟨L, hL⟩ : ∃ L, L = accS s j := ⟨_, rfl⟩
      rw [← hF, ← hS] at HSH
      rw [← hS] at hsz2 hst
      rw [← hL] at hsz1 hsz2 hst ⊢
      have HST := Lib.hid hst
      have HBELJ := Lib.hid HR.out.bel
      clear hX hmem hin href hF hS hL HR hst
      obtain ⟨xk, xf, xe, xt, xs, xi, xb⟩ := X
      have e0 := hcell 0 _ (by omega) rfl
      have e1 := hcell 1 _ (by omega) rfl
      have e2 := hcell 2 _ (by omega) rfl
      have e3 := hcell 3 _ (by omega) rfl
      have e4 := hcell 4 _ (by omega) rfl
      have e5 := hcell 5 _ (by omega) rfl
      have e6 := hcell 6 _ (by omega) rfl
      unfold Sp.val at HSH
      simp only at HSH
      clear hcell
      simp only [Nat.add_zero] at e0
      go_upto_region 5 with (fail)
      have hsz : w2.heap.size ≤ wr.heap.size := HBELJ.out.size
      obtain ⟨w3, hw3⟩ : ∃ w3, w3 = wr.alloc (.cells #[.int .i64 xk, .int .i64 xf, .int .i64 xe, .string xt, .string xs, .int .i64 xi, .bool xb] 27) := ⟨_, rfl⟩
      have hbel3 : Below w2.heap.size w2 w3 := by rw [hw3]; exact HBELJ.out.alloc hsz _
      have hblk : w3.heap[wr.heap.size]? = some (.cells #[.int .i64 xk, .int .i64 xf, .int .i64 xe, .string xt, .string xs, .int .i64 xi, .bool xb] 27 (0, 0)) := by rw [hw3]; exact heap_alloc_new wr _
      rw [← hw3]
      have HBEL3 := Lib.hid hbel3
      obtain ⟨⟨y0, y1, y2, y3, y4, y5, y6⟩, -⟩ := blk7 hblk
      clear hw3 hbel3 hblk e0 e1 e2 e3 e4 e5 e6
      go_wp2_with fail
      refine (HSH.out _).mono ?_
      rintro e4 w4 ⟨l, rfl, hl, hbel4⟩
      have hbel4' : Below w2.heap.size w2 w4 := HBEL3.out.trans (hbel4.mono HBEL3.out.size)
      have HBEL4 := Lib.hid hbel4'
      clear hl hbel4 hbel4' y0 y1 y2 y3 y4 y5 y6
      have z1 : L.size + S.size ≤ 1048576 := by omega
      go_wp2_with fail
      go_roundw
      case measure => simp [intOf]; omega
      case rel => exact ⟨j + 1, by go_num, by rw [HST.out], Lib.hid ⟨hj2, HBEL4.out⟩⟩
    · have p1 : ¬ (j : Int) < nl := by omega
      have hjn : j = nl := by omega
      subst hjn
      have hR := HRES.out
      rw [← hR]
      have hbel := HBEL.out.trans (HR.out.bel.mono HBEL.out.size)
      have HB := Lib.hid hbel
      clear hR hbel HR
      go_wp2_with fail
      go_ret
      exact ⟨rfl, HB.out⟩
end Go.Proofs.YtjfpaahidfhkoaaGreatDoor
