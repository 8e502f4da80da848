/- The reference's UnmarkedOf and PartsOf. -/
import Derived.Test.YtjfpaahidfhkoaaGreatDoorSpI
import Derived.Test.YtjfpaahidfhkoaaGreatDoorSpC
import Derived.Test.YtjfpaahidfhkoaaGreatDoorSpH
import Derived.WalkKit
import Derived.Lib.Hide
import Derived.Outline
import Derived.Deep.DeepCutAuto
import Derived.Deep.CutBlock
import Derived.Deep.LoopGhost
import Derived.Deep.QuietTactic
import Derived.BigQuiet
import Derived.BigRegion
import Derived.Lib.SmallJoins
import Derived.Laws.DeepStrings4
namespace Go.Proofs.YtjfpaahidfhkoaaGreatDoor
open Go.RowKit

theorem own_ne {w : World} {base n size P : Nat} {e t : TypeId} {v : Value} {xs : List Value} {cs : Array Value} (h : w.ownsRow base e size v n xs) (hg : w.heap[P]? = some (.cells cs t (0, 0))) (hne : e ≠ t) : v.ownBlock ≠ some P := by
  rcases h.2 with ⟨rfl, _⟩ | ⟨g', cap, cur, rfl, _, hh, _⟩
  · simp [Value.ownBlock]
  · intro he
    have : g' = P := by simpa [Value.ownBlock] using he
    subst this
    rw [hg] at hh
    injection hh with hh
    injection hh with _ ht
    exact hne ht.symm

def uacc (s : ByteArray) (j : Nat) : ByteArray := ⟨(unmL s ((spans s).take j)).toArray⟩
theorem uacc_size (s : ByteArray) (j : Nat) : (uacc s j).size ≤ s.size := by
  have h := unm_le s _ _ (List.take_append_drop j (spans s)).symm
  have e : (uacc s j).size = (unmL s ((spans s).take j)).length := by simp [uacc, ByteArray.size]
  omega
theorem uacc_yes {s : ByteArray} {j : Nat} (h : j < (spans s).length) (hk : (spans s)[j].kind ≠ 7) : uacc s (j + 1) = uacc s j ++ s.extract (spans s)[j].from_ (spans s)[j].to_ := by
  apply ByteArray.ext
  apply Array.ext'
  unfold uacc
  rw [List.take_succ_eq_append_getElem h, unmL_snoc, ByteArray.data_append, Array.toList_append]
  unfold unmB
  rw [if_neg hk]
theorem uacc_no {s : ByteArray} {j : Nat} (h : j < (spans s).length) (hk : (spans s)[j].kind = 7) : uacc s (j + 1) = uacc s j := by
  unfold uacc
  rw [List.take_succ_eq_append_getElem h, unmL_snoc]
  unfold unmB
  rw [if_pos hk, List.append_nil]
theorem uacc_end (s : ByteArray) : uacc s (spans s).length = ⟨(unmL s (spans s)).toArray⟩ := by unfold uacc; rw [List.take_length]

set_option maxRecDepth 100000 in
set_option maxHeartbeats 8000000 in
theorem unmarkedOf_any (s : ByteArray) (w : World) (hs : s.size ≤ 1048576) :
    Calls Tryz.prog 22 #[.string s] w (Quiet w (.string ⟨(unmL s (spans s)).toArray⟩)) := by
  rw [← uacc_end]
  obtain ⟨R, hR⟩ : ∃ R, R = uacc s (spans s).length := ⟨_, rfl⟩
  rw [← hR]
  have HRES := Lib.hid hR
  clear hR
  go_enter Tryz.func22, Tryz.ntmps22
  go_wp2_with fail
  refine (spansOf_any s _ hs).mono ?_
  rintro e1 w2 ⟨v1, rfl, hown, hbel⟩
  obtain ⟨A, c, rfl, hA⟩ := own_slice hown (by omega)
  have HOWN := Lib.hid hown
  have HBEL := Lib.hid hbel
  have hlz := sps_len s
  obtain ⟨nl, hnl⟩ : ∃ nl, nl = (spans s).length := ⟨_, rfl⟩
  rw [← hnl] at hA hlz HOWN ⊢
  have HNL := Lib.hid hnl
  have HA := Lib.hid hA
  clear hown hbel hnl hA
  have hnl2 : (nl : Int) ≤ 1048576 := by omega
  go_wp2_with fail
  rw [← HNL.out] at HRES
  go_loopw [3, 9] (fun v ix wx => ∃ (j : Nat), ix = .int .i64 j ∧ v = .string (uacc s j) ∧ Hid (PtRow s w2 j wx)) (fun _ ix _ => nl - (intOf ix).toNat)
  case atStart => exact ⟨0, rfl, by simp [uacc, unmL], Lib.hid ⟨Nat.zero_le _, Below.refl _ _⟩⟩
  case round =>
    obtain ⟨j, rfl, rfl, HR⟩ := hrel
    have hjl : j ≤ nl := by have := HR.out.le; have := HNL.out; omega
    by_cases hj : j < nl
    · have hj2 : j < (spans s).length := by rw [← HNL.out]; exact hj
      have p1 : (j : Int) < nl := by omega
      obtain ⟨g, rfl, hA1, hA2⟩ := HA.out (by omega)
      obtain ⟨X, hX⟩ : ∃ X, X = (spans s)[j] := ⟨_, rfl⟩
      have hcell : ∀ c u, c < 7 → X.cells[c]? = some u → wr.cell? ⟨g, j * 7 + c, none⟩ = some u := by
        intro c u hc hu
        have h1 := (HOWN.out.cellAt (j * 7 + c) (by rw [HNL.out]; omega))
        have h2 := flat_at (spans s) j hj2 c hc
        rw [← hX, hu] at h2
        exact ((HR.out.bel.cell (p := ⟨g, j * 7 + c, none⟩) (HOWN.out.lt g rfl).2).trans h1).trans h2
      have hin := sps_in s X (by rw [hX]; exact List.getElem_mem _)
      have l1 := hin.lt
      have l3 := hin.hi
      have hyes := uacc_yes hj2
      have hno := uacc_no hj2
      have hz1 := uacc_size s j
      have hz2 := uacc_size s (j + 1)
      rw [← hX] at hyes hno
      obtain ⟨L, hL⟩ : ∃ L, L = uacc s j := ⟨_, rfl⟩
      rw [← hL] at hz1 hyes hno ⊢
      have HY := Lib.hid hyes
      have HN := Lib.hid hno
      have HBELJ := Lib.hid HR.out.bel
      have hzz : X.kind ≠ 7 → L.size + (s.extract X.from_ X.to_).size ≤ 1048576 := fun h => by rw [hyes h, ByteArray.size_append] at hz2; omega
      clear hX hin HR hL hyes hno hz2
      obtain ⟨xk, xf, xe, xt, xs, xi, xb⟩ := X
      have e0 := hcell 0 _ (by omega) rfl
      have e1 := hcell 1 _ (by omega) rfl
      have e2 := hcell 2 _ (by omega) rfl
      have e3 := hcell 3 _ (by omega) rfl
      have e4 := hcell 4 _ (by omega) rfl
      have e5 := hcell 5 _ (by omega) rfl
      have e6 := hcell 6 _ (by omega) rfl
      clear hcell
      simp only [Nat.add_zero] at e0
      simp only at l1 l3 HY HN hzz
      go_upto_region 5 with (fail)
      have hsz : w2.heap.size ≤ wr.heap.size := HBELJ.out.size
      obtain ⟨P, hP⟩ : ∃ P, P = wr.heap.size := ⟨_, rfl⟩
      obtain ⟨w3, hw3⟩ : ∃ w3, w3 = wr.alloc (.cells #[.int .i64 xk, .int .i64 xf, .int .i64 xe, .string xt, .string xs, .int .i64 xi, .bool xb] 27) := ⟨_, rfl⟩
      have hbel3 : Below w2.heap.size w2 w3 := by rw [hw3]; exact HBELJ.out.alloc hsz _
      have hblk : w3.heap[P]? = some (.cells #[.int .i64 xk, .int .i64 xf, .int .i64 xe, .string xt, .string xs, .int .i64 xi, .bool xb] 27 (0, 0)) := by rw [hw3, hP]; exact heap_alloc_new wr _
      rw [← hw3]
      have HBEL3 := Lib.hid hbel3
      obtain ⟨⟨y0, y1, y2, y3, y4, y5, y6⟩, -⟩ := blk7 hblk
      rw [hP] at y0 y1 y2 y3 y4 y5 y6
      clear hw3 hbel3 hblk e0 e1 e2 e3 e4 e5 e6 hP
      by_cases hk : xk = 7
      · have q : ((xk : Int) != 7) = false := by simp [hk]
        have HX : Hid (uacc s (j + 1) = L) := Lib.hid (HN.out hk)
        clear hk hzz
        go_wp2_with fail
        go_roundw
        case measure => simp [intOf]; omega
        case rel => exact ⟨j + 1, by go_num, by rw [HX.out], Lib.hid ⟨hj2, HBEL3.out⟩⟩
      · have q : ((xk : Int) != 7) = true := by simp; omega
        have HX : Hid (uacc s (j + 1) = L ++ s.extract xf xe) := Lib.hid (HY.out hk)
        have z1 := hzz hk
        have i1 : (xf : Int) ≤ xe := by omega
        have i2 : (xe : Int) ≤ s.size := by omega
        have i3 : (0 : Int) ≤ xf := by omega
        clear hk hzz
        go_wp2_with fail
        go_roundw
        case measure => simp [intOf]; omega
        case rel => exact ⟨j + 1, by go_num, by rw [HX.out], Lib.hid ⟨hj2, HBEL3.out⟩⟩
    · have p1 : ¬ (j : Int) < nl := by omega
      have hjn : j = nl := by omega
      subst hjn
      have hR := HRES.out
      rw [← hR]
      have hbel := HBEL.out.trans (HR.out.bel.mono HBEL.out.size)
      have HB := Lib.hid hbel
      clear hR hbel HR
      go_wp2_with fail
      go_ret
      exact ⟨rfl, HB.out⟩

/-! ### PartsOf -/
theorem cut_take {s : ByteArray} {j : Nat} (h : j < (spans s).length) : cutAll s ((spans s).take (j + 1)) = cutSp s (cutAll s ((spans s).take j)) (spans s)[j] := by
  rw [List.take_succ_eq_append_getElem h, cutAll_snoc]
theorem cut_gap {s : ByteArray} {c : Cut} {x : Sp} (hm : isMark x) (h1 : c.done < x.from_) (h2 : x.from_ < x.to_) : cutSp s c x = ⟨c.out ++ [s.extract c.done x.from_] ++ [s.extract x.from_ x.to_], x.to_⟩ := by
  have e : cutAt s c x.from_ = ⟨c.out ++ [s.extract c.done x.from_], x.from_⟩ := by unfold cutAt; rw [if_pos h1]
  unfold cutSp
  rw [if_pos hm, e]
  unfold cutAt
  rw [if_pos h2]
theorem cut_nogap {s : ByteArray} {c : Cut} {x : Sp} (hm : isMark x) (h1 : ¬ c.done < x.from_) (h0 : c.done ≤ x.from_) (h2 : x.from_ < x.to_) : cutSp s c x = ⟨c.out ++ [s.extract x.from_ x.to_], x.to_⟩ := by
  have hd : c.done = x.from_ := by omega
  have e : cutAt s c x.from_ = c := by unfold cutAt; rw [if_neg h1]
  unfold cutSp
  rw [if_pos hm, e]
  unfold cutAt
  rw [hd, if_pos h2]
theorem cut_row {s : ByteArray} : ∀ {a b : Nat} {l : List Sp} {c : Cut}, SpRow s a l b → c.done ≤ a → (l.foldl (cutSp s) c).done ≤ b
  | a, b, [], c, h, hc => by have : a = b := h; rw [← this]; exact hc
  | a, b, x :: r, c, h, hc => by
    rw [List.foldl_cons]
    have h1 := h.1
    have h2 := h.2.1.lt
    refine cut_row h.2.2 ?_
    by_cases hm : isMark x
    · by_cases hg : c.done < x.from_
      · rw [cut_gap hm hg h2]; exact Nat.le_refl _
      · rw [cut_nogap hm hg (by omega) h2]; exact Nat.le_refl _
    · unfold cutSp
      rw [if_neg hm]; omega
theorem cut_before {s : ByteArray} {j : Nat} (h : j < (spans s).length) : (cutAll s ((spans s).take j)).done ≤ (spans s)[j].from_ := by
  have e : spans s = (spans s).take j ++ (spans s)[j] :: (spans s).drop (j + 1) := by rw [List.getElem_cons_drop]; exact (List.take_append_drop j _).symm
  have hr := spans_row s
  rw [e] at hr
  obtain ⟨c, h1, h2⟩ := hr.cut
  have h3 := cut_row (c := ⟨[], 0⟩) h1 (Nat.le_refl _)
  have h4 := h2.1
  unfold cutAll
  omega
theorem cut_len2 (s : ByteArray) (j : Nat) : (cutAll s ((spans s).take j)).out.length ≤ 2 * s.size ∧ (cutAll s ((spans s).take j)).done ≤ s.size := cutAll_pre (post := (spans s).drop j) (List.take_append_drop j _).symm

/-- At the head of each round. -/
structure CRow (s : ByteArray) (L : List ByteArray) (w2 : World) (j : Nat) (v : Value) (wx : World) : Prop where
  le : j ≤ (spans s).length
  own : wx.ownsRow w2.heap.size 9 1 v L.length (strs L)
  bel : Below w2.heap.size w2 wx

set_option maxRecDepth 100000 in
set_option maxHeartbeats 8000000 in
theorem partsOf_any (s : ByteArray) (w : World) (hs : s.size ≤ 1048576) :
    Calls Tryz.prog 24 #[.string s] w (GivesRow 9 (strs (partsOf s)) w) := by
  obtain ⟨i0, hi, hz0, hz1, hz2⟩ := info_parts infoStrT
  obtain ⟨R, hR⟩ : ∃ R, R = partsOf s := ⟨_, rfl⟩
  rw [← hR]
  have HRES := Lib.hid hR
  clear hR
  go_enter Tryz.func24, Tryz.ntmps24
  go_wp2_with fail
  refine (spansOf_any s _ hs).mono ?_
  rintro e1 w2 ⟨v1, rfl, hown, hbel⟩
  obtain ⟨A, c, rfl, hA⟩ := own_slice hown (by omega)
  have HOWN := Lib.hid hown
  have HBEL := Lib.hid hbel
  have hlz := sps_len s
  obtain ⟨nl, hnl⟩ : ∃ nl, nl = (spans s).length := ⟨_, rfl⟩
  rw [← hnl] at hA hlz HOWN ⊢
  have HNL := Lib.hid hnl
  have HA := Lib.hid hA
  clear hown hbel hnl hA
  have hnl2 : (nl : Int) ≤ 1048576 := by omega
  go_wp2_with fail
  go_loopw [3, 4, 10] (fun v d ix wx => ∃ (j dn : Nat) (L : List ByteArray), ix = .int .i64 j ∧ d = .int .i64 dn ∧ Hid (cutAll s ((spans s).take j) = ⟨L, dn⟩) ∧ Hid (CRow s L w2 j v wx)) (fun _ _ ix _ => nl - (intOf ix).toNat)
  case atStart => exact ⟨0, 0, [], rfl, rfl, Lib.hid rfl, Lib.hid ⟨Nat.zero_le _, ⟨rfl, .inl ⟨rfl, rfl⟩⟩, Below.refl _ _⟩⟩
  case round =>
    obtain ⟨j, dn, L, rfl, rfl, HC, HR⟩ := hrel
    have hjl : j ≤ nl := by have := HR.out.le; have := HNL.out; omega
    by_cases hj : j < nl
    · have hj2 : j < (spans s).length := by rw [← HNL.out]; exact hj
      have p1 : (j : Int) < nl := by omega
      obtain ⟨g, rfl, hA1, hA2⟩ := HA.out (by omega)
      obtain ⟨X, hX⟩ : ∃ X, X = (spans s)[j] := ⟨_, rfl⟩
      have hcell : ∀ c u, c < 7 → X.cells[c]? = some u → wr.cell? ⟨g, j * 7 + c, none⟩ = some u := by
        intro c u hc hu
        have h1 := (HOWN.out.cellAt (j * 7 + c) (by rw [HNL.out]; omega))
        have h2 := flat_at (spans s) j hj2 c hc
        rw [← hX, hu] at h2
        exact ((HR.out.bel.cell (p := ⟨g, j * 7 + c, none⟩) (HOWN.out.lt g rfl).2).trans h1).trans h2
      have hin := sps_in s X (by rw [hX]; exact List.getElem_mem _)
      have l1 := hin.lt
      have l3 := hin.hi
      have hbf := cut_before hj2
      have htk := cut_take hj2
      have hln := cut_len2 s j
      rw [HC.out] at hbf htk hln
      rw [← hX] at hbf htk
      simp only at hbf hln
      obtain ⟨hln, hdn⟩ := hln
      have HTK := Lib.hid htk
      have HBELJ := Lib.hid HR.out.bel
      have HOWNJ := Lib.hid HR.out.own
      have HG := Lib.hid (fun (hm : isMark X) (h1 : dn < X.from_) => cut_gap (s := s) (c := ⟨L, dn⟩) hm h1 l1)
      have HNG := Lib.hid (fun (hm : isMark X) (h1 : ¬ dn < X.from_) => cut_nogap (s := s) (c := ⟨L, dn⟩) hm h1 hbf l1)
      have HNO : Hid (¬ isMark X → cutSp s ⟨L, dn⟩ X = ⟨L, dn⟩) := Lib.hid (fun h => by unfold cutSp; rw [if_neg h])
      clear hX hin HR htk
      have hcase : isMark X ∧ ((((X.kind : Int) != 4) = false) ∨ (((X.kind : Int) != 4) = true ∧ ((X.kind : Int) != 5) = false) ∨ (((X.kind : Int) != 4) = true ∧ ((X.kind : Int) != 5) = true ∧ ((X.kind : Int) != 6) = false)) ∨
          ¬ isMark X ∧ (((X.kind : Int) != 4) = true ∧ ((X.kind : Int) != 5) = true ∧ ((X.kind : Int) != 6) = true) := by
        by_cases hm : isMark X
        · refine .inl ⟨hm, ?_⟩
          rcases hm with h | h | h
          · exact .inl (by rw [h]; rfl)
          · exact .inr (.inl (by rw [h]; exact ⟨rfl, rfl⟩))
          · exact .inr (.inr (by rw [h]; exact ⟨rfl, rfl, rfl⟩))
        · refine .inr ⟨hm, ?_, ?_, ?_⟩
          · have : X.kind ≠ 4 := fun h => hm (.inl h)
            simp; omega
          · have : X.kind ≠ 5 := fun h => hm (.inr (.inl h))
            simp; omega
          · have : X.kind ≠ 6 := fun h => hm (.inr (.inr h))
            simp; omega
      obtain ⟨xk, xf, xe, xt, xs, xi, xb⟩ := X
      have e0 := hcell 0 _ (by omega) rfl
      have e1 := hcell 1 _ (by omega) rfl
      have e2 := hcell 2 _ (by omega) rfl
      have e3 := hcell 3 _ (by omega) rfl
      have e4 := hcell 4 _ (by omega) rfl
      have e5 := hcell 5 _ (by omega) rfl
      have e6 := hcell 6 _ (by omega) rfl
      clear hcell
      simp only [Nat.add_zero] at e0
      simp only at l1 l3 hbf HTK HG HNG HNO hcase
      go_upto_region 6 with (fail)
      have hsz : w2.heap.size ≤ wr.heap.size := HBELJ.out.size
      obtain ⟨P, hP⟩ : ∃ P, P = wr.heap.size := ⟨_, rfl⟩
      obtain ⟨w3, hw3⟩ : ∃ w3, w3 = wr.alloc (.cells #[.int .i64 xk, .int .i64 xf, .int .i64 xe, .string xt, .string xs, .int .i64 xi, .bool xb] 27) := ⟨_, rfl⟩
      have hbel3 : Below w2.heap.size w2 w3 := by rw [hw3]; exact HBELJ.out.alloc hsz _
      have hblk : w3.heap[P]? = some (.cells #[.int .i64 xk, .int .i64 xf, .int .i64 xe, .string xt, .string xs, .int .i64 xi, .bool xb] 27 (0, 0)) := by rw [hw3, hP]; exact heap_alloc_new wr _
      have hown3 : w3.ownsRow w2.heap.size 9 1 u3 L.length (strs L) := by rw [hw3]; exact HOWNJ.out.alloc _
      have hP3 : P < w3.heap.size := by rw [hw3, hP]; simp
      rw [← hw3, ← hP]
      have hsz3 : w2.heap.size ≤ w3.heap.size := hbel3.size
      have HBEL3 := Lib.hid hbel3
      have HOWN3 := Lib.hid hown3
      have HBLK := Lib.hid hblk
      obtain ⟨⟨y0, y1, y2, y3, y4, y5, y6⟩, -⟩ := blk7 hblk
      clear hw3 hbel3 hblk e0 e1 e2 e3 e4 e5 e6 hP hown3
      have i1 : (xf : Int) ≤ xe := by omega
      have i2 : (xe : Int) ≤ s.size := by omega
      have i3 : (0 : Int) ≤ xf := by omega
      have i4 : (dn : Int) ≤ xf := by omega
      have i5 : (xf : Int) ≤ s.size := by omega
      rcases hcase with ⟨hm, hc⟩ | ⟨hm, q4, q5, q6⟩
      · by_cases hgap : dn < xf
        · have HX : Hid (cutAll s ((spans s).take (j + 1)) = ⟨L ++ [s.extract dn xf] ++ [s.extract xf xe], xe⟩) := Lib.hid (HTK.out.trans (HG.out hm hgap))
          have g1 : (dn : Int) < xf := by omega
          have hnews : ∀ q u, [Value.string (s.extract dn xf)][q]? = some u → (w3.alloc (.cells #[.string (s.extract dn xf)] 9)).cell? ((⟨w3.heap.size, 0, none⟩ : Addr).add q) = some u := by
            intro q u hq
            have h := heap_alloc_new w3 (.cells #[.string (s.extract dn xf)] 9)
            rw [addr_plus, Nat.zero_add, cell_of_row _ _ q _ _ (0, 0) h]
            simpa using hq
          have HNEWS := Lib.hid hnews
          clear hnews hm hgap
          rcases hc with q4 | ⟨q4, q5⟩ | ⟨q4, q5, q6⟩
          all_goals
            go_wp2_with (at_builtin; refine wpList_append_own _ rfl _ _ 31 rfl w2.heap.size 9 i0 _ 1 16 Tryz.underlying31 hi hz0 hz1 hz2 rfl (by omega) _ _ _ rfl (HOWN3.out.alloc _) ⟨w3.heap.size, 0, none⟩ 1 1 [Value.string (s.extract dn xf)] rfl rfl HNEWS.out (by intro u hu; simp at hu; rw [hu]; rfl) (by unfold maxLen; omega) (by omega) (by simp; omega) ?_)
            intro v' w4 hown4 hgrow4 _
            have hbel4 : Below w2.heap.size w2 w4 := (HBEL3.out.alloc hsz3 _).grown hgrow4 (by simp; omega) (fun k hk => (HOWN3.out.lt k hk).1)
            have hblk4 : w4.heap[P]? = some (.cells #[.int .i64 xk, .int .i64 xf, .int .i64 xe, .string xt, .string xs, .int .i64 xi, .bool xb] 27 (0, 0)) :=
              ((hgrow4.block P (by simp; omega) (fun e => own_ne HOWN3.out HBLK.out (by decide) e.symm)).trans (Below.heap_alloc _ _ _ hP3)).trans HBLK.out
            obtain ⟨ao4, c4, rfl, -⟩ := own_slice' hown4
            have hP4 : P < w4.heap.size := lt_of_blk hblk4
            have hsz4 : w2.heap.size ≤ w4.heap.size := hbel4.size
            obtain ⟨⟨z0, z1, z2, z3, z4, z5, z6⟩, -⟩ := blk7 hblk4
            have hnews4 : ∀ q u, [Value.string (s.extract xf xe)][q]? = some u → (w4.alloc (.cells #[.string (s.extract xf xe)] 9)).cell? ((⟨w4.heap.size, 0, none⟩ : Addr).add q) = some u := by
              intro q u hq
              have h := heap_alloc_new w4 (.cells #[.string (s.extract xf xe)] 9)
              rw [addr_plus, Nat.zero_add, cell_of_row _ _ q _ _ (0, 0) h]
              simpa using hq
            have HNEWS4 := Lib.hid hnews4
            have HOWN4 := Lib.hid hown4
            have HBEL4 := Lib.hid hbel4
            have HBLK4 := Lib.hid hblk4
            have HLL : Hid ((strs L ++ [Value.string (s.extract dn xf)]).length = L.length + 1) := Lib.hid (by rw [List.length_append, strs_len]; rfl)
            clear hnews4 hown4 hbel4 hblk4 hgrow4 y0 y1 y2 y3 y4 y5 y6
            go_wp2_with (at_builtin; refine wpList_append_own _ rfl _ _ 31 rfl w2.heap.size 9 i0 _ 1 16 Tryz.underlying31 hi hz0 hz1 hz2 rfl (by omega) _ _ _ rfl (HOWN4.out.alloc _) ⟨w4.heap.size, 0, none⟩ 1 1 [Value.string (s.extract xf xe)] rfl rfl HNEWS4.out (by intro u hu; simp at hu; rw [hu]; rfl) (by unfold maxLen; omega) (by omega) (by simp; omega) ?_)
            intro v5 w5 hown5 hgrow5 _
            have hbel5 : Below w2.heap.size w2 w5 := (HBEL4.out.alloc hsz4 _).grown hgrow5 (by simp; omega) (fun k hk => (HOWN4.out.lt k hk).1)
            have hblk5 : w5.heap[P]? = some (.cells #[.int .i64 xk, .int .i64 xf, .int .i64 xe, .string xt, .string xs, .int .i64 xi, .bool xb] 27 (0, 0)) :=
              ((hgrow5.block P (by simp; omega) (fun e => own_ne HOWN4.out HBLK4.out (by decide) e.symm)).trans (Below.heap_alloc _ _ _ hP4)).trans HBLK4.out
            obtain ⟨⟨t0, t1, t2, t3, t4, t5, t6⟩, -⟩ := blk7 hblk5
            have HOWN5 := Lib.hid hown5
            have HBEL5 := Lib.hid hbel5
            clear hown5 hbel5 hgrow5 hblk5 z0 z1 z2 z3 z4 z5 z6
            go_wp2_with fail
            go_roundw
            case measure => simp [intOf]; omega
            case rel => exact ⟨j + 1, xe, L ++ [s.extract dn xf] ++ [s.extract xf xe], by go_num, rfl, HX, Lib.hid ⟨hj2, by
              rw [strs_app, strs_app, List.length_append, List.length_append, List.append_assoc]
              exact HOWN5.out, HBEL5.out⟩⟩
        · have HX : Hid (cutAll s ((spans s).take (j + 1)) = ⟨L ++ [s.extract xf xe], xe⟩) := Lib.hid (HTK.out.trans (HNG.out hm hgap))
          have g1 : ¬ (dn : Int) < xf := by omega
          have hnews : ∀ q u, [Value.string (s.extract xf xe)][q]? = some u → (w3.alloc (.cells #[.string (s.extract xf xe)] 9)).cell? ((⟨w3.heap.size, 0, none⟩ : Addr).add q) = some u := by
            intro q u hq
            have h := heap_alloc_new w3 (.cells #[.string (s.extract xf xe)] 9)
            rw [addr_plus, Nat.zero_add, cell_of_row _ _ q _ _ (0, 0) h]
            simpa using hq
          have HNEWS := Lib.hid hnews
          clear hnews hm hgap
          rcases hc with q4 | ⟨q4, q5⟩ | ⟨q4, q5, q6⟩
          all_goals
            go_wp2_with (at_builtin; refine wpList_append_own _ rfl _ _ 31 rfl w2.heap.size 9 i0 _ 1 16 Tryz.underlying31 hi hz0 hz1 hz2 rfl (by omega) _ _ _ rfl (HOWN3.out.alloc _) ⟨w3.heap.size, 0, none⟩ 1 1 [Value.string (s.extract xf xe)] rfl rfl HNEWS.out (by intro u hu; simp at hu; rw [hu]; rfl) (by unfold maxLen; omega) (by omega) (by simp; omega) ?_)
            intro v5 w5 hown5 hgrow5 _
            have hbel5 : Below w2.heap.size w2 w5 := (HBEL3.out.alloc hsz3 _).grown hgrow5 (by simp; omega) (fun k hk => (HOWN3.out.lt k hk).1)
            have hblk5 : w5.heap[P]? = some (.cells #[.int .i64 xk, .int .i64 xf, .int .i64 xe, .string xt, .string xs, .int .i64 xi, .bool xb] 27 (0, 0)) :=
              ((hgrow5.block P (by simp; omega) (fun e => own_ne HOWN3.out HBLK.out (by decide) e.symm)).trans (Below.heap_alloc _ _ _ hP3)).trans HBLK.out
            obtain ⟨⟨t0, t1, t2, t3, t4, t5, t6⟩, -⟩ := blk7 hblk5
            have HOWN5 := Lib.hid hown5
            have HBEL5 := Lib.hid hbel5
            clear hown5 hbel5 hgrow5 hblk5 y0 y1 y2 y3 y4 y5 y6
            go_wp2_with fail
            go_roundw
            case measure => simp [intOf]; omega
            case rel => exact ⟨j + 1, xe, L ++ [s.extract xf xe], by go_num, rfl, HX, Lib.hid ⟨hj2, by
              rw [strs_app, List.length_append]
              exact HOWN5.out, HBEL5.out⟩⟩
      · have HX : Hid (cutAll s ((spans s).take (j + 1)) = ⟨L, dn⟩) := Lib.hid (HTK.out.trans (HNO.out hm))
        clear hm
        go_wp2_with fail
        go_roundw
        case measure => simp [intOf]; omega
        case rel => exact ⟨j + 1, dn, L, by go_num, rfl, HX, Lib.hid ⟨hj2, HOWN3.out, HBEL3.out⟩⟩
    · have p1 : ¬ (j : Int) < nl := by omega
      have hC := HC.out
      rw [show j = (spans s).length by have := HNL.out; omega, List.take_length] at hC
      have hln := cut_len2 s (spans s).length
      rw [List.take_length, hC] at hln
      simp only at hln
      obtain ⟨hln, hdn⟩ := hln
      have hown := HR.out.own
      have hown5 := own_base hown HBEL.out.size
      have hbel := HBEL.out.trans (HR.out.bel.mono HBEL.out.size)
      have HB := Lib.hid hbel
      have HO := Lib.hid hown5
      have hszr := HR.out.bel.size
      have hszw := HBEL.out.size
      clear hown hown5 hbel HR
      by_cases hlt : dn < s.size
      · have g1 : (dn : Int) < s.size := by omega
        have HR2 : Hid (R = L ++ [s.extract dn s.size]) := Lib.hid (by
          rw [HRES.out]; unfold partsOf; rw [hC]; unfold cutAt; rw [if_pos hlt])
        have hnews : ∀ q u, [Value.string (s.extract dn s.size)][q]? = some u → (wr.alloc (.cells #[.string (s.extract dn s.size)] 9)).cell? ((⟨wr.heap.size, 0, none⟩ : Addr).add q) = some u := by
          intro q u hq
          have h := heap_alloc_new wr (.cells #[.string (s.extract dn s.size)] 9)
          rw [addr_plus, Nat.zero_add, cell_of_row _ _ q _ _ (0, 0) h]
          simpa using hq
        have HNEWS := Lib.hid hnews
        clear hnews hC
        go_wp2_with (at_builtin; refine wpList_append_own _ rfl _ _ 31 rfl w.heap.size 9 i0 _ 1 16 Tryz.underlying31 hi hz0 hz1 hz2 rfl (by omega) _ _ _ rfl (HO.out.alloc _) ⟨wr.heap.size, 0, none⟩ 1 1 [Value.string (s.extract dn s.size)] rfl rfl HNEWS.out (by intro u hu; simp at hu; rw [hu]; rfl) (by unfold maxLen; omega) (by omega) (by simp; omega) ?_)
        intro v5 w5 hown5 hgrow5 _
        have hbel5 : Below w.heap.size w w5 := (HB.out.alloc HB.out.size _).grown hgrow5 (by simp; omega) (fun k hk => (HO.out.lt k hk).1)
        obtain ⟨ao5, c5, rfl, -⟩ := own_slice' hown5
        have HOWN5 := Lib.hid hown5
        have HBEL5 := Lib.hid hbel5
        clear hown5 hbel5 hgrow5
        go_wp2_with fail
        go_ret
        exact ⟨_, rfl, by rw [HR2.out, strs_len, List.length_append, strs_app]; exact HOWN5.out, HBEL5.out⟩
      · have g1 : ¬ (dn : Int) < s.size := by omega
        have HR2 : Hid (R = L) := Lib.hid (by
          rw [HRES.out]; unfold partsOf; rw [hC]; unfold cutAt; rw [if_neg hlt])
        obtain ⟨ao, ac, rfl, -⟩ := own_slice' HO.out
        clear hC
        go_wp2_with fail
        go_ret
        exact ⟨_, rfl, by rw [HR2.out, strs_len]; exact HO.out, HB.out⟩
end Go.Proofs.YtjfpaahidfhkoaaGreatDoor
