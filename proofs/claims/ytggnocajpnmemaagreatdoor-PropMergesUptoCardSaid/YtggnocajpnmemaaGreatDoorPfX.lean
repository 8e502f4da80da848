/- The reference's with. Properties: the reference's GetOf. What Put and Drop give (pure); the reference's PutOf and DropOf. The reference's DropOf. The program's Drop. The program's Put. The law PropChanges: true of every list, name and value within the bounds. -/
import Derived.Test.YtggnocajpnmemaaGreatDoorPeX
import Derived.Test.YtggnocajpnmemaaGreatDoorPaX
import Derived.Test.YtggnocajpnmemaaGreatDoorWoX
import Derived.Test.YtggnocajpnmemaaGreatDoorInX
namespace Go.Proofs.YtggnocajpnmemaaGreatDoor
open Go.RowKit Go.Shelf

set_option maxRecDepth 100000 in
set_option maxHeartbeats 8000000 in
theorem with_any (l : List PV) (q : ByteArray) (A : Option Addr) (c : Nat) (k i t : Int) (s : ByteArray) (lx : List V) (A2 : Option Addr) (c2 : Nat) (r : Nat) (w : World)
    (hl : PSl w w.heap.size l (.slice A l.length c)) (hn : l.length ≤ 1000) (hv : SlAt w w.heap.size lx (.slice A2 lx.length c2)) (hz : q.size ≤ 1048576 ∧ s.size ≤ 1048576) (hi : k ≠ 0 → Asc (insL (woL l q) r ⟨q, .mk k i t s lx⟩)) :
    Calls Tryz.prog 49 #[.slice A l.length c, .string q, .agg #[.int .i64 k, .int .i64 i, .int .i64 t, .string s, .slice A2 lx.length c2]] w fun e w' => ∃ v, e = .returned v ∧ PrOwn w w.heap.size (if k = 0 then woL l q else insL (woL l q) r ⟨q, .mk k i t s lx⟩) v w' := by
  have HCL := Lib.hid (fun W (hW : Below w.heap.size w W) => propClone_any l A c W ((hl.below hW (Nat.le_refl _)).up hW.size))
  obtain ⟨i0, hi0, hz0, hz1, hz2⟩ := info_parts infoPr
  have HI := Lib.hid hi
  have HV := Lib.hid (hv.toF (F := fun b => b < w.heap.size) (fun _ h => h))
  have HNL := Lib.hid hn
  obtain ⟨m, hm⟩ : ∃ m, m = lx.length := ⟨_, rfl⟩
  have HM := Lib.hid hm
  rw [← hm]
  have HZ := Lib.hid hz
  generalize l.length = n at HCL ⊢
  clear hl hi hv hn hm
  go_enter Tryz.func49, Tryz.ntmps49
  go_wp2_with fail
  obtain ⟨W0, hW0⟩ : ∃ W0, W0 = (w.alloc (.cells #[.string q] 9)).alloc (.cells #[.int .i64 k, .int .i64 i, .int .i64 t, .string s, .slice A2 m c2] 24) := ⟨_, rfl⟩
  have hb0 : Below w.heap.size w W0 := by rw [hW0]; exact ((Below.refl _ w).alloc (Nat.le_refl _) _).alloc (by simp) _
  have hs0 : W0.heap.size = w.heap.size + 2 := by rw [hW0]; simp
  have hn0 : W0.heap[w.heap.size]? = some (.cells #[.string q] 9 (0, 0)) := by
    rw [hW0, Below.heap_alloc _ _ _ (by simp)]
    exact heap_alloc_new w _
  have hv0 : W0.heap[w.heap.size + 1]? = some (.cells #[.int .i64 k, .int .i64 i, .int .i64 t, .string s, .slice A2 m c2] 24 (0, 0)) := by
    rw [hW0]
    have := heap_alloc_new (w.alloc (.cells #[.string q] 9)) (.cells #[.int .i64 k, .int .i64 i, .int .i64 t, .string s, .slice A2 m c2] 24)
    simpa using this
  rw [← hW0]
  have HB0 := Lib.hid hb0
  have HN0 := Lib.hid hn0
  have HV0 := Lib.hid hv0
  clear hW0 hn0 hv0
  refine (HCL.out W0 hb0).mono ?_
  rintro e1 w1 ⟨v1, rfl, hP⟩
  have HO1 : Hid (OwnAt W0 (w.heap.size + 2) l v1 w1) := Lib.hid (by have := hP.at; rwa [hs0] at this)
  have hq1 : w1.cell? ⟨w.heap.size, 0, none⟩ = some (.string q) := cell_of_row w1 _ 0 _ _ (0, 0) ((HO1.out.bel.block _ (by omega)).trans HN0.out)
  have HD := Lib.hid (deleted_any l q v1 w.heap.size (w.heap.size + 2) W0 w1 (by have := HNL.out; omega) HO1.out (by omega) hq1)
  clear hP hb0
  go_wp2_with fail
  refine HD.out.mono ?_
  rintro e2 w2 ⟨v2, rfl, hO⟩
  have hle := hO.le
  have hnm2 : w2.heap[w.heap.size]? = some (.cells #[.string q] 9 (0, 0)) := (hO.bel.block _ (by omega)).trans HN0.out
  have hvv2 : w2.heap[w.heap.size + 1]? = some (.cells #[.int .i64 k, .int .i64 i, .int .i64 t, .string s, .slice A2 m c2] 24 (0, 0)) := (hO.bel.block _ (by omega)).trans HV0.out
  have d0 := cell_of_row w2 _ 0 _ _ (0, 0) hvv2
  have d1 := cell_of_row w2 _ 1 _ _ (0, 0) hvv2
  have d2 := cell_of_row w2 _ 2 _ _ (0, 0) hvv2
  have d3 := cell_of_row w2 _ 3 _ _ (0, 0) hvv2
  have d4 := cell_of_row w2 _ 4 _ _ (0, 0) hvv2
  have dn := cell_of_row w2 _ 0 _ _ (0, 0) hnm2
  have hwb : Below w.heap.size w w2 := HB0.out.trans (hO.bel.mono (by omega))
  have hwl := woL_len l q
  have HO := Lib.hid hO
  have HWB := Lib.hid hwb
  obtain ⟨F, xs, h1, h2, h3, h4⟩ := hO.rep
  obtain ⟨A0, c0, rfl⟩ := own_shape h1
  have H1 := Lib.hid h1
  have H2 := Lib.hid h2
  have H3 := Lib.hid h3
  have H4 := Lib.hid h4
  by_cases hk : k = 0
  · subst hk
    have HX : Hid (PrOwn w w.heap.size (woL l q) (.slice A0 (woL l q).length c0) w2) := Lib.hid (HO.out.pr HWB.out (by omega))
    generalize (woL l q).length = fl at HX ⊢
    clear hO h1 h2 h3 h4 hnm2 hvv2 hwb HO H1 H2 H3 H4
    go_wp2_with fail
    go_ret
    exact ⟨_, rfl, HX.out⟩
  · have hl2 : (woL l q).length ≤ 1000 := Nat.le_trans hwl HNL.out
    have HS : Hid (SlF w2 (fun b => b < w.heap.size + 2) lx (.slice A2 lx.length c2)) := Lib.hid (HV.out.keep (fun b hb => HWB.out.block b hb) (fun b hb => Nat.lt_of_lt_of_le hb (by omega)))
    have HFL : Hid ((woL l q).length = (woL l q).length) := Lib.hid rfl
    generalize hfl : (woL l q).length = fl at H1 H4 hl2 ⊢
    have HF2 := Lib.hid hfl
    clear hO h1 h2 h3 h4 hnm2 hvv2 hwb hfl hwl
    go_wp2_with (at_builtin; refine wpList_append_lies _ rfl _ _ 31 rfl (w.heap.size + 2) 65 i0 _ 6 80 Tryz.underlying31 hi0 hz0 hz1 hz2 rfl (by omega) (.slice A0 fl c0) fl xs rfl (H1.out.alloc _) ⟨w2.heap.size, 0, none⟩ 1 1 [.string q, .int .i64 k, .int .i64 i, .int .i64 t, .string s, .slice A2 m c2] rfl rfl (six_news w2 _ _ _ _ _ _ _) (by simp [Value.oneCell']) (by omega) (by unfold maxLen; omega) (by omega) (by simp; omega) (w2.heap.size + 1) (by simp) ?_)
    intro gg cap w4 ho4 hg4 hat4 hlt4
    have HP4 : Hid (OwnAt W0 (w.heap.size + 2) (woL l q ++ [⟨q, .mk k i t s lx⟩]) (.slice (some ⟨gg, 0, none⟩) (fl + 1) cap) w4) := Lib.hid (by
      have hf := HF2.out
      subst hf
      have ho5 := ho4
      rw [HM.out] at ho5
      exact HO.out.push H1.out H2.out H3.out H4.out HS.out HZ.out ho5 hg4 hat4)
    have HSO := Lib.hid (sorted_any (woL l q) ⟨q, .mk k i t s lx⟩ r _ (w.heap.size + 2) W0 w4 (by rw [List.length_append, HF2.out]; simp; omega) HP4.out (HI.out hk))
    clear ho4 hg4 hat4
    go_wp2_with fail
    refine HSO.out.mono ?_
    rintro e5 w5 ⟨rfl, hO5⟩
    have HX : Hid (PrOwn w w.heap.size (insL (woL l q) r ⟨q, .mk k i t s lx⟩) (.slice (some ⟨gg, 0, none⟩) (fl + 1) cap) w5) := Lib.hid (hO5.pr (HB0.out.trans (hO5.bel.mono (by omega))) (by omega))
    clear hO5
    go_wp2_with fail
    go_ret
    exact ⟨_, rfl, HX.out⟩
end Go.Proofs.YtggnocajpnmemaaGreatDoor
namespace Go.Proofs.YtggnocajpnmemaaGreatDoor
open Go.RowKit Go.Shelf

def zeroBox : Obj := .cells #[.int .i64 0, .int .i64 0, .int .i64 0, .string ⟨#[]⟩, .slice none 0 0] 24
structure GtRow (l : List PV) (q : ByteArray) (w : World) (j : Nat) (wx : World) : Prop where
  bel : Below w.heap.size w wx
  blk : wx.heap[w.heap.size]? = some zeroBox
  no : ∀ k (hk : k < l.length), k < j → (l[k].nm.toList == q.toList) = false

set_option maxRecDepth 100000 in
set_option maxHeartbeats 4000000 in
theorem getOf_any (l : List PV) (q : ByteArray) (A : Option Addr) (c : Nat) (w : World) (hl : PSl w w.heap.size l (.slice A l.length c)) :
    Calls Tryz.prog 23 #[.slice A l.length c, .string q] w fun e w' =>
      ((∃ (j : Nat) (hj : j < l.length) (g : Value), (l[j].nm.toList == q.toList) = true ∧ (∀ k (hk : k < l.length), k < j → (l[k].nm.toList == q.toList) = false) ∧ VAt w w.heap.size l[j].val g ∧ e = .returned (.tuple #[g, .bool true])) ∨
        ((∀ k (hk : k < l.length), (l[k].nm.toList == q.toList) = false) ∧ e = .returned (.tuple #[.agg #[.int .i64 0, .int .i64 0, .int .i64 0, .string ⟨#[]⟩, .slice none 0 0], .bool false]))) ∧ Below w.heap.size w w' := by
  have hn : l.length ≤ 1048576 := by obtain ⟨_, _, e, h1, _⟩ := hl; exact h1
  have HSL := Lib.hid hl
  obtain ⟨n, hnn⟩ : ∃ n, n = l.length := ⟨_, rfl⟩
  rw [← hnn] at hn HSL
  rw [show (Value.slice A l.length c) = Value.slice A n c from by rw [hnn]]
  have HN := Lib.hid hnn
  clear hl hnn
  go_enter Tryz.func23, Tryz.ntmps23
  go_wp2_with fail
  go_loopw [10] (fun iv wx => ∃ j : Nat, iv = .int .i64 j ∧ j ≤ n ∧ Hid (GtRow l q w j wx)) (fun iv _ => n - (intOf iv).toNat)
  case atStart => exact ⟨0, rfl, Nat.zero_le _, Lib.hid ⟨(Below.refl _ _).alloc (Nat.le_refl _) _, heap_alloc_new w _, fun _ _ h => absurd h (by omega)⟩⟩
  case round =>
    obtain ⟨j, rfl, hjl, HR⟩ := hrel
    have r0 := cell_of_row wr w.heap.size 0 _ _ (0, 0) HR.out.blk
    have r1 := cell_of_row wr w.heap.size 1 _ _ (0, 0) HR.out.blk
    have r2 := cell_of_row wr w.heap.size 2 _ _ (0, 0) HR.out.blk
    have r3 := cell_of_row wr w.heap.size 3 _ _ (0, 0) HR.out.blk
    have r4 := cell_of_row wr w.heap.size 4 _ _ (0, 0) HR.out.blk
    have f0 := frozen_of_row wr w.heap.size 0 _ _ HR.out.blk
    have f1 := frozen_of_row wr w.heap.size 1 _ _ HR.out.blk
    have f2 := frozen_of_row wr w.heap.size 2 _ _ HR.out.blk
    have f3 := frozen_of_row wr w.heap.size 3 _ _ HR.out.blk
    have f4 := frozen_of_row wr w.heap.size 4 _ _ HR.out.blk
    by_cases hj : j < n
    · have hj2 : j < l.length := by rw [← HN.out]; exact hj
      have p2 : (j : Int) < n := by omega
      obtain ⟨b, off, nm, kx, ix, tx, sx, lx, Ax, cx, rfl, hx, hlt, gn, g0, g1, g2, g3, g4, hnz, gz, gl, gs, hpv⟩ := prop_item (by rw [← HN.out]; exact HSL.out) hj2
      replace gn := (HR.out.bel.cell (p := ⟨b, off + j * 6, none⟩) hlt).trans gn
      replace g0 := (HR.out.bel.cell (p := ⟨b, off + j * 6 + 1, none⟩) hlt).trans g0
      replace g1 := (HR.out.bel.cell (p := ⟨b, off + j * 6 + 2, none⟩) hlt).trans g1
      replace g2 := (HR.out.bel.cell (p := ⟨b, off + j * 6 + 3, none⟩) hlt).trans g2
      replace g3 := (HR.out.bel.cell (p := ⟨b, off + j * 6 + 4, none⟩) hlt).trans g3
      replace g4 := (HR.out.bel.cell (p := ⟨b, off + j * 6 + 5, none⟩) hlt).trans g4
      have hnx : l[j].nm = nm := by rw [hx]
      have hvx : ∀ g, g = .agg #[.int .i64 kx, .int .i64 ix, .int .i64 tx, .string sx, .slice Ax lx.length cx] → VAt w w.heap.size l[j].val g := by intro g hg; rw [hx]; exact ⟨gz, _, hg, gs⟩
      have HVX := Lib.hid hvx
      have HNX := Lib.hid hnx
      have hszw := HR.out.bel.size
      have hszl := lt_of_blk' HR.out.blk
      obtain ⟨m, hm⟩ : ∃ m, m = lx.length := ⟨_, rfl⟩
      rw [← hm] at g4 HVX
      clear gs hm hx hpv hvx hnx gl gz
      rcases he : (nm.toList == q.toList) with _ | _
      · have HNO : Hid (∀ k (hk : k < l.length), k < j + 1 → (l[k].nm.toList == q.toList) = false) := Lib.hid (by
          intro k hk hk2
          by_cases hkj : k < j
          · exact HR.out.no k hk hkj
          · obtain rfl : k = j := by omega
            rw [HNX.out]; exact he)
        clear r0 r1 r2 r3 r4 f0 f1 f2 f3 f4
        go_wp2_with fail
        go_roundw
        case rel => exact ⟨j + 1, by go_num, hj, Lib.hid ⟨HR.out.bel.alloc hszw _, ((Below.refl _ _).alloc (Nat.le_refl _) _).block _ hszl |>.trans HR.out.blk, HNO.out⟩⟩
        case measure => simp [intOf]; omega
      · go_wp2_with fail
        (try simp only [Exit.inBlock, Exit.then])
        refine bodyPost_ret (v := .tuple #[.agg #[.int .i64 kx, .int .i64 ix, .int .i64 tx, .string sx, .slice Ax m cx], .bool true]) ?_ rfl ?_
        · simp [results, Tryz.f23]
          go_simp
        · refine ⟨.inl ⟨j, hj2, _, by rw [HNX.out]; exact he, HR.out.no, HVX.out _ rfl, rfl⟩, ?_⟩
          exact (((((HR.out.bel.setCell (Nat.le_refl _) _).setCell (Nat.le_refl _) _).setCell (Nat.le_refl _) _).setCell (Nat.le_refl _) _).setCell (Nat.le_refl _) _).alloc (by simp; exact hszw) _
    · have p2 : ¬ (j : Int) < n := by omega
      go_wp2_with fail
      (try simp only [Exit.inBlock, Exit.then])
      refine bodyPost_ret (v := .tuple #[.agg #[.int .i64 0, .int .i64 0, .int .i64 0, .string ⟨#[]⟩, .slice none 0 0], .bool false]) ?_ rfl ?_
      · simp [results, Tryz.f23]
        go_simp
      · refine ⟨.inr ⟨fun k hk => by have h := HR.out.no k hk (by rw [← HN.out] at hk; omega); simpa using h, rfl⟩, ?_⟩
        exact (((((HR.out.bel.setCell (Nat.le_refl _) _).setCell (Nat.le_refl _) _).setCell (Nat.le_refl _) _).setCell (Nat.le_refl _) _).setCell (Nat.le_refl _) _)
end Go.Proofs.YtggnocajpnmemaaGreatDoor
namespace Go.Proofs.YtggnocajpnmemaaGreatDoor
open Go.RowKit Go.Shelf

def posL : List PV → ByteArray → Nat
  | [], _ => 0
  | p :: m, q => if p.nm.toList < q.toList then posL m q + 1 else 0
theorem posL_le : ∀ (m : List PV) (q : ByteArray), posL m q ≤ m.length
  | [], _ => Nat.le_refl _
  | p :: m, q => by
    unfold posL
    have := posL_le m q
    split <;> simp <;> omega
theorem posL_lt : ∀ (m : List PV) (q : ByteArray) (t : Nat) (ht : t < m.length), t < posL m q → m[t].nm.toList < q.toList
  | [], _, _, ht, _ => absurd ht (by simp)
  | p :: m, q, t, ht, h => by
    unfold posL at h
    split at h
    · rename_i hp
      cases t with
      | zero => exact hp
      | succ t => exact posL_lt m q t (by simpa using ht) (by omega)
    · omega
theorem posL_at : ∀ (m : List PV) (q : ByteArray) (h : posL m q < m.length), ¬ m[posL m q].nm.toList < q.toList
  | [], _, h => absurd h (by simp)
  | p :: m, q, h => by
    by_cases hp : p.nm.toList < q.toList
    · have e : posL (p :: m) q = posL m q + 1 := by rw [posL, if_pos hp]
      have h2 : posL m q < m.length := by rw [e] at h; simpa using h
      have := posL_at m q h2
      intro g
      apply this
      have e3 : (p :: m)[posL (p :: m) q] = m[posL m q] := by
        have : ∀ (i : Nat) (hi : i < (p :: m).length), i = posL m q + 1 → (p :: m)[i] = m[posL m q] := by
          intro i hi hi2; subst hi2; rfl
        exact this _ _ e
      rwa [e3] at g
    · have e : posL (p :: m) q = 0 := by rw [posL, if_neg hp]
      intro g
      apply hp
      have e3 : (p :: m)[posL (p :: m) q] = p := by
        have : ∀ (i : Nat) (hi : i < (p :: m).length), i = 0 → (p :: m)[i] = p := by
          intro i hi hi2; subst hi2; rfl
        exact this _ _ e
      rwa [e3] at g
theorem posL_ge {m : List PV} (hm : Asc m) (q : ByteArray) (t : Nat) (ht : t < m.length) (h : posL m q ≤ t) : ¬ m[t].nm.toList < q.toList := by
  have h1 := posL_at m q (by omega)
  rcases Nat.lt_or_ge (posL m q) t with h2 | h2
  · have := List.pairwise_iff_getElem.1 hm (posL m q) t (by omega) ht h2
    exact fun g => h1 (List.lt_trans this g)
  · have e : posL m q = t := by omega
    have : ∀ (i : Nat) (hi : i < m.length), i = posL m q → ¬ m[i].nm.toList < q.toList := by
      intro i hi hi2; subst hi2; exact h1
    exact this t ht e.symm
theorem posL_uniq {m : List PV} (hm : Asc m) {q : ByteArray} {r : Nat} (hr : r ≤ m.length) (h1 : ∀ t (ht : t < m.length), t < r → cmpS m[t].nm q < 0) (h2 : ∀ t (ht : t < m.length), r ≤ t → 0 ≤ cmpS m[t].nm q) : r = posL m q := by
  have hp := posL_le m q
  rcases Nat.lt_trichotomy r (posL m q) with h | h | h
  · have a := posL_lt m q r (by omega) h
    have b := h2 r (by omega) (Nat.le_refl _)
    have := (cmpS_neg _ _).2 a
    omega
  · exact h
  · have a := posL_at m q (by omega)
    have b := h1 (posL m q) (by omega) h
    exact absurd ((cmpS_neg _ _).1 b) a
/-- The list with a value for a name. -/
def putL (l : List PV) (q : ByteArray) (v : V) : List PV := if v.kind = 0 then woL l q else insL (woL l q) (posL (woL l q) q) ⟨q, v⟩
theorem asc_put {l : List PV} (hl : Asc l) (q : ByteArray) (v : V) : Asc (insL (woL l q) (posL (woL l q) q) ⟨q, v⟩) := by
  refine asc_ins (hl.wo q) (fun t ht h => posL_lt _ _ t ht h) (fun t ht h => ?_)
  have h1 := posL_ge (hl.wo q) q t ht h
  have h2 := wo_ne (List.getElem_mem ht)
  rcases tri (woL l q)[t].nm.toList q.toList with g | g | g
  · exact absurd g h1
  · exact absurd g h2
  · exact g
theorem insL_len (m : List PV) (r : Nat) (x : PV) : (insL m r x).length = m.length + 1 := by
  have := (ins_perm m r x).length_eq
  rw [← this]; simp
theorem putL_len (l : List PV) (q : ByteArray) (v : V) : (putL l q v).length ≤ l.length + 1 := by
  have := woL_len l q
  unfold putL
  split
  · omega
  · rw [insL_len]; omega
def putE (l : List PV) (q : ByteArray) (v : V) : Int :=
  if propsE l ≠ 0 then propsE l else if nameOk q = false then 3 else if valueE v ≠ 0 then valueE v else if 20 < (putL l q v).length then 4 else 0
def dropE (l : List PV) (q : ByteArray) : Int :=
  if propsE l ≠ 0 then propsE l else if nameOk q = false then 3 else if getV l q = none then 7 else 0
/-- A list and an error, in a later world. -/
def Gives (w : World) (err : Int) (L : List PV) (e : Ending) (w' : World) : Prop :=
  ∃ v, e = .returned (.tuple #[v, .int .i64 err]) ∧ PrOwn w w.heap.size (if err = 0 then L else []) v w'
theorem gives_bad {w w' : World} {err : Int} {L : List PV} (h : err ≠ 0) (hb : Below w.heap.size w w') : Gives w err L (.returned (.tuple #[.slice none 0 0, .int .i64 err])) w' := by
  refine ⟨_, rfl, ?_⟩
  rw [if_neg h]
  exact ⟨hb, fun _ => False, [], World.ownsRow_nil _ _ _ _, rfl, fun _ h => h.elim, fun _ h => by simp [Value.ownBlock] at h⟩
theorem PrOwn.after {w W wx : World} {L : List PV} {v : Value} (h : PrOwn W W.heap.size L v wx) (hb : Below w.heap.size w W) : PrOwn w w.heap.size L v wx :=
  h.at.pr (hb.trans (h.bel.mono hb.size)) hb.size

set_option maxRecDepth 100000 in
set_option maxHeartbeats 8000000 in
theorem putOf_any (l : List PV) (q : ByteArray) (A : Option Addr) (c : Nat) (k i t : Int) (s : ByteArray) (lx : List V) (A2 : Option Addr) (c2 : Nat) (w : World)
    (hl : PSl w w.heap.size l (.slice A l.length c)) (hv : SlAt w w.heap.size lx (.slice A2 lx.length c2)) (hz : q.size ≤ 1048576 ∧ s.size ≤ 1048576) :
    Calls Tryz.prog 19 #[.slice A l.length c, .string q, .agg #[.int .i64 k, .int .i64 i, .int .i64 t, .string s, .slice A2 lx.length c2]] w (Gives w (putE l q (.mk k i t s lx)) (putL l q (.mk k i t s lx))) := by
  have HP := Lib.hid (fun W (hW : Below w.heap.size w W) => propsFault_any l A c W ((hl.below hW (Nat.le_refl _)).up hW.size))
  have HNM := Lib.hid (fun W => isName_any q W (by omega))
  have HVF := Lib.hid (fun W (hW : Below w.heap.size w W) => valueFault_any k i t s lx A2 c2 W hz.2 ((hv.below hW (Nat.le_refl _)).up hW.size))
  have HW : Hid (∀ W, Below w.heap.size w W → propsE l = 0 → Calls Tryz.prog 49 #[.slice A l.length c, .string q, .agg #[.int .i64 k, .int .i64 i, .int .i64 t, .string s, .slice A2 lx.length c2]] W fun e w' => ∃ v, e = .returned v ∧ PrOwn W W.heap.size (putL l q (.mk k i t s lx)) v w') := Lib.hid (fun W hW h0 => by
    have hasc : Asc l := propsE_rise h0
    have h20 : l.length ≤ 1000 := by unfold propsE at h0; split at h0; exact absurd h0 (by decide); omega
    exact with_any l q A c k i t s lx A2 c2 (posL (woL l q) q) W ((hl.below hW (Nat.le_refl _)).up hW.size) h20 ((hv.below hW (Nat.le_refl _)).up hW.size) hz (fun _ => asc_put hasc q _))
  have HE : Hid (putE l q (.mk k i t s lx) = if propsE l ≠ 0 then propsE l else if nameOk q = false then 3 else if valueE (.mk k i t s lx) ≠ 0 then valueE (.mk k i t s lx) else if 20 < (putL l q (.mk k i t s lx)).length then 4 else 0) := Lib.hid rfl
  have HPL := Lib.hid (putL_len l q (.mk k i t s lx))
  have HLL : Hid (propsE l = 0 → l.length ≤ 20) := Lib.hid (fun h0 => by unfold propsE at h0; split at h0; exact absurd h0 (by decide); omega)
  generalize hpe : putE l q (.mk k i t s lx) = pe at HE ⊢
  generalize hpl : putL l q (.mk k i t s lx) = pl at HE HW HPL ⊢
  obtain ⟨fe, hfe⟩ : ∃ fe, fe = propsE l := ⟨_, rfl⟩
  obtain ⟨ve, hve⟩ : ∃ ve, ve = valueE (.mk k i t s lx) := ⟨_, rfl⟩
  rw [← hfe] at HP HE HW HLL
  rw [← hve] at HVF HE
  generalize l.length = n at HP HW HLL HPL ⊢
  generalize lx.length = m at HVF HW ⊢
  clear hl hv hpe hpl hfe hve
  go_enter Tryz.func19, Tryz.ntmps19
  go_wp2_with fail
  refine (HP.out _ ((Below.refl _ w).alloc (Nat.le_refl _) _)).mono ?_
  rintro e1 w1 ⟨rfl, hb1⟩
  have hbl1 : w1.heap[w.heap.size]? = some (.cells #[.int .i64 k, .int .i64 i, .int .i64 t, .string s, .slice A2 m c2] 24 (0, 0)) := (hb1.block _ (by simp)).trans (heap_alloc_new w _)
  have HB1 := Lib.hid (((Below.refl _ w).alloc (Nat.le_refl _) _).trans (hb1.mono (by simp)))
  clear hb1
  by_cases hf0 : fe = 0
  · subst hf0
    have hsz1 := HB1.out.size
    rcases hno : nameOk q with _ | _
    · rw [hno] at HNM HE
      clear hbl1
      go_wp2_with fail
      refine (HNM.out _).mono ?_
      rintro e2 w2 ⟨rfl, hb2⟩
      have HB2 := Lib.hid (HB1.out.trans (hb2.mono hsz1))
      clear hb2
      go_wp2_with fail
      go_ret2
      have e3 : pe = 3 := by have := HE.out; simpa using this
      rw [e3]
      exact gives_bad (by decide) HB2.out
    · rw [hno] at HNM HE
      have HBL1 := Lib.hid hbl1
      clear hbl1
      go_wp2_with fail
      refine (HNM.out _).mono ?_
      rintro e2 w2 ⟨rfl, hb2⟩
      have hbl2 := (hb2.block _ (lt_of_blk' HBL1.out)).trans HBL1.out
      have HB2 := Lib.hid (HB1.out.trans (hb2.mono hsz1))
      have d0 := cell_of_row w2 _ 0 _ _ (0, 0) hbl2
      have d1 := cell_of_row w2 _ 1 _ _ (0, 0) hbl2
      have d2 := cell_of_row w2 _ 2 _ _ (0, 0) hbl2
      have d3 := cell_of_row w2 _ 3 _ _ (0, 0) hbl2
      have d4 := cell_of_row w2 _ 4 _ _ (0, 0) hbl2
      have HBL2 := Lib.hid hbl2
      clear hb2 hbl2
      go_wp2_with fail
      refine (HVF.out _ HB2.out).mono ?_
      rintro e3 w3 ⟨rfl, hb3⟩
      have hbl3 := (hb3.block _ (lt_of_blk' HBL2.out)).trans HBL2.out
      have hsz2 := HB2.out.size
      have HB3 := Lib.hid (HB2.out.trans (hb3.mono hsz2))
      clear hb3 d0 d1 d2 d3 d4
      by_cases hv0 : ve = 0
      · subst hv0
        have d0 := cell_of_row w3 _ 0 _ _ (0, 0) hbl3
        have d1 := cell_of_row w3 _ 1 _ _ (0, 0) hbl3
        have d2 := cell_of_row w3 _ 2 _ _ (0, 0) hbl3
        have d3 := cell_of_row w3 _ 3 _ _ (0, 0) hbl3
        have d4 := cell_of_row w3 _ 4 _ _ (0, 0) hbl3
        clear hbl3
        go_wp2_with fail
        refine (HW.out _ HB3.out (by trivial)).mono ?_
        rintro e4 w4 ⟨v4, rfl, hP4⟩
        have hP5 := hP4.after HB3.out
        obtain ⟨F, xs, h1, h2, h3, h4⟩ := hP5.rep
        obtain ⟨A4, c4, rfl⟩ := own_shape h1
        have HP5 := Lib.hid hP5
        have HB5 := Lib.hid hP5.bel
        obtain ⟨z, hz4⟩ : ∃ z, z = pl.length := ⟨_, rfl⟩
        have HZ4 := Lib.hid hz4
        rw [← hz4] at HP5 HE HPL ⊢
        have hzle := HPL.out
        have hnle := HLL.out (by trivial)
        clear hP4 hP5 h1 h2 h3 h4 hz4 d0 d1 d2 d3 d4
        by_cases hbig : 20 < z
        · have p2 : (20 : Int) < z := by omega
          go_wp2_with fail
          go_ret2
          have e3 : pe = 4 := by have := HE.out; simpa [hbig] using this
          rw [e3]
          exact gives_bad (by decide) HB5.out
        · have p2 : ¬ (20 : Int) < z := by omega
          go_wp2_with fail
          go_ret2
          have e3 : pe = 0 := by have := HE.out; simpa [hbig] using this
          rw [e3]
          exact ⟨_, rfl, by rw [if_pos rfl]; exact HP5.out⟩
      · clear hbl3
        have HV0 := Lib.hid hv0
        go_wp2_with fail
        go_ret2
        have e3 : pe = ve := by have := HE.out; simpa [HV0.out] using this
        rw [e3]
        exact gives_bad HV0.out HB3.out
  · have HF0 := Lib.hid hf0
    clear hbl1
    go_wp2_with fail
    go_ret2
    have e3 : pe = fe := by have := HE.out; simpa [HF0.out] using this
    rw [e3]
    exact gives_bad HF0.out HB1.out
end Go.Proofs.YtggnocajpnmemaaGreatDoor
namespace Go.Proofs.YtggnocajpnmemaaGreatDoor
open Go.RowKit Go.Shelf

set_option maxRecDepth 100000 in
set_option maxHeartbeats 8000000 in
theorem dropOf_any (l : List PV) (q : ByteArray) (A : Option Addr) (c : Nat) (w : World)
    (hl : PSl w w.heap.size l (.slice A l.length c)) (hz : q.size ≤ 1048576) :
    Calls Tryz.prog 21 #[.slice A l.length c, .string q] w (Gives w (dropE l q) (woL l q)) := by
  have HP := Lib.hid (fun W (hW : Below w.heap.size w W) => propsFault_any l A c W ((hl.below hW (Nat.le_refl _)).up hW.size))
  have HNM := Lib.hid (fun W => isName_any q W (by omega))
  have HGO : Hid (∀ W, Below w.heap.size w W → Calls Tryz.prog 23 #[.slice A l.length c, .string q] W fun e w' =>
      ((∃ k i t s A2 n2 c2, getV l q ≠ none ∧ e = .returned (.tuple #[.agg #[.int .i64 k, .int .i64 i, .int .i64 t, .string s, .slice A2 n2 c2], .bool true])) ∨ (getV l q = none ∧ e = .returned (.tuple #[.agg #[.int .i64 0, .int .i64 0, .int .i64 0, .string ⟨#[]⟩, .slice none 0 0], .bool false]))) ∧ Below W.heap.size W w') := Lib.hid (fun W hW => (getOf_any l q A c W ((hl.below hW (Nat.le_refl _)).up hW.size)).mono (by
    rintro e w' ⟨hr, hb⟩
    refine ⟨?_, hb⟩
    rcases hr with ⟨j, hj, g, hy, hno2, hva, rfl⟩ | ⟨hno2, rfl⟩
    · refine .inl ?_
      rcases hlv : l[j].val with ⟨k, i, t, s, lx⟩
      rw [hlv] at hva
      obtain ⟨_, sl, rfl, A2, c2, rfl, _⟩ := hva
      exact ⟨k, i, t, s, A2, lx.length, c2, by rw [getV_at hj hy hno2]; simp, rfl⟩
    · exact .inr ⟨getV_none hno2, rfl⟩))
  have HW : Hid (∀ W, Below w.heap.size w W → propsE l = 0 → Calls Tryz.prog 49 #[.slice A l.length c, .string q, .agg #[.int .i64 0, .int .i64 0, .int .i64 0, .string ⟨#[]⟩, .slice none 0 0]] W fun e w' => ∃ v, e = .returned v ∧ PrOwn W W.heap.size (woL l q) v w') := Lib.hid (fun W hW h0 => by
    have h20 : l.length ≤ 1000 := by unfold propsE at h0; split at h0; exact absurd h0 (by decide); omega
    have h := with_any l q A c 0 0 0 ⟨#[]⟩ [] none 0 0 W ((hl.below hW (Nat.le_refl _)).up hW.size) h20 ⟨none, 0, rfl, by simp, by simp, .inl rfl⟩ ⟨hz, by decide⟩ (fun h => absurd rfl h)
    simpa using h)
  have HE : Hid (dropE l q = if propsE l ≠ 0 then propsE l else if nameOk q = false then 3 else if getV l q = none then 7 else 0) := Lib.hid rfl
  generalize hpe : dropE l q = pe at HE ⊢
  generalize hpl : woL l q = pl at HW ⊢
  obtain ⟨fe, hfe⟩ : ∃ fe, fe = propsE l := ⟨_, rfl⟩
  rw [← hfe] at HP HE HW
  obtain ⟨n, hn⟩ : ∃ n, n = l.length := ⟨_, rfl⟩
  rw [← hn] at HP HGO HW ⊢
  clear hl hpe hpl hfe hn
  go_enter Tryz.func21, Tryz.ntmps21
  go_wp2_with fail
  refine (HP.out _ (Below.refl _ w)).mono ?_
  rintro e1 w1 ⟨rfl, hb1⟩
  have HB1 := Lib.hid hb1
  clear hb1
  by_cases hf0 : fe = 0
  · subst hf0
    have hsz1 := HB1.out.size
    rcases hno : nameOk q with _ | _
    · rw [hno] at HNM HE
      go_wp2_with fail
      refine (HNM.out _).mono ?_
      rintro e2 w2 ⟨rfl, hb2⟩
      have HB2 := Lib.hid (HB1.out.trans (hb2.mono hsz1))
      clear hb2
      go_wp2_with fail
      go_ret2
      have e3 : pe = 3 := by have := HE.out; simpa using this
      rw [e3]
      exact gives_bad (by decide) HB2.out
    · rw [hno] at HNM HE
      go_wp2_with fail
      refine (HNM.out _).mono ?_
      rintro e2 w2 ⟨rfl, hb2⟩
      have HB2 := Lib.hid (HB1.out.trans (hb2.mono hsz1))
      clear hb2
      go_wp2_with fail
      refine (HGO.out _ HB2.out).mono ?_
      rintro e3 w3 ⟨hr, hb3⟩
      have hsz2 := HB2.out.size
      have HB3 := Lib.hid (HB2.out.trans (hb3.mono hsz2))
      have hsz3 := HB3.out.size
      clear hb3
      rcases hr with ⟨k, i, t, s, A2, m, c2, hg, rfl⟩ | ⟨hg, rfl⟩
      · have HG := Lib.hid hg
        clear hg
        go_wp2_with fail
        refine (HW.out _ (by first | exact HB3.out.alloc hsz3 _ | exact ((((((HB3.out.alloc hsz3 _).setCell hsz3 _).setCell hsz3 _).setCell hsz3 _).setCell hsz3 _).setCell hsz3 _)) (by trivial)).mono ?_
        rintro e4 w4 ⟨v4, rfl, hP4⟩
        have hP5 := hP4.after (w := w) (by first | exact HB3.out.alloc hsz3 _ | exact ((((((HB3.out.alloc hsz3 _).setCell hsz3 _).setCell hsz3 _).setCell hsz3 _).setCell hsz3 _).setCell hsz3 _))
        have HP5 := Lib.hid hP5
        clear hP4 hP5
        go_wp2_with fail
        go_ret2
        have e3 : pe = 0 := by have := HE.out; rw [if_neg HG.out] at this; simpa using this
        rw [e3]
        exact ⟨_, rfl, by rw [if_pos rfl]; exact HP5.out⟩
      · have HG := Lib.hid hg
        clear hg
        go_wp2_with fail
        go_ret2
        have e3 : pe = 7 := by have := HE.out; rw [if_pos HG.out] at this; simpa using this
        rw [e3]
        refine gives_bad (by decide) ?_
        first | exact HB3.out.alloc hsz3 _ | exact ((((((HB3.out.alloc hsz3 _).setCell hsz3 _).setCell hsz3 _).setCell hsz3 _).setCell hsz3 _).setCell hsz3 _)
  · have HF0 := Lib.hid hf0
    go_wp2_with fail
    go_ret2
    have e3 : pe = fe := by have := HE.out; simpa [HF0.out] using this
    rw [e3]
    exact gives_bad HF0.out HB1.out
end Go.Proofs.YtggnocajpnmemaaGreatDoor
namespace Go.Proofs.YtggnocajpnmemaaGreatDoor
open Go.RowKit Go.Shelf

set_option maxRecDepth 100000 in
set_option maxHeartbeats 8000000 in
theorem dropP_any (l : List PV) (q : ByteArray) (A : Option Addr) (c : Nat) (w : World)
    (hl : PSl w w.heap.size l (.slice A l.length c)) (hN : ∀ p ∈ l, nodesV p.val ≤ 1048576) (hz : q.size ≤ 1048576) :
    Calls Tryz.prog 20 #[.slice A l.length c, .string q] w (Gives w (dropE l q) (woL l q)) := by
  have HP := Lib.hid (fun W (hW : Below w.heap.size w W) => checkProps_any l A c W ((hl.below hW (Nat.le_refl _)).up hW.size))
  have HNM := Lib.hid (fun W => checkName_any q W (by omega))
  have HPO : Hid (∀ W, Below w.heap.size w W → propsE l = 0 → Calls Tryz.prog 46 #[.slice A l.length c, .string q] W fun e w' =>
      (∃ (r : Nat) (b : Bool), (b = true ↔ getV l q ≠ none) ∧ e = .returned (.tuple #[.int .i64 r, .bool b])) ∧ Below W.heap.size W w') := Lib.hid (fun W hW h0 => (position_any l q A c W ((hl.below hW (Nat.le_refl _)).up hW.size) (mono_of (propsE_rise h0) q)).mono (by
    rintro e w' ⟨⟨r, b, hr, h1, h2, h3, rfl⟩, hb⟩
    refine ⟨⟨r, b, ?_, rfl⟩, hb⟩
    rw [h3]
    constructor
    · rintro ⟨hr2, h4⟩
      rw [found_some h1 hr2 h4]; simp
    · intro h4
      by_cases hx : ∃ hr : r < l.length, cmpS l[r].nm q = 0
      · exact hx
      · exact absurd (found_none (propsE_rise h0) h1 h2 hx) h4))
  have HW := Lib.hid (fun W (hW : Below w.heap.size w W) => without_any l q A c W ((hl.below hW (Nat.le_refl _)).up hW.size) hN)
  have HE : Hid (dropE l q = if propsE l ≠ 0 then propsE l else if nameOk q = false then 3 else if getV l q = none then 7 else 0) := Lib.hid rfl
  have HNE : Hid (nameE q = if nameOk q then 0 else 3) := Lib.hid rfl
  generalize hpe : dropE l q = pe at HE ⊢
  generalize hpl : woL l q = pl at HW ⊢
  obtain ⟨fe, hfe⟩ : ∃ fe, fe = propsE l := ⟨_, rfl⟩
  rw [← hfe] at HP HE HPO
  obtain ⟨n, hn⟩ : ∃ n, n = l.length := ⟨_, rfl⟩
  rw [← hn] at HP HPO HW ⊢
  clear hl hN hpe hpl hfe hn
  go_enter Tryz.func20, Tryz.ntmps20
  go_wp2_with fail
  refine (HP.out _ (Below.refl _ w)).mono ?_
  rintro e1 w1 ⟨rfl, hb1⟩
  have HB1 := Lib.hid hb1
  clear hb1
  by_cases hf0 : fe = 0
  · subst hf0
    have hsz1 := HB1.out.size
    rcases hno : nameOk q with _ | _
    · have h3 : nameE q = 3 := by rw [HNE.out, hno]; rfl
      rw [h3] at HNM
      rw [hno] at HE
      go_wp2_with fail
      refine (HNM.out _).mono ?_
      rintro e2 w2 ⟨rfl, rfl⟩
      go_wp2_with fail
      go_ret2
      have e3 : pe = 3 := by have := HE.out; simpa using this
      rw [e3]
      exact gives_bad (by decide) HB1.out
    · have h3 : nameE q = 0 := by rw [HNE.out, hno]; rfl
      rw [h3] at HNM
      rw [hno] at HE
      go_wp2_with fail
      refine (HNM.out _).mono ?_
      rintro e2 w2 ⟨rfl, rfl⟩
      go_wp2_with fail
      refine (HPO.out _ HB1.out (by trivial)).mono ?_
      rintro e3 w3 ⟨⟨r, b, hrb, rfl⟩, hb3⟩
      have HB3 := Lib.hid (HB1.out.trans (hb3.mono hsz1))
      have HRB := Lib.hid hrb
      clear hb3 hrb
      rcases b with _ | _
      · go_wp2_with fail
        go_ret2
        have e3 : pe = 7 := by
          have := HE.out
          have hg : getV l q = none := Classical.byContradiction fun h => by have := HRB.out.2 h; simp at this
          rw [if_pos hg] at this; simpa using this
        rw [e3]
        exact gives_bad (by decide) HB3.out
      · go_wp2_with fail
        refine (HW.out _ HB3.out).mono ?_
        rintro e4 w4 ⟨v4, rfl, hP4⟩
        have HP5 := Lib.hid (hP4.after HB3.out)
        clear hP4
        go_wp2_with fail
        go_ret2
        have e3 : pe = 0 := by
          have := HE.out
          rw [if_neg (HRB.out.1 (by trivial))] at this; simpa using this
        rw [e3]
        exact ⟨_, rfl, by rw [if_pos rfl]; exact HP5.out⟩
  · have HF0 := Lib.hid hf0
    go_wp2_with fail
    go_ret2
    have e3 : pe = fe := by have := HE.out; simpa [HF0.out] using this
    rw [e3]
    exact gives_bad HF0.out HB1.out
end Go.Proofs.YtggnocajpnmemaaGreatDoor
namespace Go.Proofs.YtggnocajpnmemaaGreatDoor
open Go.RowKit Go.Shelf

theorem OwnAt.later {W w w' : World} {base : Nat} {L : List PV} {v : Value} (h : OwnAt W base L v w) (hb : Below w.heap.size w w') : OwnAt W base L v w' := by
  obtain ⟨F, xs, h1, h2, h3, h4⟩ := h.rep
  exact ⟨h.bel.trans (hb.mono h.le), Nat.le_trans h.le hb.size, F, xs, own_kept h1 (fun g hg => hb.block g (h1.lt g hg).2), h2.keep (fun k hk => hb.block k (h3 k hk)) (fun _ h => h), fun k hk => Nat.lt_of_lt_of_le (h3 k hk) hb.size, h4⟩
theorem OwnAt.psl {W w : World} {base : Nat} {L : List PV} {v : Value} (h : OwnAt W base L v w) (hl : L.length ≤ 1048576) : PSl w w.heap.size L v := by
  obtain ⟨F, xs, hown, hrep, hF, hFo⟩ := h.rep
  rcases hown.2 with ⟨e1, e2⟩ | ⟨g, cap, cur, e1, hb, hg, hnc, hcm, hcs, htake⟩
  · have hL : L = [] := List.eq_nil_of_length_eq_zero e2
    subst hL
    exact ⟨none, 0, e1, by simp, by simp, .inl rfl⟩
  · refine ⟨_, cap, e1, hl, hnc, .inr ⟨g, 0, rfl, ?_⟩⟩
    have hlt := (hown.lt g (by rw [e1]; rfl)).2
    refine rep_prow (fun k hk => hF k hk) g 0 hlt hrep (fun j u hj => ?_)
    rw [e1] at hown
    have hj2 : j < L.length * 6 := by
      have := (List.getElem?_eq_some_iff.1 hj).1
      rw [hown.1] at this
      exact this
    rw [Nat.zero_add, hown.cellAt j hj2]
    exact hj

set_option maxRecDepth 100000 in
set_option maxHeartbeats 8000000 in
theorem putP_any (l : List PV) (q : ByteArray) (A : Option Addr) (c : Nat) (k i t : Int) (s : ByteArray) (lx : List V) (A2 : Option Addr) (c2 : Nat) (w : World)
    (hl : PSl w w.heap.size l (.slice A l.length c)) (hN : ∀ p ∈ l, nodesV p.val ≤ 1048576) (hv : SlAt w w.heap.size lx (.slice A2 lx.length c2)) (hNv : nodesL lx ≤ 1048576) (hz : q.size ≤ 1048576 ∧ s.size ≤ 1048576) :
    Calls Tryz.prog 18 #[.slice A l.length c, .string q, .agg #[.int .i64 k, .int .i64 i, .int .i64 t, .string s, .slice A2 lx.length c2]] w (Gives w (putE l q (.mk k i t s lx)) (putL l q (.mk k i t s lx))) := by
  have HP := Lib.hid (fun W (hW : Below w.heap.size w W) => checkProps_any l A c W ((hl.below hW (Nat.le_refl _)).up hW.size))
  have HNM := Lib.hid (fun W => checkName_any q W (by omega))
  have HVF := Lib.hid (fun W (hW : Below w.heap.size w W) => checkValue_any k i t s lx A2 c2 W hz.2 ((hv.below hW (Nat.le_refl _)).up hW.size))
  have HWO := Lib.hid (fun W (hW : Below w.heap.size w W) => without_any l q A c W ((hl.below hW (Nat.le_refl _)).up hW.size) hN)
  have HPO : Hid (propsE l = 0 → ∀ W base w5 A5 c5, OwnAt W base (woL l q) (.slice A5 (woL l q).length c5) w5 → Calls Tryz.prog 46 #[.slice A5 (woL l q).length c5, .string q] w5 fun e w' =>
      (∃ b : Bool, e = .returned (.tuple #[.int .i64 (posL (woL l q) q), .bool b])) ∧ Below w5.heap.size w5 w') := Lib.hid (fun h0 W base w5 A5 c5 ho => by
    have hasc : Asc (woL l q) := Asc.wo (propsE_rise h0) q
    have hlen : (woL l q).length ≤ 1048576 := Nat.le_trans (woL_len l q) (by unfold propsE at h0; split at h0; exact absurd h0 (by decide); omega)
    refine (position_any (woL l q) q A5 c5 w5 (ho.psl hlen) (mono_of hasc q)).mono ?_
    rintro e w' ⟨⟨r, b, hr, h1, h2, h3, rfl⟩, hb⟩
    exact ⟨⟨b, by rw [posL_uniq hasc hr h1 h2]⟩, hb⟩)
  have HCO := Lib.hid (fun W (hW : Below w.heap.size w W) => copyOf_any k i t s lx A2 c2 w.heap.size W hW.size hz.2 (hv.below hW (Nat.le_refl _)) hNv)
  have HIN : Hid (propsE l = 0 → ∀ (v : Value) (A' : Option Addr) (c' vb base : Nat) (F2 : Nat → Prop) (W w : World), OwnAt W base (woL l q) v w → w.heap[vb]? = some (.cells #[.string q, .int .i64 k, .int .i64 i, .int .i64 t, .string s, .slice A' lx.length c'] 65 (0, 0)) → SlF w F2 lx (.slice A' lx.length c') →
      (∀ k, F2 k → k < w.heap.size ∧ v.ownBlock ≠ some k) → v.ownBlock ≠ some vb →
      Calls Tryz.prog 47 #[v, .int .i64 (posL (woL l q) q), .slice (some ⟨vb, 0, none⟩) 1 1] w fun e w' => ∃ v', e = .returned v' ∧ OwnAt W base (insL (woL l q) (posL (woL l q) q) ⟨q, .mk k i t s lx⟩) v' w') := Lib.hid (fun h0 v A' c' vb base F2 W w ho hvb hsl hF2 hvo => by
    have hlen : (woL l q).length ≤ 1000 := Nat.le_trans (woL_len l q) (by unfold propsE at h0; split at h0; exact absurd h0 (by decide); omega)
    exact insert_any (woL l q) ⟨q, .mk k i t s lx⟩ (posL (woL l q) q) v A' c' vb base F2 W w hlen ho (posL_le _ _) hvb ⟨hz.1, hz.2, hsl⟩ hF2 hvo)
  have HE : Hid (putE l q (.mk k i t s lx) = if propsE l ≠ 0 then propsE l else if nameOk q = false then 3 else if valueE (.mk k i t s lx) ≠ 0 then valueE (.mk k i t s lx) else if 20 < (putL l q (.mk k i t s lx)).length then 4 else 0) := Lib.hid rfl
  have HPL := Lib.hid (putL_len l q (.mk k i t s lx))
  have HLL : Hid (propsE l = 0 → l.length ≤ 20) := Lib.hid (fun h0 => by unfold propsE at h0; split at h0; exact absurd h0 (by decide); omega)
  have HWL : Hid ((woL l q).length ≤ l.length) := Lib.hid (woL_len l q)
  have HNE : Hid (nameE q = if nameOk q then 0 else 3) := Lib.hid rfl
  have HK0 : Hid (k = 0 → putL l q (.mk k i t s lx) = woL l q) := Lib.hid (fun h => by unfold putL; rw [if_pos (show V.kind (.mk k i t s lx) = 0 from h)])
  have HK1 : Hid (k ≠ 0 → putL l q (.mk k i t s lx) = insL (woL l q) (posL (woL l q) q) ⟨q, .mk k i t s lx⟩) := Lib.hid (fun h => by unfold putL; rw [if_neg (show ¬ V.kind (.mk k i t s lx) = 0 from h)])
  generalize hpe : putE l q (.mk k i t s lx) = pe at HE ⊢
  generalize hpl : putL l q (.mk k i t s lx) = pl at HE HPL HK0 HK1 ⊢
  obtain ⟨fe, hfe⟩ : ∃ fe, fe = propsE l := ⟨_, rfl⟩
  obtain ⟨ve, hve⟩ : ∃ ve, ve = valueE (.mk k i t s lx) := ⟨_, rfl⟩
  rw [← hfe] at HP HE HLL HPO HIN
  rw [← hve] at HVF HE
  generalize insL (woL l q) (posL (woL l q) q) ⟨q, .mk k i t s lx⟩ = il at HIN HK1
  generalize posL (woL l q) q = r at HPO HIN
  generalize woL l q = wo at HWO HPO HIN HWL HK0
  obtain ⟨n, hn⟩ : ∃ n, n = l.length := ⟨_, rfl⟩
  rw [← hn] at HP HWO HLL HPL HWL ⊢
  obtain ⟨m, hm⟩ : ∃ m, m = lx.length := ⟨_, rfl⟩
  have HM := Lib.hid hm
  rw [← hm] at HVF HCO HIN ⊢
  clear hl hv hN hNv hpe hpl hfe hve hn hm
  go_enter Tryz.func18, Tryz.ntmps18
  go_wp2_with fail
  refine (HP.out _ ((Below.refl _ w).alloc (Nat.le_refl _) _)).mono ?_
  rintro e1 w1 ⟨rfl, hb1⟩
  have hbl1 : w1.heap[w.heap.size]? = some (.cells #[.int .i64 k, .int .i64 i, .int .i64 t, .string s, .slice A2 m c2] 24 (0, 0)) := (hb1.block _ (by simp)).trans (heap_alloc_new w _)
  have HB1 := Lib.hid (((Below.refl _ w).alloc (Nat.le_refl _) _).trans (hb1.mono (by simp)))
  clear hb1
  by_cases hf0 : fe = 0
  · subst hf0
    have hsz1 := HB1.out.size
    rcases hno : nameOk q with _ | _
    · have h3 : nameE q = 3 := by rw [HNE.out, hno]; rfl
      rw [h3] at HNM
      rw [hno] at HE
      clear hbl1
      go_wp2_with fail
      refine (HNM.out _).mono ?_
      rintro e2 w2 ⟨rfl, rfl⟩
      go_wp2_with fail
      go_ret2
      have e3 : pe = 3 := by have := HE.out; simpa using this
      rw [e3]
      exact gives_bad (by decide) HB1.out
    · have h3 : nameE q = 0 := by rw [HNE.out, hno]; rfl
      rw [h3] at HNM
      rw [hno] at HE
      have HBL1 := Lib.hid hbl1
      clear hbl1
      go_wp2_with fail
      refine (HNM.out _).mono ?_
      rintro e2 w2 ⟨rfl, rfl⟩
      have hbl2 := HBL1.out
      have d0 := cell_of_row w2 _ 0 _ _ (0, 0) hbl2
      have d1 := cell_of_row w2 _ 1 _ _ (0, 0) hbl2
      have d2 := cell_of_row w2 _ 2 _ _ (0, 0) hbl2
      have d3 := cell_of_row w2 _ 3 _ _ (0, 0) hbl2
      have d4 := cell_of_row w2 _ 4 _ _ (0, 0) hbl2
      clear hbl2
      go_wp2_with fail
      refine (HVF.out _ HB1.out).mono ?_
      rintro e3 w3 ⟨rfl, hb3⟩
      have hbl3 := (hb3.block _ (lt_of_blk' HBL1.out)).trans HBL1.out
      have HB3 := Lib.hid (HB1.out.trans (hb3.mono hsz1))
      clear hb3 d0 d1 d2 d3 d4
      by_cases hv0 : ve = 0
      · subst hv0
        have HBL3 := Lib.hid hbl3
        clear hbl3
        go_wp2_with fail
        refine (HWO.out _ HB3.out).mono ?_
        rintro e4 w4 ⟨v4, rfl, hP4⟩
        have hO4 := hP4.at
        have hle3 := HB3.out.size
        have hbw4 : Below w3.heap.size w3 w4 := hP4.bel
        have hbl4 := (hbw4.block _ (lt_of_blk' HBL3.out)).trans HBL3.out
        have HB4 := Lib.hid (HB3.out.trans (hbw4.mono hle3))
        have HP4 := Lib.hid (hP4.after HB3.out)
        obtain ⟨F, xs, h1, h2, h3, h4⟩ := hO4.rep
        obtain ⟨A4, c4, rfl⟩ := own_shape h1
        have hown4 : ∀ g, (Value.slice A4 wo.length c4).ownBlock = some g → w3.heap.size ≤ g ∧ g < w4.heap.size := h1.lt
        have HO4 := Lib.hid hO4
        have HOWN4 := Lib.hid hown4
        have d0 := cell_of_row w4 _ 0 _ _ (0, 0) hbl4
        have d1 := cell_of_row w4 _ 1 _ _ (0, 0) hbl4
        have d2 := cell_of_row w4 _ 2 _ _ (0, 0) hbl4
        have d3 := cell_of_row w4 _ 3 _ _ (0, 0) hbl4
        have d4 := cell_of_row w4 _ 4 _ _ (0, 0) hbl4
        have HBL4 := Lib.hid hbl4
        have hwl := HWL.out
        have hn20 := HLL.out (by trivial)
        clear hP4 hO4 hbw4 h1 h2 h3 h4 hown4 hbl4
        by_cases hk : k = 0
        · have e5 := HK0.out hk
          subst hk
          rw [e5] at HE ⊢
          have e3 : pe = 0 := by
            have := HE.out
            have hno : ¬ 20 < wo.length := by omega
            simpa [hno] using this
          generalize hwz : wo.length = wl at HP4 hwl
          clear HPO HIN HO4 HOWN4
          go_wp2_with fail
          go_ret2
          rw [e3]
          exact ⟨_, rfl, by rw [if_pos rfl]; first | exact HP4.out | (rw [e5]; exact HP4.out)⟩
        · have HPC := Lib.hid (HPO.out (by trivial) _ _ w4 A4 c4 HO4.out)
          have e5 := HK1.out hk
          rw [e5] at HE HPL ⊢
          have hilz := HPL.out
          have HIC : Hid (∀ (wl : Nat), wl = wo.length → ∀ (A' : Option Addr) (c' vb : Nat) (F2 : Nat → Prop) (w8 : World), Below w4.heap.size w4 w8 → w8.heap[vb]? = some (.cells #[.string q, .int .i64 k, .int .i64 i, .int .i64 t, .string s, .slice A' m c'] 65 (0, 0)) → SlF w8 F2 lx (.slice A' m c') →
              (∀ k, F2 k → k < w8.heap.size ∧ (k < w3.heap.size ∨ w4.heap.size ≤ k)) → w4.heap.size ≤ vb →
              Calls Tryz.prog 47 #[.slice A4 wl c4, .int .i64 r, .slice (some ⟨vb, 0, none⟩) 1 1] w8 fun e w' => ∃ v', e = .returned v' ∧ OwnAt w3 w3.heap.size il v' w') := Lib.hid (fun wl hwl A' c' vb F2 w8 hb8 hvb8 hsl8 hF8 hvb4 => by
            subst hwl
            exact HIN.out (by trivial) _ A' c' vb w3.heap.size F2 w3 w8 (HO4.out.later hb8) hvb8 hsl8 (fun k hk => ⟨(hF8 k hk).1, fun e => by have h1 := HOWN4.out k e; have h2 := (hF8 k hk).2; omega⟩) (fun e => by have h1 := HOWN4.out vb e; omega))
          obtain ⟨wl, hwlz⟩ : ∃ wl, wl = wo.length := ⟨_, rfl⟩
          have HI2 := Lib.hid (HIC.out wl hwlz)
          have hil1 : il.length ≤ 21 := by omega
          rw [← hwlz] at HPC ⊢
          clear HIC HPO HIN HO4 HOWN4 hwlz HP4
          go_wp2_with fail
          refine HPC.out.mono ?_
          rintro e6 w6 ⟨⟨b6, rfl⟩, hb6⟩
          have hle4 := HB4.out.size
          have HB6 := Lib.hid (HB4.out.trans (hb6.mono hle4))
          have hbl6 := (hb6.block _ (lt_of_blk' HBL4.out)).trans HBL4.out
          have HB46 := Lib.hid hb6
          clear d0 d1 d2 d3 d4 hb6
          have d0 := cell_of_row w6 _ 0 _ _ (0, 0) hbl6
          have d1 := cell_of_row w6 _ 1 _ _ (0, 0) hbl6
          have d2 := cell_of_row w6 _ 2 _ _ (0, 0) hbl6
          have d3 := cell_of_row w6 _ 3 _ _ (0, 0) hbl6
          have d4 := cell_of_row w6 _ 4 _ _ (0, 0) hbl6
          clear hbl6
          go_wp2_with fail
          refine (HCO.out _ HB6.out).mono ?_
          rintro e7 w7 ⟨A', c', rfl, hs7, hb7⟩
          have hle6 := HB6.out.size
          have hs46 := HB46.out.size
          have hs67 := hb7.size
          have HB47 := Lib.hid (HB46.out.trans (hb7.mono hs46))
          have HB7 := Lib.hid (HB6.out.trans (hb7.mono hle6))
          have HS7 := Lib.hid hs7
          clear hb7 hs7 d0 d1 d2 d3 d4
          go_wp2_with fail
          refine (HI2.out A' c' w7.heap.size (fun b => (b < w.heap.size ∨ w6.heap.size ≤ b) ∧ b < w7.heap.size) _ (HB47.out.alloc (by omega) _) (heap_alloc_new w7 _) (HS7.out.keep (fun b hb => Below.heap_alloc _ _ _ hb.2) (fun b hb => hb)) (fun b hb => ⟨by simp; omega, by omega⟩) (by omega)).mono ?_
          rintro e9 w9 ⟨v9, rfl, hO9⟩
          have hB9 : Below w.heap.size w w9 := HB3.out.trans (hO9.bel.mono hle3)
          have HX := Lib.hid (hO9.pr hB9 hle3)
          have HB9 := Lib.hid hB9
          obtain ⟨F, xs, h1, h2, h3, h4⟩ := hO9.rep
          obtain ⟨A9, c9, rfl⟩ := own_shape h1
          obtain ⟨z, hz9⟩ : ∃ z, z = il.length := ⟨_, rfl⟩
          rw [← hz9] at HX HE hil1 ⊢
          clear hO9 hB9 h1 h2 h3 h4 hz9
          by_cases hbig : 20 < z
          · have p2 : (20 : Int) < z := by omega
            go_wp2_with fail
            go_ret2
            have e3 : pe = 4 := by have := HE.out; simpa [hbig] using this
            rw [e3]
            exact gives_bad (by decide) HB9.out
          · have p2 : ¬ (20 : Int) < z := by omega
            go_wp2_with fail
            go_ret2
            have e3 : pe = 0 := by have := HE.out; simpa [hbig] using this
            rw [e3]
            exact ⟨_, rfl, by rw [if_pos rfl]; first | exact HX.out | (rw [e5]; exact HX.out)⟩
      · clear hbl3
        have HV0 := Lib.hid hv0
        go_wp2_with fail
        go_ret2
        have e3 : pe = ve := by have := HE.out; simpa [HV0.out] using this
        rw [e3]
        exact gives_bad HV0.out HB3.out
  · have HF0 := Lib.hid hf0
    clear hbl1
    go_wp2_with fail
    go_ret2
    have e3 : pe = fe := by have := HE.out; simpa [HF0.out] using this
    rw [e3]
    exact gives_bad HF0.out HB1.out
end Go.Proofs.YtggnocajpnmemaaGreatDoor
namespace Go.Proofs.YtggnocajpnmemaaGreatDoor
open Go.RowKit Go.Shelf

/-- What both sides' Get gives: the value, in a later world, or none. -/
def GetTo (o : Option V) (w : World) (e : Ending) (w' : World) : Prop :=
  (match o with
    | some (.mk k i t s l) => s.size ≤ 1048576 ∧ ∃ A c, e = .returned (.tuple #[.agg #[.int .i64 k, .int .i64 i, .int .i64 t, .string s, .slice A l.length c], .bool true]) ∧ SlAt w' w'.heap.size l (.slice A l.length c)
    | none => e = .returned (.tuple #[.agg #[.int .i64 0, .int .i64 0, .int .i64 0, .string ⟨#[]⟩, .slice none 0 0], .bool false])) ∧ Below w.heap.size w w'
theorem getTo_of {l : List PV} {q : ByteArray} {w w' : World} {e : Ending} (h : GotIt l q w e w') : GetTo (getV l q) w e w' := by
  obtain ⟨h, hb⟩ := h
  refine ⟨?_, hb⟩
  rcases h with ⟨j, hj, g, hy, hno, hv, rfl⟩ | ⟨hno, rfl⟩
  · rw [getV_at hj hy hno]
    rcases hlv : l[j].val with ⟨k, i, t, s, lx⟩
    rw [hlv] at hv
    obtain ⟨hz, sl, rfl, A, c, rfl, hr⟩ := hv
    exact ⟨hz, A, c, rfl, A, c, rfl, hr⟩
  · rw [getV_none hno]
theorem getTo_of2 {l : List PV} {q : ByteArray} {w w' : World} {e : Ending}
    (h : ((∃ (j : Nat) (hj : j < l.length) (g : Value), (l[j].nm.toList == q.toList) = true ∧ (∀ k (hk : k < l.length), k < j → (l[k].nm.toList == q.toList) = false) ∧ VAt w w.heap.size l[j].val g ∧ e = .returned (.tuple #[g, .bool true])) ∨
        ((∀ k (hk : k < l.length), (l[k].nm.toList == q.toList) = false) ∧ e = .returned (.tuple #[.agg #[.int .i64 0, .int .i64 0, .int .i64 0, .string ⟨#[]⟩, .slice none 0 0], .bool false]))) ∧ Below w.heap.size w w') : GetTo (getV l q) w e w' := by
  obtain ⟨h, hb⟩ := h
  refine ⟨?_, hb⟩
  rcases h with ⟨j, hj, g, hy, hno, hv, rfl⟩ | ⟨hno, rfl⟩
  · rw [getV_at hj hy hno]
    rcases hlv : l[j].val with ⟨k, i, t, s, lx⟩
    rw [hlv] at hv
    obtain ⟨hz, sl, rfl, A, c, rfl, hr⟩ := hv
    exact ⟨hz, A, c, rfl, (SlAt.below ⟨A, c, rfl, hr⟩ hb (Nat.le_refl _)).up hb.size⟩
  · rw [getV_none hno]
theorem gives_psl {w w' : World} {err : Int} {L : List PV} {e : Ending} (h : Gives w err L e w') (hl : L.length ≤ 1048576) : ∃ A c, e = .returned (.tuple #[.slice A (if err = 0 then L else []).length c, .int .i64 err]) ∧ PSl w' w'.heap.size (if err = 0 then L else []) (.slice A (if err = 0 then L else []).length c) ∧ Below w.heap.size w w' := by
  obtain ⟨v, rfl, hP⟩ := h
  have h1 := hP.psl (by split; exact hl; simp)
  have hb := hP.bel
  obtain ⟨A, c, rfl, hr⟩ := h1
  exact ⟨A, c, rfl, ⟨A, c, rfl, hr⟩, hb⟩

set_option maxRecDepth 100000 in
set_option maxHeartbeats 8000000 in
theorem law_any (l : List PV) (q : ByteArray) (A : Option Addr) (c : Nat) (k i t : Int) (s : ByteArray) (lx : List V) (A2 : Option Addr) (c2 : Nat) (w : World)
    (hl : PSl w w.heap.size l (.slice A l.length c)) (hN : ∀ p ∈ l, nodesV p.val ≤ 1048576) (hv : SlAt w w.heap.size lx (.slice A2 lx.length c2)) (hNv : nodesL lx ≤ 1048576) (hz : q.size ≤ 1048576 ∧ s.size ≤ 1048576) (hll : l.length ≤ 1048575) :
    Calls Tryz.prog 5 #[.slice A l.length c, .string q, .agg #[.int .i64 k, .int .i64 i, .int .i64 t, .string s, .slice A2 lx.length c2]] w (Quiet w (.bool true)) := by
  have hpl : (putL l q (.mk k i t s lx)).length ≤ 1048576 := by have := putL_len l q (.mk k i t s lx); omega
  have hwl : (woL l q).length ≤ 1048576 := by have := woL_len l q; omega
  have HPUT := Lib.hid (fun W (hW : Below w.heap.size w W) => (putP_any l q A c k i t s lx A2 c2 W ((hl.below hW (Nat.le_refl _)).up hW.size) hN ((hv.below hW (Nat.le_refl _)).up hW.size) hNv hz).mono (fun _ _ h => gives_psl h hpl))
  have HPUO := Lib.hid (fun W (hW : Below w.heap.size w W) => (putOf_any l q A c k i t s lx A2 c2 W ((hl.below hW (Nat.le_refl _)).up hW.size) ((hv.below hW (Nat.le_refl _)).up hW.size) hz).mono (fun _ _ h => gives_psl h hpl))
  have HDR := Lib.hid (fun W (hW : Below w.heap.size w W) => (dropP_any l q A c W ((hl.below hW (Nat.le_refl _)).up hW.size) hN hz.1).mono (fun _ _ h => gives_psl h hwl))
  have HDRO := Lib.hid (fun W (hW : Below w.heap.size w W) => (dropOf_any l q A c W ((hl.below hW (Nat.le_refl _)).up hW.size) hz.1).mono (fun _ _ h => gives_psl h hwl))
  have HGE := Lib.hid (fun W (hW : Below w.heap.size w W) => (propGet_any l q A c W ((hl.below hW (Nat.le_refl _)).up hW.size) hN).mono (fun _ _ h => getTo_of h))
  have HGO := Lib.hid (fun W (hW : Below w.heap.size w W) => (getOf_any l q A c W ((hl.below hW (Nat.le_refl _)).up hW.size)).mono (fun _ _ h => getTo_of2 h))
  generalize putE l q (.mk k i t s lx) = pe at HPUT HPUO
  generalize (if pe = 0 then putL l q (.mk k i t s lx) else []) = La at HPUT HPUO
  generalize dropE l q = de at HDR HDRO
  generalize (if de = 0 then woL l q else []) = Lc at HDR HDRO
  generalize getV l q = gv at HGE HGO
  have HLA := Lib.hid (fun (A1 A2 : Option Addr) (c1 c2 : Nat) (W : World) (h1 : PSl W W.heap.size La (.slice A1 La.length c1)) (h2 : PSl W W.heap.size La (.slice A2 La.length c2)) => alikeL_any La A1 A2 c1 c2 W h1 h2)
  have HLC := Lib.hid (fun (A1 A2 : Option Addr) (c1 c2 : Nat) (W : World) (h1 : PSl W W.heap.size Lc (.slice A1 Lc.length c1)) (h2 : PSl W W.heap.size Lc (.slice A2 Lc.length c2)) => alikeL_any Lc A1 A2 c1 c2 W h1 h2)
  generalize l.length = n at HPUT HPUO HDR HDRO HGE HGO ⊢
  generalize lx.length = m at HPUT HPUO ⊢
  generalize La.length = na at HPUT HPUO HLA
  generalize Lc.length = nc at HDR HDRO HLC
  clear hl hN hv hNv hz hll hpl hwl
  go_enter Tryz.func5, Tryz.ntmps5
  have hb0 : ∀ o, Below w.heap.size w (w.alloc o) := fun o => (Below.refl _ w).alloc (Nat.le_refl _) o
  go_wp2_with fail
  refine (HPUT.out _ (hb0 _)).mono ?_
  rintro e1 w1 ⟨Aa, ca, rfl, hPa, hb1⟩
  have hbl1 : w1.heap[w.heap.size]? = some (.cells #[.int .i64 k, .int .i64 i, .int .i64 t, .string s, .slice A2 m c2] 24 (0, 0)) := (hb1.block _ (by simp)).trans (heap_alloc_new w _)
  have d0 := cell_of_row w1 _ 0 _ _ (0, 0) hbl1
  have d1 := cell_of_row w1 _ 1 _ _ (0, 0) hbl1
  have d2 := cell_of_row w1 _ 2 _ _ (0, 0) hbl1
  have d3 := cell_of_row w1 _ 3 _ _ (0, 0) hbl1
  have d4 := cell_of_row w1 _ 4 _ _ (0, 0) hbl1
  have HB1 := Lib.hid ((hb0 (.cells #[.int .i64 k, .int .i64 i, .int .i64 t, .string s, .slice A2 m c2] 24)).trans (hb1.mono (by simp)))
  have HPA := Lib.hid hPa
  clear hb1 hbl1 hPa hb0
  go_wp2_with fail
  refine (HPUO.out _ HB1.out).mono ?_
  rintro e2 w2 ⟨Ab, cb, rfl, hPb, hb2⟩
  have HPB := Lib.hid hPb
  have HPA2 := Lib.hid ((HPA.out.below hb2 (Nat.le_refl _)).up hb2.size)
  have HB2 := Lib.hid (HB1.out.trans (hb2.mono HB1.out.size))
  clear hb2 hPb d0 d1 d2 d3 d4
  go_wp2_with fail
  refine (HDR.out _ HB2.out).mono ?_
  rintro e3 w3 ⟨Ac, cc, rfl, hPc, hb3⟩
  have HPC := Lib.hid hPc
  have HPA3 := Lib.hid ((HPA2.out.below hb3 (Nat.le_refl _)).up hb3.size)
  have HPB3 := Lib.hid ((HPB.out.below hb3 (Nat.le_refl _)).up hb3.size)
  have HB3 := Lib.hid (HB2.out.trans (hb3.mono HB2.out.size))
  clear hb3 hPc
  go_wp2_with fail
  refine (HDRO.out _ HB3.out).mono ?_
  rintro e4 w4 ⟨Ad, cd, rfl, hPd, hb4⟩
  have HPD := Lib.hid hPd
  have HPA4 := Lib.hid ((HPA3.out.below hb4 (Nat.le_refl _)).up hb4.size)
  have HPB4 := Lib.hid ((HPB3.out.below hb4 (Nat.le_refl _)).up hb4.size)
  have HPC4 := Lib.hid ((HPC.out.below hb4 (Nat.le_refl _)).up hb4.size)
  have HB4 := Lib.hid (HB3.out.trans (hb4.mono HB3.out.size))
  have HAB := Lib.hid (fun W (hW : Below w4.heap.size w4 W) => HLA.out Aa Ab ca cb W ((HPA4.out.below hW (Nat.le_refl _)).up hW.size) ((HPB4.out.below hW (Nat.le_refl _)).up hW.size))
  have HCD := Lib.hid (fun W (hW : Below w4.heap.size w4 W) => HLC.out Ac Ad cc cd W ((HPC4.out.below hW (Nat.le_refl _)).up hW.size) ((HPD.out.below hW (Nat.le_refl _)).up hW.size))
  clear hb4 hPd HPA HPA2 HPA3 HPA4 HPB HPB3 HPB4 HPC HPC4 HPD HLA HLC HPUT HPUO HDR HDRO
  go_wp2_with fail
  refine (HGE.out _ HB4.out).mono ?_
  rintro e5 w5 ⟨hg5, hb5⟩
  have HB5 := Lib.hid (HB4.out.trans (hb5.mono HB4.out.size))
  have HB45 := Lib.hid hb5
  clear hb5
  have hsz5 := HB5.out.size
  have hle45 := HB45.out.size
  rcases gv with _ | ⟨k', i', t', s', ly⟩
  · have hg5 : e5 = .returned (.tuple #[.agg #[.int .i64 0, .int .i64 0, .int .i64 0, .string ⟨#[]⟩, .slice none 0 0], .bool false]) := hg5
    subst hg5
    go_wp2_with fail
    refine (HGO.out _ (HB5.out.alloc hsz5 _)).mono ?_
    rintro e6 w6 ⟨hg6, hb6⟩
    have hg6 : e6 = .returned (.tuple #[.agg #[.int .i64 0, .int .i64 0, .int .i64 0, .string ⟨#[]⟩, .slice none 0 0], .bool false]) := hg6
    subst hg6
    have hx6 : w6.heap[w5.heap.size]? = some (.cells #[.int .i64 0, .int .i64 0, .int .i64 0, .string ⟨#[]⟩, .slice none 0 0] 24 (0, 0)) := (hb6.block _ (by simp)).trans (heap_alloc_new w5 _)
    have hs56 := hb6.size
    simp only [World.size_alloc] at hs56
    have HB56 := Lib.hid (((Below.refl _ w5).alloc (Nat.le_refl _) (.cells #[.int .i64 0, .int .i64 0, .int .i64 0, .string ⟨#[]⟩, .slice none 0 0] 24)).trans (hb6.mono (by simp)))
    have HB46 := Lib.hid (HB45.out.trans (HB56.out.mono hle45))
    have HX6 := Lib.hid hx6
    clear hb6 hx6
    have hle46 := HB46.out.size
    go_wp2_with fail
    refine (HAB.out _ (HB46.out.alloc hle46 _)).mono ?_
    rintro e7 w7 ⟨rfl, hb7⟩
    have hx7 := (hb7.block w5.heap.size (by simp; omega)).trans ((Below.heap_alloc _ _ _ (by omega)).trans HX6.out)
    have hy7 := (hb7.block w6.heap.size (by simp)).trans (heap_alloc_new w6 _)
    have hs67 := hb7.size
    simp only [World.size_alloc] at hs67
    have HB67 := Lib.hid (((Below.refl _ w6).alloc (Nat.le_refl _) (.cells #[.int .i64 0, .int .i64 0, .int .i64 0, .string ⟨#[]⟩, .slice none 0 0] 24)).trans (hb7.mono (by simp)))
    have HB47 := Lib.hid (HB46.out.trans (HB67.out.mono hle46))
    have HX7 := Lib.hid hx7
    have HY7 := Lib.hid hy7
    clear hb7 hx7 hy7
    go_wp2_with fail
    refine (HCD.out _ HB47.out).mono ?_
    rintro e8 w8 ⟨rfl, hb8⟩
    have hx8 := (hb8.block w5.heap.size (by omega)).trans HX7.out
    have hy8 := (hb8.block w6.heap.size (by omega)).trans HY7.out
    have hs78 := hb8.size
    have HB68 := Lib.hid (HB67.out.trans (hb8.mono (by omega)))
    have HB58 := Lib.hid (HB56.out.trans (HB68.out.mono (by omega)))
    have HB8 := Lib.hid (HB5.out.trans (HB58.out.mono hsz5))
    have x0 := cell_of_row w8 _ 0 _ _ (0, 0) hx8
    have x1 := cell_of_row w8 _ 1 _ _ (0, 0) hx8
    have x2 := cell_of_row w8 _ 2 _ _ (0, 0) hx8
    have x3 := cell_of_row w8 _ 3 _ _ (0, 0) hx8
    have x4 := cell_of_row w8 _ 4 _ _ (0, 0) hx8
    have y0 := cell_of_row w8 _ 0 _ _ (0, 0) hy8
    have y1 := cell_of_row w8 _ 1 _ _ (0, 0) hy8
    have y2 := cell_of_row w8 _ 2 _ _ (0, 0) hy8
    have y3 := cell_of_row w8 _ 3 _ _ (0, 0) hy8
    have y4 := cell_of_row w8 _ 4 _ _ (0, 0) hy8
    have hv0 := alikeV_any 0 0 0 ⟨#[]⟩ [] none none 0 0 w8 (by decide) ⟨none, 0, rfl, by simp, by simp, .inl rfl⟩ ⟨none, 0, rfl, by simp, by simp, .inl rfl⟩
    simp only [List.length_nil] at hv0
    have HV := Lib.hid hv0
    clear hv0
    clear hb8 hx8 hy8
    go_wp2_with fail
    refine HV.out.mono ?_
    rintro e9 w9 ⟨rfl, hb9⟩
    have HB9 := Lib.hid (HB8.out.trans (hb9.mono HB8.out.size))
    clear hb9
    go_wp2_with fail
    go_ret
    exact ⟨ret_boolA (by simp), HB9.out⟩
  · have hg5 : s'.size ≤ 1048576 ∧ ∃ A c, e5 = .returned (.tuple #[.agg #[.int .i64 k', .int .i64 i', .int .i64 t', .string s', .slice A ly.length c], .bool true]) ∧ SlAt w5 w5.heap.size ly (.slice A ly.length c) := hg5
    obtain ⟨hz5, A5, c5, rfl, hs5⟩ := hg5
    have HS5 := Lib.hid hs5
    obtain ⟨m5, hm5⟩ : ∃ m5, m5 = ly.length := ⟨_, rfl⟩
    have HM5 := Lib.hid hm5
    rw [← hm5]
    clear hs5 hm5
    go_wp2_with fail
    refine (HGO.out _ (HB5.out.alloc hsz5 _)).mono ?_
    rintro e6 w6 ⟨hg6, hb6⟩
    have hg6 : s'.size ≤ 1048576 ∧ ∃ A c, e6 = .returned (.tuple #[.agg #[.int .i64 k', .int .i64 i', .int .i64 t', .string s', .slice A ly.length c], .bool true]) ∧ SlAt w6 w6.heap.size ly (.slice A ly.length c) := hg6
    obtain ⟨_, A6, c6, rfl, hs6⟩ := hg6
    have HS6 := Lib.hid hs6
    rw [← HM5.out]
    clear hs6
    have hx6 : w6.heap[w5.heap.size]? = some (.cells #[.int .i64 k', .int .i64 i', .int .i64 t', .string s', .slice A5 m5 c5] 24 (0, 0)) := (hb6.block _ (by simp)).trans (heap_alloc_new w5 _)
    have hs56 := hb6.size
    simp only [World.size_alloc] at hs56
    have HB56 := Lib.hid (((Below.refl _ w5).alloc (Nat.le_refl _) (.cells #[.int .i64 k', .int .i64 i', .int .i64 t', .string s', .slice A5 m5 c5] 24)).trans (hb6.mono (by simp)))
    have HB46 := Lib.hid (HB45.out.trans (HB56.out.mono hle45))
    have HX6 := Lib.hid hx6
    clear hb6 hx6
    have hle46 := HB46.out.size
    go_wp2_with fail
    refine (HAB.out _ (HB46.out.alloc hle46 _)).mono ?_
    rintro e7 w7 ⟨rfl, hb7⟩
    have hx7 := (hb7.block w5.heap.size (by simp; omega)).trans ((Below.heap_alloc _ _ _ (by omega)).trans HX6.out)
    have hy7 := (hb7.block w6.heap.size (by simp)).trans (heap_alloc_new w6 _)
    have hs67 := hb7.size
    simp only [World.size_alloc] at hs67
    have HB67 := Lib.hid (((Below.refl _ w6).alloc (Nat.le_refl _) (.cells #[.int .i64 k', .int .i64 i', .int .i64 t', .string s', .slice A6 m5 c6] 24)).trans (hb7.mono (by simp)))
    have HB47 := Lib.hid (HB46.out.trans (HB67.out.mono hle46))
    have HX7 := Lib.hid hx7
    have HY7 := Lib.hid hy7
    clear hb7 hx7 hy7
    go_wp2_with fail
    refine (HCD.out _ HB47.out).mono ?_
    rintro e8 w8 ⟨rfl, hb8⟩
    have hx8 := (hb8.block w5.heap.size (by omega)).trans HX7.out
    have hy8 := (hb8.block w6.heap.size (by omega)).trans HY7.out
    have hs78 := hb8.size
    have HB68 := Lib.hid (HB67.out.trans (hb8.mono (by omega)))
    have HB58 := Lib.hid (HB56.out.trans (HB68.out.mono (by omega)))
    have HB8 := Lib.hid (HB5.out.trans (HB58.out.mono hsz5))
    have x0 := cell_of_row w8 _ 0 _ _ (0, 0) hx8
    have x1 := cell_of_row w8 _ 1 _ _ (0, 0) hx8
    have x2 := cell_of_row w8 _ 2 _ _ (0, 0) hx8
    have x3 := cell_of_row w8 _ 3 _ _ (0, 0) hx8
    have x4 := cell_of_row w8 _ 4 _ _ (0, 0) hx8
    have y0 := cell_of_row w8 _ 0 _ _ (0, 0) hy8
    have y1 := cell_of_row w8 _ 1 _ _ (0, 0) hy8
    have y2 := cell_of_row w8 _ 2 _ _ (0, 0) hy8
    have y3 := cell_of_row w8 _ 3 _ _ (0, 0) hy8
    have y4 := cell_of_row w8 _ 4 _ _ (0, 0) hy8
    have hv0 := alikeV_any k' i' t' s' ly A5 A6 c5 c6 w8 hz5 ((HS5.out.below HB58.out (Nat.le_refl _)).up HB58.out.size) ((HS6.out.below HB68.out (Nat.le_refl _)).up HB68.out.size)
    rw [← HM5.out] at hv0
    have HV := Lib.hid hv0
    clear hv0
    clear hb8 hx8 hy8
    go_wp2_with fail
    refine HV.out.mono ?_
    rintro e9 w9 ⟨rfl, hb9⟩
    have HB9 := Lib.hid (HB8.out.trans (hb9.mono HB8.out.size))
    clear hb9
    go_wp2_with fail
    go_ret
    exact ⟨ret_boolA (by simp), HB9.out⟩
end Go.Proofs.YtggnocajpnmemaaGreatDoor
