/- Names rise; a property of a greater name goes to the end. The reference's GetOf, its value's blocks those of the list. (Made by gen_mgx.py.) The reference's mergeValue, and where its value lies: the walk. (Made by gen_mgy.py.) -/
import Derived.Test.YtggnocajpnmemaaGreatDoorMeX
namespace Go.Proofs.YtggnocajpnmemaaGreatDoor
open Go.RowKit Go.Shelf Go.Sort

theorem bytes_le_trans (a b c : List UInt8) (h1 : a ≤ b) (h2 : b ≤ c) : a ≤ c := List.le_trans h1 h2
theorem bytes_le_total (a b : List UInt8) : a ≤ b ∨ b ≤ a := List.le_total a b
theorem sortS_rise (L : List (List UInt8)) : (sortS L).Pairwise (· ≤ ·) := by
  have h := List.pairwise_mergeSort (le := fun x y : List UInt8 => decide (x ≤ y)) (fun a b c h1 h2 => by simp only [decide_eq_true_eq] at *; exact bytes_le_trans a b c h1 h2) (fun a b => by simpa using bytes_le_total a b) L
  exact h.imp (fun h => by simpa using h)
theorem compact_rise {L : List (List UInt8)} (h : L.Pairwise (· ≤ ·)) : (Lib.compact L).Pairwise (· < ·) := by
  unfold Lib.compact Lib.compactUpTo
  rw [List.pairwise_map, List.pairwise_filter]
  refine (List.pairwise_lt_range (n := L.length)).imp_of_mem ?_
  intro i j hi hj hij _ hk
  have hi := List.mem_range.1 hi
  have hj := List.mem_range.1 hj
  have hg := List.pairwise_iff_getElem.1 h
  simp only [Lib.keeps, decide_eq_true_eq] at hk
  have hne := hk.resolve_left (by omega)
  rw [getElem!_pos L.toArray j (by simpa using hj), getElem!_pos L.toArray (j - 1) (by simp; omega)] at hne
  rw [getElem!_pos L.toArray j (by simpa using hj), getElem!_pos L.toArray i (by simpa using hi)]
  simp only [List.getElem_toArray] at hne ⊢
  have h1 : L[j - 1] ≤ L[j] := hg (j - 1) j (by omega) hj (by omega)
  have h2 : L[i] ≤ L[j - 1] := by
    by_cases e : i = j - 1
    · subst e; exact List.le_refl _
    · exact hg i (j - 1) hi (by omega) (by omega)
  rcases List.le_iff_lt_or_eq.1 (bytes_le_trans _ _ _ h2 h1) with h3 | h3
  · exact h3
  · exact absurd (List.le_antisymm (h3 ▸ h2) h1) hne
theorem names_rise (Ls : List (List PV)) : (namesS Ls).Pairwise (· < ·) := compact_rise (sortS_rise _)
/-- All names are less than q. -/
def Under (M : List PV) (q : ByteArray) : Prop := ∀ p ∈ M, p.nm.toList < q.toList
theorem wo_end {M : List PV} {q : ByteArray} (h : Under M q) : woL M q = M := by
  unfold woL
  rw [List.filter_eq_self]
  intro p hp
  have h1 := h p hp
  have h2 : (p.nm.toList == q.toList) = false := by
    rw [beq_eq_false_iff_ne]
    intro e
    rw [e] at h1
    exact absurd h1 (List.lt_irrefl _)
  rw [h2]; rfl
theorem ins_end (M : List PV) (x : PV) : insL M M.length x = M ++ [x] := by simp [insL]
theorem asc_end {M : List PV} {x : PV} (h : Asc M) (hu : Under M x.nm) : Asc (M ++ [x]) := by
  unfold Asc at h ⊢
  rw [List.pairwise_append]
  refine ⟨h, List.pairwise_singleton _ _, fun a ha b hb => ?_⟩
  simp only [List.mem_singleton] at hb
  subst hb
  exact hu a ha
theorem merged_under {lo la lb : List PV} {N : List (List UInt8)} (h : N.Pairwise (· < ·)) {j : Nat} (hj : j < N.length) : Under (mergedL lo la lb (N.take j)) ⟨N[j].toArray⟩ := by
  intro p hp
  unfold mergedL at hp
  obtain ⟨q, hq, hp⟩ := List.mem_flatMap.1 hp
  have hnm : p.nm = ⟨q.toArray⟩ := by
    unfold mgP at hp
    split at hp
    · simp at hp
    · simp only [List.mem_singleton] at hp
      rw [hp]
  obtain ⟨i, hi, rfl⟩ := List.mem_iff_getElem.1 hq
  rw [List.length_take] at hi
  rw [hnm, Lib.toList_data, Lib.toList_data]
  simp only [List.getElem_take]
  exact List.pairwise_iff_getElem.1 h i j (by omega) hj (by omega)
theorem merged_asc {lo la lb : List PV} {N : List (List UInt8)} (h : N.Pairwise (· < ·)) : ∀ j, j ≤ N.length → Asc (mergedL lo la lb (N.take j))
  | 0, _ => by simp [mergedL, Asc]
  | j + 1, hj => by
    have h1 := merged_asc (lo := lo) (la := la) (lb := lb) h j (by omega)
    rw [mergedL_snoc (by omega)]
    unfold mgP
    split
    · rw [List.append_nil]; exact h1
    · exact asc_end h1 (merged_under h (by omega))
end Go.Proofs.YtggnocajpnmemaaGreatDoor
namespace Go.Proofs.YtggnocajpnmemaaGreatDoor
open Go.RowKit Go.Shelf

set_option maxRecDepth 100000 in
set_option maxHeartbeats 4000000 in
theorem getOfB_any (B : Nat) (l : List PV) (q : ByteArray) (A : Option Addr) (c : Nat) (w : World) (hB : B ≤ w.heap.size) (hl : PSl w B l (.slice A l.length c)) :
    Calls Tryz.prog 23 #[.slice A l.length c, .string q] w fun e w' =>
      ((∃ (j : Nat) (hj : j < l.length) (g : Value), (l[j].nm.toList == q.toList) = true ∧ (∀ k (hk : k < l.length), k < j → (l[k].nm.toList == q.toList) = false) ∧ VAt w B l[j].val g ∧ e = .returned (.tuple #[g, .bool true])) ∨
        ((∀ k (hk : k < l.length), (l[k].nm.toList == q.toList) = false) ∧ e = .returned (.tuple #[.agg #[.int .i64 0, .int .i64 0, .int .i64 0, .string ⟨#[]⟩, .slice none 0 0], .bool false]))) ∧ Below w.heap.size w w' := by
  have hn : l.length ≤ 1048576 := by obtain ⟨_, _, e, h1, _⟩ := hl; exact h1
  have HSL := Lib.hid hl
  obtain ⟨n, hnn⟩ : ∃ n, n = l.length := ⟨_, rfl⟩
  rw [← hnn] at hn HSL
  rw [show (Value.slice A l.length c) = Value.slice A n c from by rw [hnn]]
  have HN := Lib.hid hnn
  clear hl hnn
  go_enter Tryz.func23, Tryz.ntmps23
  go_wp2_with fail
  go_loopw [10] (fun iv wx => ∃ j : Nat, iv = .int .i64 j ∧ j ≤ n ∧ Hid (GtRow l q w j wx)) (fun iv _ => n - (intOf iv).toNat)
  case atStart => exact ⟨0, rfl, Nat.zero_le _, Lib.hid ⟨(Below.refl _ _).alloc (Nat.le_refl _) _, heap_alloc_new w _, fun _ _ h => absurd h (by omega)⟩⟩
  case round =>
    obtain ⟨j, rfl, hjl, HR⟩ := hrel
    have r0 := cell_of_row wr w.heap.size 0 _ _ (0, 0) HR.out.blk
    have r1 := cell_of_row wr w.heap.size 1 _ _ (0, 0) HR.out.blk
    have r2 := cell_of_row wr w.heap.size 2 _ _ (0, 0) HR.out.blk
    have r3 := cell_of_row wr w.heap.size 3 _ _ (0, 0) HR.out.blk
    have r4 := cell_of_row wr w.heap.size 4 _ _ (0, 0) HR.out.blk
    have f0 := frozen_of_row wr w.heap.size 0 _ _ HR.out.blk
    have f1 := frozen_of_row wr w.heap.size 1 _ _ HR.out.blk
    have f2 := frozen_of_row wr w.heap.size 2 _ _ HR.out.blk
    have f3 := frozen_of_row wr w.heap.size 3 _ _ HR.out.blk
    have f4 := frozen_of_row wr w.heap.size 4 _ _ HR.out.blk
    by_cases hj : j < n
    · have hj2 : j < l.length := by rw [← HN.out]; exact hj
      have p2 : (j : Int) < n := by omega
      obtain ⟨b, off, nm, kx, ix, tx, sx, lx, Ax, cx, rfl, hx, hlt, gn, g0, g1, g2, g3, g4, hnz, gz, gl, gs, hpv⟩ := prop_itemB (by rw [← HN.out]; exact HSL.out) hj2
      replace hlt : b < w.heap.size := Nat.lt_of_lt_of_le hlt hB
      replace gn := (HR.out.bel.cell (p := ⟨b, off + j * 6, none⟩) hlt).trans gn
      replace g0 := (HR.out.bel.cell (p := ⟨b, off + j * 6 + 1, none⟩) hlt).trans g0
      replace g1 := (HR.out.bel.cell (p := ⟨b, off + j * 6 + 2, none⟩) hlt).trans g1
      replace g2 := (HR.out.bel.cell (p := ⟨b, off + j * 6 + 3, none⟩) hlt).trans g2
      replace g3 := (HR.out.bel.cell (p := ⟨b, off + j * 6 + 4, none⟩) hlt).trans g3
      replace g4 := (HR.out.bel.cell (p := ⟨b, off + j * 6 + 5, none⟩) hlt).trans g4
      have hnx : l[j].nm = nm := by rw [hx]
      have hvx : ∀ g, g = .agg #[.int .i64 kx, .int .i64 ix, .int .i64 tx, .string sx, .slice Ax lx.length cx] → VAt w B l[j].val g := by intro g hg; rw [hx]; exact ⟨gz, _, hg, gs⟩
      have HVX := Lib.hid hvx
      have HNX := Lib.hid hnx
      have hszw := HR.out.bel.size
      have hszl := lt_of_blk' HR.out.blk
      obtain ⟨m, hm⟩ : ∃ m, m = lx.length := ⟨_, rfl⟩
      rw [← hm] at g4 HVX
      clear gs hm hx hpv hvx hnx gl gz
      rcases he : (nm.toList == q.toList) with _ | _
      · have HNO : Hid (∀ k (hk : k < l.length), k < j + 1 → (l[k].nm.toList == q.toList) = false) := Lib.hid (by
          intro k hk hk2
          by_cases hkj : k < j
          · exact HR.out.no k hk hkj
          · obtain rfl : k = j := by omega
            rw [HNX.out]; exact he)
        clear r0 r1 r2 r3 r4 f0 f1 f2 f3 f4
        go_wp2_with fail
        go_roundw
        case rel => exact ⟨j + 1, by go_num, hj, Lib.hid ⟨HR.out.bel.alloc hszw _, ((Below.refl _ _).alloc (Nat.le_refl _) _).block _ hszl |>.trans HR.out.blk, HNO.out⟩⟩
        case measure => simp [intOf]; omega
      · go_wp2_with fail
        (try simp only [Exit.inBlock, Exit.then])
        refine bodyPost_ret (v := .tuple #[.agg #[.int .i64 kx, .int .i64 ix, .int .i64 tx, .string sx, .slice Ax m cx], .bool true]) ?_ rfl ?_
        · simp [results, Tryz.f23]
          go_simp
        · refine ⟨.inl ⟨j, hj2, _, by rw [HNX.out]; exact he, HR.out.no, HVX.out _ rfl, rfl⟩, ?_⟩
          exact (((((HR.out.bel.setCell (Nat.le_refl _) _).setCell (Nat.le_refl _) _).setCell (Nat.le_refl _) _).setCell (Nat.le_refl _) _).setCell (Nat.le_refl _) _).alloc (by simp; exact hszw) _
    · have p2 : ¬ (j : Int) < n := by omega
      go_wp2_with fail
      (try simp only [Exit.inBlock, Exit.then])
      refine bodyPost_ret (v := .tuple #[.agg #[.int .i64 0, .int .i64 0, .int .i64 0, .string ⟨#[]⟩, .slice none 0 0], .bool false]) ?_ rfl ?_
      · simp [results, Tryz.f23]
        go_simp
      · refine ⟨.inr ⟨fun k hk => by have h := HR.out.no k hk (by rw [← HN.out] at hk; omega); simpa using h, rfl⟩, ?_⟩
        exact (((((HR.out.bel.setCell (Nat.le_refl _) _).setCell (Nat.le_refl _) _).setCell (Nat.le_refl _) _).setCell (Nat.le_refl _) _).setCell (Nat.le_refl _) _)
end Go.Proofs.YtggnocajpnmemaaGreatDoor
namespace Go.Proofs.YtggnocajpnmemaaGreatDoor
open Go.RowKit Go.Shelf

set_option maxRecDepth 100000 in
set_option maxHeartbeats 32000000 in
theorem mergeValueRF_any (P : Nat → Prop) (o a b : V) (go ga gb : Value) (w : World) (ho : VAt w w.heap.size o go) (fa : VF w P a ga) (fb : VF w P b gb) (hP : ∀ k, P k → k < w.heap.size) (Ro : Right o) (Ra : Right a) (Rb : Right b) :
    Calls Tryz.prog 78 #[go, ga, gb] w (MergeF w P (mergeT o a b)) := by
  have ha := fa.at hP
  have hb := fb.at hP
  have HPH := Lib.hid hP
  have hLf := itemsM_leaf Ro Ra Rb
  have HC1 := Lib.hid (fun W (hW : Below w.heap.size w W) => compareR_any a o ga go W (ha.later hW) (ho.later hW))
  have HC2 := Lib.hid (fun W (hW : Below w.heap.size w W) => compareR_any b o gb go W (hb.later hW) (ho.later hW))
  have HC3 := Lib.hid (fun W (hW : Below w.heap.size w W) => compareR_any a b ga gb W (ha.later hW) (hb.later hW))
  have HE : Hid (mergeT o a b = if sameT a o = true then (b, true) else if (sameT b o || sameT a b) = true then (a, true)
    else if (listB o.kind && listB a.kind && listB b.kind) = true ∧ (itemsM o.kids a.kids b.kids).length ≤ 20 then (.mk 7 0 0 ⟨#[]⟩ (itemsM o.kids a.kids b.kids), true)
    else if a.kind = 0 then (b, false) else (a, false)) := Lib.hid rfl
  have S1 : Hid (sameT a o = decide (cmpT a o = 0)) := Lib.hid rfl
  have S2 : Hid (sameT b o = decide (cmpT b o = 0)) := Lib.hid rfl
  have S3 : Hid (sameT a b = decide (cmpT a b = 0)) := Lib.hid rfl
  have HA := Lib.hid fa
  have HB := Lib.hid fb
  generalize hmt : mergeT o a b = mt at HE ⊢
  generalize cmpT a o = r1 at HC1 S1
  generalize cmpT b o = r2 at HC2 S2
  generalize cmpT a b = r3 at HC3 S3
  obtain ⟨ko, io, to1, so, lo, Ao, co, rfl, rfl, hzo, hso⟩ := ho.hand
  obtain ⟨ka, ia, ta1, sa, la, Aa, ca, rfl, rfl, hza, hsa⟩ := ha.hand
  obtain ⟨kb, ib1, tb1, sb, lb, Ab, cb, rfl, rfl, hzb, hsb⟩ := hb.hand
  have LO : lo.length ≤ 20 := Ro.few
  have LA : la.length ≤ 20 := Ra.few
  have LB : lb.length ≤ 20 := Rb.few
  have FO := Lib.hid (hso.toF (F := fun q => q < w.heap.size) (fun _ h => h))
  have FA := Lib.hid (hsa.toF (F := fun q => q < w.heap.size) (fun _ h => h))
  have FB := Lib.hid (hsb.toF (F := fun q => q < w.heap.size) (fun _ h => h))
  have HE2 : Hid (mt = if sameT (.mk ka ia ta1 sa la) (.mk ko io to1 so lo) = true then ((.mk kb ib1 tb1 sb lb : V), true) else if (sameT (.mk kb ib1 tb1 sb lb) (.mk ko io to1 so lo) || sameT (.mk ka ia ta1 sa la) (.mk kb ib1 tb1 sb lb)) = true then (.mk ka ia ta1 sa la, true)
    else if (listB ko && listB ka && listB kb) = true ∧ (itemsM lo la lb).length ≤ 20 then (.mk 7 0 0 ⟨#[]⟩ (itemsM lo la lb), true)
    else if ka = 0 then (.mk kb ib1 tb1 sb lb, false) else (.mk ka ia ta1 sa la, false)) := HE
  rw [S1.out, S2.out, S3.out, ← itemsR_eq] at HE2
  have HIR : Hid (itemsR lo la lb = addL (addL (addL [] (fun x => hasT la x && hasT lb x) lo) (fun x => !hasT lo x) la) (fun x => !hasT lo x) lb) := Lib.hid rfl
  have HLF : Hid (∀ x ∈ itemsR lo la lb, nodesV x = 1) := Lib.hid (by rw [itemsR_eq]; exact hLf)
  generalize itemsR lo la lb = its at HE2 HIR HLF
  have ho' := Lib.hid (show lo.length = lo.length from rfl)
  obtain ⟨no, hno⟩ : ∃ no, no = lo.length := ⟨_, rfl⟩
  obtain ⟨na, hna⟩ : ∃ na, na = la.length := ⟨_, rfl⟩
  obtain ⟨nb, hnb⟩ : ∃ nb, nb = lb.length := ⟨_, rfl⟩
  have HNO := Lib.hid hno
  have HNA := Lib.hid hna
  have HNB := Lib.hid hnb
  rw [← hno] at HC1 HC2 LO ⊢
  rw [← hna] at HC1 HC3 HA LA ⊢
  rw [← hnb] at HC2 HC3 HB LB ⊢
  clear fa fb hP hLf ho ha hb Ro Ra Rb HE S1 S2 S3 hmt hso hsa hsb ho' hno hna hnb
  have HM0 := Lib.hid (mv_start w #[.int .i64 ko, .int .i64 io, .int .i64 to1, .string so, .slice Ao no co] #[.int .i64 ka, .int .i64 ia, .int .i64 ta1, .string sa, .slice Aa na ca] #[.int .i64 kb, .int .i64 ib1, .int .i64 tb1, .string sb, .slice Ab nb cb])
  go_enter Tryz.func78, Tryz.ntmps78
  go_wp2_with fail
  refine (HC1.out _ HM0.out.bel).mono ?_
  rintro e1 w1 ⟨rfl, hb1⟩
  have HM1 := Lib.hid (HM0.out.later hb1)
  clear hb1
  by_cases h1 : r1 = 0
  · subst h1
    obtain ⟨x0, x1, x2, x3, x4⟩ := five_cells HM1.out.b
    obtain ⟨z0, z1, z2, z3, z4⟩ := five_cells HM1.out.r
    obtain ⟨f0, f1, f2, f3, f4⟩ := five_frozen HM1.out.r
    go_wp2_with fail
    (try simp only [Exit.inBlock, Exit.then])
    refine bodyPost_ret (v := .tuple #[.agg #[.int .i64 kb, .int .i64 ib1, .int .i64 tb1, .string sb, .slice Ab nb cb], .bool true]) ?_ rfl ?_
    · simp [results, Tryz.f78]
      go_simp
    · have e : mt = (.mk kb ib1 tb1 sb lb, true) := by have := HE2.out; simpa using this
      rw [e]
      exact mergeF_done (by omega) HM1.out.bel (fun F g1 g2 => argF_later HB.out HPH.out HM1.out.bel (by omega) g1 g2)
  · have q1 : (r1 == 0) = false := by simp [h1]
    obtain ⟨x0, x1, x2, x3, x4⟩ := five_cells HM1.out.b
    obtain ⟨y0, y1, y2, y3, y4⟩ := five_cells HM1.out.o
    go_wp2_with fail
    refine (HC2.out _ HM1.out.bel).mono ?_
    rintro e2 w2 ⟨rfl, hb2⟩
    have HM2 := Lib.hid (HM1.out.later hb2)
    clear hb2 x0 x1 x2 x3 x4 y0 y1 y2 y3 y4
    by_cases h2 : r2 = 0
    · subst h2
      obtain ⟨x0, x1, x2, x3, x4⟩ := five_cells HM2.out.a
      obtain ⟨z0, z1, z2, z3, z4⟩ := five_cells HM2.out.r
      obtain ⟨f0, f1, f2, f3, f4⟩ := five_frozen HM2.out.r
      go_wp2_with fail
      (try simp only [Exit.inBlock, Exit.then])
      refine bodyPost_ret (v := .tuple #[.agg #[.int .i64 ka, .int .i64 ia, .int .i64 ta1, .string sa, .slice Aa na ca], .bool true]) ?_ rfl ?_
      · simp [results, Tryz.f78]
        go_simp
      · have e : mt = (.mk ka ia ta1 sa la, true) := by have := HE2.out; simpa [h1] using this
        rw [e]
        exact mergeF_done (by omega) HM2.out.bel (fun F g1 g2 => argF_later HA.out HPH.out HM2.out.bel (by omega) g1 g2)
    · have q2 : (r2 == 0) = false := by simp [h2]
      obtain ⟨x0, x1, x2, x3, x4⟩ := five_cells HM2.out.a
      obtain ⟨y0, y1, y2, y3, y4⟩ := five_cells HM2.out.b
      go_wp2_with fail
      refine (HC3.out _ HM2.out.bel).mono ?_
      rintro e3 w3 ⟨rfl, hb3⟩
      have HM3 := Lib.hid (HM2.out.later hb3)
      clear hb3 x0 x1 x2 x3 x4 y0 y1 y2 y3 y4
      by_cases h3 : r3 = 0
      · subst h3
        obtain ⟨x0, x1, x2, x3, x4⟩ := five_cells HM3.out.a
        obtain ⟨z0, z1, z2, z3, z4⟩ := five_cells HM3.out.r
        obtain ⟨f0, f1, f2, f3, f4⟩ := five_frozen HM3.out.r
        go_wp2_with fail
        (try simp only [Exit.inBlock, Exit.then])
        refine bodyPost_ret (v := .tuple #[.agg #[.int .i64 ka, .int .i64 ia, .int .i64 ta1, .string sa, .slice Aa na ca], .bool true]) ?_ rfl ?_
        · simp [results, Tryz.f78]
          go_simp
        · have e : mt = (.mk ka ia ta1 sa la, true) := by have := HE2.out; simpa [h1, h2] using this
          rw [e]
          exact mergeF_done (by omega) HM3.out.bel (fun F g1 g2 => argF_later HA.out HPH.out HM3.out.bel (by omega) g1 g2)
      · have q3 : (r3 == 0) = false := by simp [h3]
        obtain ⟨x0, x1, x2, x3, x4⟩ := five_cells HM3.out.o
        obtain ⟨y0, y1, y2, y3, y4⟩ := five_cells HM3.out.a
        obtain ⟨u0, u1, u2, u3, u4⟩ := five_cells HM3.out.b
        clear HC1 HC2 HC3
        obtain ⟨SB, hSB⟩ : ∃ SB, SB = w3.heap.size := ⟨_, rfl⟩
        go_wp2_with fail
        go_loopw [43, 8] (fun iv lv wx => ∃ j : Nat, iv = .int .i64 j ∧ lv = .bool (ls3 ko ka kb j) ∧ j ≤ 3 ∧ Hid (MvBox w w.heap.size #[.int .i64 ko, .int .i64 io, .int .i64 to1, .string so, .slice Ao no co] #[.int .i64 ka, .int .i64 ia, .int .i64 ta1, .string sa, .slice Aa na ca] #[.int .i64 kb, .int .i64 ib1, .int .i64 tb1, .string sb, .slice Ab nb cb] wx ∧ wx.heap[w3.heap.size]? = some (.cells #[.int .i64 ko, .int .i64 io, .int .i64 to1, .string so, .slice Ao no co, .int .i64 ka, .int .i64 ia, .int .i64 ta1, .string sa, .slice Aa na ca, .int .i64 kb, .int .i64 ib1, .int .i64 tb1, .string sb, .slice Ab nb cb] 24 (0, 0)))) (fun iv _ _ => 3 - (intOf iv).toNat)
        case atStart => exact ⟨0, rfl, rfl, by omega, Lib.hid ⟨HM3.out.later ((Below.refl _ w3).alloc (Nat.le_refl _) _), heap_alloc_new w3 _⟩⟩
        case round =>
          obtain ⟨j, rfl, rfl, hj3, HR⟩ := hrel
          have hSBw := lt_of_blk' HR.out.2
          by_cases hj : j < 3
          · have p2 : (j : Int) < 3 := by omega
            obtain ⟨kj, ij, tj, sj, Aj, nj, cj, x0, x1, x2, x3, x4, hls⟩ : ∃ kj ij tj sj Aj nj cj, wr.cell? ⟨w3.heap.size, j * 5, none⟩ = some (.int .i64 kj) ∧ wr.cell? ⟨w3.heap.size, j * 5 + 1, none⟩ = some (.int .i64 ij) ∧ wr.cell? ⟨w3.heap.size, j * 5 + 2, none⟩ = some (.int .i64 tj) ∧ wr.cell? ⟨w3.heap.size, j * 5 + 3, none⟩ = some (.string sj) ∧ wr.cell? ⟨w3.heap.size, j * 5 + 4, none⟩ = some (.slice Aj nj cj) ∧ ls3 ko ka kb (j + 1) = (ls3 ko ka kb j && listB kj) := by
              have hb := HR.out.2
              rcases (show j = 0 ∨ j = 1 ∨ j = 2 by omega) with rfl | rfl | rfl
              · exact ⟨ko, io, to1, so, Ao, no, co, cell_of_row wr _ 0 _ _ (0, 0) hb, cell_of_row wr _ 1 _ _ (0, 0) hb, cell_of_row wr _ 2 _ _ (0, 0) hb, cell_of_row wr _ 3 _ _ (0, 0) hb, cell_of_row wr _ 4 _ _ (0, 0) hb, by simp [ls3]⟩
              · exact ⟨ka, ia, ta1, sa, Aa, na, ca, cell_of_row wr _ 5 _ _ (0, 0) hb, cell_of_row wr _ 6 _ _ (0, 0) hb, cell_of_row wr _ 7 _ _ (0, 0) hb, cell_of_row wr _ 8 _ _ (0, 0) hb, cell_of_row wr _ 9 _ _ (0, 0) hb, by simp [ls3]⟩
              · exact ⟨kb, ib1, tb1, sb, Ab, nb, cb, cell_of_row wr _ 10 _ _ (0, 0) hb, cell_of_row wr _ 11 _ _ (0, 0) hb, cell_of_row wr _ 12 _ _ (0, 0) hb, cell_of_row wr _ 13 _ _ (0, 0) hb, cell_of_row wr _ 14 _ _ (0, 0) hb, by simp [ls3]⟩
            have HLS := Lib.hid hls
            have HNX : Hid (∀ o, MvBox w w.heap.size #[.int .i64 ko, .int .i64 io, .int .i64 to1, .string so, .slice Ao no co] #[.int .i64 ka, .int .i64 ia, .int .i64 ta1, .string sa, .slice Aa na ca] #[.int .i64 kb, .int .i64 ib1, .int .i64 tb1, .string sb, .slice Ab nb cb] (wr.alloc o) ∧ (wr.alloc o).heap[w3.heap.size]? = some (.cells #[.int .i64 ko, .int .i64 io, .int .i64 to1, .string so, .slice Ao no co, .int .i64 ka, .int .i64 ia, .int .i64 ta1, .string sa, .slice Aa na ca, .int .i64 kb, .int .i64 ib1, .int .i64 tb1, .string sb, .slice Ab nb cb] 24 (0, 0))) := Lib.hid (fun o => ⟨HR.out.1.later ((Below.refl _ wr).alloc (Nat.le_refl _) _), (Below.heap_alloc _ _ _ hSBw).trans HR.out.2⟩)
            clear hls HR
            rcases hl : ls3 ko ka kb j with _ | _
            · go_wp2_with fail
              go_roundw
              case rel => exact ⟨j + 1, by go_num, by rw [HLS.out, hl]; rfl, by omega, Lib.hid (HNX.out _)⟩
              case measure => simp [intOf]; omega
            · by_cases hk7 : kj = 7
              · subst hk7
                go_wp2_with fail
                go_roundw
                case rel => exact ⟨j + 1, by go_num, by rw [HLS.out, hl]; rfl, by omega, Lib.hid (HNX.out _)⟩
                case measure => simp [intOf]; omega
              · by_cases hk0 : kj = 0
                · subst hk0
                  go_wp2_with fail
                  go_roundw
                  case rel => exact ⟨j + 1, by go_num, by rw [HLS.out, hl]; rfl, by omega, Lib.hid (HNX.out _)⟩
                  case measure => simp [intOf]; omega
                · have e7 : (kj == 7) = false := by simp [hk7]
                  have e0 : (kj == 0) = false := by simp [hk0]
                  go_wp2_with fail
                  go_roundw
                  case rel => exact ⟨j + 1, by go_num, by rw [HLS.out, hl]; simp [listB, hk7, hk0], by omega, Lib.hid (HNX.out _)⟩
                  case measure => simp [intOf]; omega
          · obtain rfl : j = 3 := by omega
            have HM4 := Lib.hid HR.out.1
            clear HR
            rcases hl : ls3 ko ka kb 3 with _ | _
            · have hl' : (listB ko && listB ka && listB kb) = false := hl
              by_cases hk0 : ka = 0
              · subst hk0
                obtain ⟨y0, y1, y2, y3, y4⟩ := five_cells HM4.out.a
                obtain ⟨x0, x1, x2, x3, x4⟩ := five_cells HM4.out.b
                obtain ⟨z0, z1, z2, z3, z4⟩ := five_cells HM4.out.r
                obtain ⟨f0, f1, f2, f3, f4⟩ := five_frozen HM4.out.r
                go_wp2_with fail
                (try simp only [Exit.inBlock, Exit.then])
                refine bodyPost_ret (v := .tuple #[.agg #[.int .i64 kb, .int .i64 ib1, .int .i64 tb1, .string sb, .slice Ab nb cb], .bool false]) ?_ rfl ?_
                · simp [results, Tryz.f78]
                  go_simp
                · have e : mt = (.mk kb ib1 tb1 sb lb, false) := by have := HE2.out; simpa [h1, h2, h3, hl'] using this
                  rw [e]
                  exact mergeF_done (by omega) HM4.out.bel (fun F g1 g2 => argF_later HB.out HPH.out HM4.out.bel (by omega) g1 g2)
              · obtain ⟨y0, y1, y2, y3, y4⟩ := five_cells HM4.out.a
                obtain ⟨x0, x1, x2, x3, x4⟩ := five_cells HM4.out.a
                obtain ⟨z0, z1, z2, z3, z4⟩ := five_cells HM4.out.r
                obtain ⟨f0, f1, f2, f3, f4⟩ := five_frozen HM4.out.r
                go_wp2_with fail
                (try simp only [Exit.inBlock, Exit.then])
                refine bodyPost_ret (v := .tuple #[.agg #[.int .i64 ka, .int .i64 ia, .int .i64 ta1, .string sa, .slice Aa na ca], .bool false]) ?_ rfl ?_
                · simp [results, Tryz.f78]
                  go_simp
                · have e : mt = (.mk ka ia ta1 sa la, false) := by have := HE2.out; simpa [h1, h2, h3, hl', hk0] using this
                  rw [e]
                  exact mergeF_done (by omega) HM4.out.bel (fun F g1 g2 => argF_later HA.out HPH.out HM4.out.bel (by omega) g1 g2)
            · have hl' : (listB ko && listB ka && listB kb) = true := hl
              have hstf : ∀ (W : World) (q : Addr) (m : Mode), (store q (.func (Fn.func 135) #[] #[]) m).run Tryz.prog W = stored Tryz.prog W q (.func (Fn.func 135) #[] #[]) m := fun W q m => run_store Tryz.prog W q _ m rfl
              have lo4 := lt_of_blk' HM4.out.o
              have no4 : w.heap.size ≠ wr.heap.size := by omega
              have no5 : wr.heap.size ≠ w.heap.size := by omega
              obtain ⟨x0, x1, x2, x3, x4⟩ := five_cells HM4.out.o
              go_wp2_with fail
              obtain ⟨hx, hhx⟩ : ∃ hx, hx = wr.heap.size := ⟨_, rfl⟩
              obtain ⟨W0, hW0⟩ : ∃ W0, W0 = (wr.alloc (.cells #[.func (Fn.func 135) #[] #[]] 212)).alloc (.cells #[.int .i64 7, .int .i64 0, .int .i64 0, .string ⟨#[]⟩, .slice none 0 0] 24) := ⟨_, rfl⟩
              have hs0 : W0.heap.size = wr.heap.size + 2 := by rw [hW0]; simp
              have hBm := HM4.out.bel.size
              have hr4 := lt_of_blk' HM4.out.r
              have hh0 : W0.heap[wr.heap.size]? = some (.cells #[.func (Fn.func 135) #[] #[]] 212 (0, 0)) := by
                rw [hW0, Below.heap_alloc _ _ _ (by simp)]
                exact heap_alloc_new wr _
              have ho0 : W0.heap[wr.heap.size + 1]? = some (.cells #[.int .i64 7, .int .i64 0, .int .i64 0, .string ⟨#[]⟩, .slice none 0 0] 24 (0, 0)) := by
                rw [hW0]
                have := heap_alloc_new (wr.alloc (.cells #[.func (Fn.func 135) #[] #[]] 212)) (.cells #[.int .i64 7, .int .i64 0, .int .i64 0, .string ⟨#[]⟩, .slice none 0 0] 24)
                simpa using this
              have hbw0 : Below wr.heap.size wr W0 := by rw [hW0]; exact ((Below.refl _ wr).alloc (Nat.le_refl _) _).alloc (by simp) _
              have HMW := Lib.hid (HM4.out.later hbw0)
              have HS0 : Hid (ItemSt W0 (wr.heap.size + 1) (wr.heap.size + 2) w.heap.size 24 preO [] [] W0) := Lib.hid ⟨rfl, rfl, rfl, by omega, by omega, fun _ _ _ => rfl, fun _ => False, [], none, 0, ho0, World.ownsRow_nil _ _ _ _, rfl, fun _ h => h.elim, fun _ h => by simp [Value.ownBlock] at h⟩
              have HHB := Lib.hid hh0
              have GO := Lib.hid (FO.out.keep (w' := W0) (fun q hq => HMW.out.bel.block q hq) (fun _ h => h))
              have GA := Lib.hid (FA.out.keep (w' := W0) (fun q hq => HMW.out.bel.block q hq) (fun _ h => h))
              have GB := Lib.hid (FB.out.keep (w' := W0) (fun q hq => HMW.out.bel.block q hq) (fun _ h => h))
              rw [← hW0]
              rw [← hhx] at HS0 HHB hs0 hr4 hBm ⊢
              have en135 : ∀ (ys : Array Value) (W : World), (callFunc 135 ys).run Tryz.prog W = .ok (.enter 135 ys) W := enters_of Tryz.func135 (by kernel_rfl) rfl
              have en138 : ∀ (ys : Array Value) (W : World), (callFunc 138 ys).run Tryz.prog W = .ok (.enter 138 ys) W := enters_of Tryz.func138 (by kernel_rfl) rfl
              have hL0 : ([] : List V).length ≤ 20 := by simp
              clear hh0 ho0 hbw0 hW0 HM4 hhx FO FA FB hl x0 x1 x2 x3 x4 lo4 no4 no5 hstf
              go_loopw [65] (fun iv wx => ∃ j : Nat, iv = .int .i64 j ∧ j ≤ no ∧ Hid (ItemSt W0 (hx + 1) (hx + 2) w.heap.size 24 preO [] (addL [] (fun x => hasT la x && hasT lb x) (lo.take j)) wx)) (fun iv _ => no - (intOf iv).toNat)
              case atStart => exact ⟨0, rfl, Nat.zero_le _, Lib.hid (by simpa [addL] using HS0.out)⟩
              case round =>
                obtain ⟨j, rfl, hjl, HR⟩ := hrel
                by_cases hj : j < no
                · have hj2 : j < lo.length := by rw [← HNO.out]; exact hj
                  have p2 : (j : Int) < no := by omega
                  have hszb := HR.out.size
                  obtain ⟨b, off, kx, ix, tx, sx, lx, Ax, cx, rfl, hx2, hlt, g0, g1, g2, g3, g4, gz, gsF⟩ := src_item HR.out (by omega) (by omega) GO.out hj2
                  have HMr := Lib.hid (mv_of_st HMW.out HR.out (by omega) (by omega))
                  have hfb := (HR.out.block hx (by omega) (by omega)).trans HHB.out
                  have HX2 := Lib.hid hx2
                  have HSF := Lib.hid gsF
                  have hAD := addL_take hj2 [] (fun x => hasT la x && hasT lb x)
                  have HLEN := addL_len (fun x => hasT la x && hasT lb x) (lo.take j) []
                  rw [List.length_take] at HLEN
                  have hb0 : ∀ o, Below wr.heap.size wr (wr.alloc o) := fun o => (Below.refl _ wr).alloc (Nat.le_refl _) o
                  have hvx : VAt wr wr.heap.size (.mk kx ix tx sx lx) (.agg #[.int .i64 kx, .int .i64 ix, .int .i64 tx, .string sx, .slice Ax lx.length cx]) := ⟨gz, _, rfl, gsF.toAt (fun q hq => by omega)⟩
                  have HTA := Lib.hid (fun (W : World) (hW : Below wr.heap.size wr W) => hasR_any la Aa ca (.mk kx ix tx sx lx) _ W (((HR.out.src (by omega) (by omega) GA.out).below hW (Nat.le_refl _)).up hW.size) (hvx.later hW))
                  have HTB := Lib.hid (fun (W : World) (hW : Below wr.heap.size wr W) => hasR_any lb Ab cb (.mk kx ix tx sx lx) _ W (((HR.out.src (by omega) (by omega) GB.out).below hW (Nat.le_refl _)).up hW.size) (hvx.later hW))
                  have HADD := Lib.hid (fun (W : World) (hS : ItemSt W0 (hx + 1) (hx + 2) w.heap.size 24 preO [] (addL [] (fun x => hasT la x && hasT lb x) (lo.take j)) W) (hF : SlF W (fun q => q < w.heap.size) lx (.slice Ax lx.length cx)) => addR_any (.mk kx ix tx sx lx) _ hx (hx + 1) (hx + 2) w.heap.size _ W0 W hS (by omega) (by omega) (by omega) (by omega) HHB.out kx ix tx sx lx Ax cx rfl rfl gz hF (by omega))
                  rw [hx2] at hAD
                  obtain ⟨mx, hmx⟩ : ∃ mx, mx = lx.length := ⟨_, rfl⟩
                  rw [← hmx] at g4 HTA HTB HADD HSF
                  rw [← HNA.out] at HTA; rw [← HNB.out] at HTB; have hq0 : True := trivial
                  have HR2 := Lib.hid HR.out
                  have HAD := Lib.hid hAD
                  have lfb := lt_of_blk' hfb
                  have fx0 := cell_of_row wr hx 0 _ _ (0, 0) hfb
                  have lba := lt_of_blk' HMr.out.a
                  obtain ⟨y0, y1, y2, y3, y4⟩ := five_cells HMr.out.a
                  clear HR hvx gsF hmx hx2 hAD
                  rcases qa : hasT la (.mk kx ix tx sx lx) with _ | _
                  · rw [qa] at HTA
                    go_wp2_with fail
                    refine (HTA.out _ (hb0 _)).mono ?_
                    rintro e6 w6 ⟨rfl, hb6⟩
                    have HBX6 := Lib.hid ((hb6.block wr.heap.size (by simp)).trans (heap_alloc_new wr _))
                    have HB6 := Lib.hid ((hb0 (.cells #[.int .i64 kx, .int .i64 ix, .int .i64 tx, .string sx, .slice Ax mx cx] 24)).trans (hb6.mono (by simp)))
                    clear hb6
                    have HNX : Hid (ItemSt W0 (hx + 1) (hx + 2) w.heap.size 24 preO [] (addL [] (fun x => hasT la x && hasT lb x) (lo.take (j + 1))) w6) := Lib.hid (by rw [HAD.out]; simp only [qa, Bool.false_and, Bool.false_eq_true, if_false]; exact HR2.out.later HB6.out)
                    go_wp2_with fail
                    go_roundw
                    case rel => exact ⟨_, _, _, _, _, _, _, _, _, _, _, _, _, _, _, _, _, _, _, _, _, ⟨j + 1, by go_num, hj, HNX⟩, rfl⟩
                    case measure => simp [intOf]; omega
                  · rw [qa] at HTA
                    go_wp2_with fail
                    refine (HTA.out _ (hb0 _)).mono ?_
                    rintro e6 w6 ⟨rfl, hb6⟩
                    have HBX6 := Lib.hid ((hb6.block wr.heap.size (by simp)).trans (heap_alloc_new wr _))
                    have HB6 := Lib.hid ((hb0 (.cells #[.int .i64 kx, .int .i64 ix, .int .i64 tx, .string sx, .slice Ax mx cx] 24)).trans (hb6.mono (by simp)))
                    clear hb6
                    have lb2 := lt_of_blk' HMr.out.b
                    obtain ⟨u0, u1, u2, u3, u4⟩ := five_cells ((HB6.out.block _ lb2).trans HMr.out.b)
                    obtain ⟨x0, x1, x2, x3, x4⟩ := five_cells HBX6.out
                    have fx6 := cell_of_row w6 hx 0 _ _ (0, 0) ((HB6.out.block _ lfb).trans hfb)
                    rcases qb : hasT lb (.mk kx ix tx sx lx) with _ | _
                    · rw [qb] at HTB
                      go_wp2_with fail
                      refine (HTB.out w6 HB6.out).mono ?_
                      rintro e7 w7 ⟨rfl, hb7⟩
                      have HB7 := Lib.hid (HB6.out.trans (hb7.mono HB6.out.size))
                      clear hb7
                      have HNX : Hid (ItemSt W0 (hx + 1) (hx + 2) w.heap.size 24 preO [] (addL [] (fun x => hasT la x && hasT lb x) (lo.take (j + 1))) w7) := Lib.hid (by rw [HAD.out]; simp only [qa, qb, Bool.and_false, Bool.false_and, Bool.false_eq_true, if_false]; exact HR2.out.later HB7.out)
                      go_wp2_with fail
                      go_roundw
                      case rel => exact ⟨_, _, _, _, _, _, _, _, _, _, _, _, _, _, _, _, _, _, _, _, _, ⟨j + 1, by go_num, hj, HNX⟩, rfl⟩
                      case measure => simp [intOf]; omega
                    · rw [qb] at HTB
                      go_wp2_with fail
                      refine (HTB.out w6 HB6.out).mono ?_
                      rintro e7 w7 ⟨rfl, hb7⟩
                      have HBX7 := Lib.hid ((hb7.block _ (lt_of_blk' HBX6.out)).trans HBX6.out)
                      have HB7 := Lib.hid (HB6.out.trans (hb7.mono HB6.out.size))
                      clear hb7 x0 x1 x2 x3 x4
                      have HF7 := Lib.hid (HSF.out.keep (w' := w7) (fun q hq => HB7.out.block q (by omega)) (fun _ h => h))
                      have HS7 := Lib.hid (HR2.out.later HB7.out)
                      obtain ⟨x0, x1, x2, x3, x4⟩ := five_cells HBX7.out
                      go_wp2_with fail
                      refine (HADD.out w7 HS7.out HF7.out).mono ?_
                      rintro e9 w9 ⟨rfl, hS9⟩
                      have HNX : Hid (ItemSt W0 (hx + 1) (hx + 2) w.heap.size 24 preO [] (addL [] (fun x => hasT la x && hasT lb x) (lo.take (j + 1))) w9) := Lib.hid (by rw [HAD.out]; simpa only [qa, qb, Bool.true_and, Bool.not_false, Bool.and_self] using hS9)
                      clear hS9
                      go_wp2_with fail
                      go_roundw
                      case rel => exact ⟨_, _, _, _, _, _, _, _, _, _, _, _, _, _, _, _, _, _, _, _, _, ⟨j + 1, by go_num, hj, HNX⟩, rfl⟩
                      case measure => simp [intOf]; omega
                · obtain rfl : no = j := by omega
                  have p2 : ¬ (no : Int) < no := by omega
                  have HS1 : Hid (ItemSt W0 (hx + 1) (hx + 2) w.heap.size 24 preO [] (addL [] (fun x => hasT la x && hasT lb x) lo) wr) := Lib.hid (by have := HR.out; rwa [HNO.out, List.take_length] at this)
                  have hszb := HR.out.size
                  have HM5 := Lib.hid (mv_of_st HMW.out HR.out (by omega) (by omega))
                  have hL1 : (addL [] (fun x => hasT la x && hasT lb x) lo).length ≤ 20 + 20 * 1 := by have := addL_len (fun x => hasT la x && hasT lb x) lo []; have := HNO.out; omega
                  generalize hLL1 : addL [] (fun x => hasT la x && hasT lb x) lo = L1 at HS1 hL1
                  have HLE1 := Lib.hid hLL1
                  clear HR hLL1 hL0
                  obtain ⟨x0, x1, x2, x3, x4⟩ := five_cells HM5.out.a
                  go_wp2_with fail
                  go_loopw [88] (fun iv wx => ∃ j : Nat, iv = .int .i64 j ∧ j ≤ na ∧ Hid (ItemSt W0 (hx + 1) (hx + 2) w.heap.size 24 preO [] (addL L1 (fun x => !hasT lo x) (la.take j)) wx)) (fun iv _ => na - (intOf iv).toNat)
                  case atStart => exact ⟨0, rfl, Nat.zero_le _, Lib.hid (by simpa [addL] using HS1.out)⟩
                  case round =>
                    obtain ⟨j, rfl, hjl, HR⟩ := hrel
                    by_cases hj : j < na
                    · have hj2 : j < la.length := by rw [← HNA.out]; exact hj
                      have p2 : (j : Int) < na := by omega
                      have hszb := HR.out.size
                      obtain ⟨b, off, kx, ix, tx, sx, lx, Ax, cx, rfl, hx2, hlt, g0, g1, g2, g3, g4, gz, gsF⟩ := src_item HR.out (by omega) (by omega) GA.out hj2
                      have HMr := Lib.hid (mv_of_st HMW.out HR.out (by omega) (by omega))
                      have hfb := (HR.out.block hx (by omega) (by omega)).trans HHB.out
                      have HX2 := Lib.hid hx2
                      have HSF := Lib.hid gsF
                      have hAD := addL_take hj2 L1 (fun x => !hasT lo x)
                      have HLEN := addL_len (fun x => !hasT lo x) (la.take j) L1
                      rw [List.length_take] at HLEN
                      have hb0 : ∀ o, Below wr.heap.size wr (wr.alloc o) := fun o => (Below.refl _ wr).alloc (Nat.le_refl _) o
                      have hvx : VAt wr wr.heap.size (.mk kx ix tx sx lx) (.agg #[.int .i64 kx, .int .i64 ix, .int .i64 tx, .string sx, .slice Ax lx.length cx]) := ⟨gz, _, rfl, gsF.toAt (fun q hq => by omega)⟩
                      have HTO := Lib.hid (fun (W : World) (hW : Below wr.heap.size wr W) => hasR_any lo Ao co (.mk kx ix tx sx lx) _ W (((HR.out.src (by omega) (by omega) GO.out).below hW (Nat.le_refl _)).up hW.size) (hvx.later hW))
                      have HADD := Lib.hid (fun (W : World) (hS : ItemSt W0 (hx + 1) (hx + 2) w.heap.size 24 preO [] (addL L1 (fun x => !hasT lo x) (la.take j)) W) (hF : SlF W (fun q => q < w.heap.size) lx (.slice Ax lx.length cx)) => addR_any (.mk kx ix tx sx lx) _ hx (hx + 1) (hx + 2) w.heap.size _ W0 W hS (by omega) (by omega) (by omega) (by omega) HHB.out kx ix tx sx lx Ax cx rfl rfl gz hF (by omega))
                      rw [hx2] at hAD
                      obtain ⟨mx, hmx⟩ : ∃ mx, mx = lx.length := ⟨_, rfl⟩
                      rw [← hmx] at g4 HTO HADD HSF
                      rw [← HNO.out] at HTO; have hq0 : True := trivial
                      have HR2 := Lib.hid HR.out
                      have HAD := Lib.hid hAD
                      have lfb := lt_of_blk' hfb
                      have fx0 := cell_of_row wr hx 0 _ _ (0, 0) hfb
                      have lba := lt_of_blk' HMr.out.o
                      obtain ⟨y0, y1, y2, y3, y4⟩ := five_cells HMr.out.o
                      clear HR hvx gsF hmx hx2 hAD
                      rcases qo : hasT lo (.mk kx ix tx sx lx) with _ | _
                      · rw [qo] at HTO
                        go_wp2_with fail
                        refine (HTO.out _ (hb0 _)).mono ?_
                        rintro e6 w6 ⟨rfl, hb6⟩
                        have HBX6 := Lib.hid ((hb6.block wr.heap.size (by simp)).trans (heap_alloc_new wr _))
                        have HB6 := Lib.hid ((hb0 (.cells #[.int .i64 kx, .int .i64 ix, .int .i64 tx, .string sx, .slice Ax mx cx] 24)).trans (hb6.mono (by simp)))
                        clear hb6
                        have HF6 := Lib.hid (HSF.out.keep (w' := w6) (fun q hq => HB6.out.block q (by omega)) (fun _ h => h))
                        have HS6 := Lib.hid (HR2.out.later HB6.out)
                        obtain ⟨x0, x1, x2, x3, x4⟩ := five_cells HBX6.out
                        go_wp2_with fail
                        refine (HADD.out w6 HS6.out HF6.out).mono ?_
                        rintro e9 w9 ⟨rfl, hS9⟩
                        have HNX : Hid (ItemSt W0 (hx + 1) (hx + 2) w.heap.size 24 preO [] (addL L1 (fun x => !hasT lo x) (la.take (j + 1))) w9) := Lib.hid (by rw [HAD.out]; simpa only [qo, Bool.true_and, Bool.not_false, Bool.and_self] using hS9)
                        clear hS9
                        go_wp2_with fail
                        go_roundw
                        case rel => exact ⟨j + 1, by go_num, hj, HNX⟩
                        case measure => simp [intOf]; omega
                      · rw [qo] at HTO
                        go_wp2_with fail
                        refine (HTO.out _ (hb0 _)).mono ?_
                        rintro e6 w6 ⟨rfl, hb6⟩
                        have HBX6 := Lib.hid ((hb6.block wr.heap.size (by simp)).trans (heap_alloc_new wr _))
                        have HB6 := Lib.hid ((hb0 (.cells #[.int .i64 kx, .int .i64 ix, .int .i64 tx, .string sx, .slice Ax mx cx] 24)).trans (hb6.mono (by simp)))
                        clear hb6
                        have HNX : Hid (ItemSt W0 (hx + 1) (hx + 2) w.heap.size 24 preO [] (addL L1 (fun x => !hasT lo x) (la.take (j + 1))) w6) := Lib.hid (by rw [HAD.out]; simp only [qo, Bool.not_true, Bool.false_and, Bool.false_eq_true, if_false]; exact HR2.out.later HB6.out)
                        go_wp2_with fail
                        go_roundw
                        case rel => exact ⟨j + 1, by go_num, hj, HNX⟩
                        case measure => simp [intOf]; omega
                    · obtain rfl : na = j := by omega
                      have p2 : ¬ (na : Int) < na := by omega
                      have HS2 : Hid (ItemSt W0 (hx + 1) (hx + 2) w.heap.size 24 preO [] (addL L1 (fun x => !hasT lo x) la) wr) := Lib.hid (by have := HR.out; rwa [HNA.out, List.take_length] at this)
                      have hszb := HR.out.size
                      have HM6 := Lib.hid (mv_of_st HMW.out HR.out (by omega) (by omega))
                      have hL2 : (addL L1 (fun x => !hasT lo x) la).length ≤ 20 + 20 * 2 := by have := addL_len (fun x => !hasT lo x) la L1; have := HNA.out; omega
                      generalize hLL2 : addL L1 (fun x => !hasT lo x) la = L2 at HS2 hL2
                      have HLE2 := Lib.hid hLL2
                      clear HR hLL2 hL1
                      obtain ⟨x0, x1, x2, x3, x4⟩ := five_cells HM6.out.b
                      go_wp2_with fail
                      go_loopw [105] (fun iv wx => ∃ j : Nat, iv = .int .i64 j ∧ j ≤ nb ∧ Hid (ItemSt W0 (hx + 1) (hx + 2) w.heap.size 24 preO [] (addL L2 (fun x => !hasT lo x) (lb.take j)) wx)) (fun iv _ => nb - (intOf iv).toNat)
                      case atStart => exact ⟨0, rfl, Nat.zero_le _, Lib.hid (by simpa [addL] using HS2.out)⟩
                      case round =>
                        obtain ⟨j, rfl, hjl, HR⟩ := hrel
                        by_cases hj : j < nb
                        · have hj2 : j < lb.length := by rw [← HNB.out]; exact hj
                          have p2 : (j : Int) < nb := by omega
                          have hszb := HR.out.size
                          obtain ⟨b, off, kx, ix, tx, sx, lx, Ax, cx, rfl, hx2, hlt, g0, g1, g2, g3, g4, gz, gsF⟩ := src_item HR.out (by omega) (by omega) GB.out hj2
                          have HMr := Lib.hid (mv_of_st HMW.out HR.out (by omega) (by omega))
                          have hfb := (HR.out.block hx (by omega) (by omega)).trans HHB.out
                          have HX2 := Lib.hid hx2
                          have HSF := Lib.hid gsF
                          have hAD := addL_take hj2 L2 (fun x => !hasT lo x)
                          have HLEN := addL_len (fun x => !hasT lo x) (lb.take j) L2
                          rw [List.length_take] at HLEN
                          have hb0 : ∀ o, Below wr.heap.size wr (wr.alloc o) := fun o => (Below.refl _ wr).alloc (Nat.le_refl _) o
                          have hvx : VAt wr wr.heap.size (.mk kx ix tx sx lx) (.agg #[.int .i64 kx, .int .i64 ix, .int .i64 tx, .string sx, .slice Ax lx.length cx]) := ⟨gz, _, rfl, gsF.toAt (fun q hq => by omega)⟩
                          have HTO := Lib.hid (fun (W : World) (hW : Below wr.heap.size wr W) => hasR_any lo Ao co (.mk kx ix tx sx lx) _ W (((HR.out.src (by omega) (by omega) GO.out).below hW (Nat.le_refl _)).up hW.size) (hvx.later hW))
                          have HADD := Lib.hid (fun (W : World) (hS : ItemSt W0 (hx + 1) (hx + 2) w.heap.size 24 preO [] (addL L2 (fun x => !hasT lo x) (lb.take j)) W) (hF : SlF W (fun q => q < w.heap.size) lx (.slice Ax lx.length cx)) => addR_any (.mk kx ix tx sx lx) _ hx (hx + 1) (hx + 2) w.heap.size _ W0 W hS (by omega) (by omega) (by omega) (by omega) HHB.out kx ix tx sx lx Ax cx rfl rfl gz hF (by omega))
                          rw [hx2] at hAD
                          obtain ⟨mx, hmx⟩ : ∃ mx, mx = lx.length := ⟨_, rfl⟩
                          rw [← hmx] at g4 HTO HADD HSF
                          rw [← HNO.out] at HTO; have hq0 : True := trivial
                          have HR2 := Lib.hid HR.out
                          have HAD := Lib.hid hAD
                          have lfb := lt_of_blk' hfb
                          have fx0 := cell_of_row wr hx 0 _ _ (0, 0) hfb
                          have lba := lt_of_blk' HMr.out.o
                          obtain ⟨y0, y1, y2, y3, y4⟩ := five_cells HMr.out.o
                          clear HR hvx gsF hmx hx2 hAD
                          rcases qo : hasT lo (.mk kx ix tx sx lx) with _ | _
                          · rw [qo] at HTO
                            go_wp2_with fail
                            refine (HTO.out _ (hb0 _)).mono ?_
                            rintro e6 w6 ⟨rfl, hb6⟩
                            have HBX6 := Lib.hid ((hb6.block wr.heap.size (by simp)).trans (heap_alloc_new wr _))
                            have HB6 := Lib.hid ((hb0 (.cells #[.int .i64 kx, .int .i64 ix, .int .i64 tx, .string sx, .slice Ax mx cx] 24)).trans (hb6.mono (by simp)))
                            clear hb6
                            have HF6 := Lib.hid (HSF.out.keep (w' := w6) (fun q hq => HB6.out.block q (by omega)) (fun _ h => h))
                            have HS6 := Lib.hid (HR2.out.later HB6.out)
                            obtain ⟨x0, x1, x2, x3, x4⟩ := five_cells HBX6.out
                            go_wp2_with fail
                            refine (HADD.out w6 HS6.out HF6.out).mono ?_
                            rintro e9 w9 ⟨rfl, hS9⟩
                            have HNX : Hid (ItemSt W0 (hx + 1) (hx + 2) w.heap.size 24 preO [] (addL L2 (fun x => !hasT lo x) (lb.take (j + 1))) w9) := Lib.hid (by rw [HAD.out]; simpa only [qo, Bool.true_and, Bool.not_false, Bool.and_self] using hS9)
                            clear hS9
                            go_wp2_with fail
                            go_roundw
                            case rel => exact ⟨j + 1, by go_num, hj, HNX⟩
                            case measure => simp [intOf]; omega
                          · rw [qo] at HTO
                            go_wp2_with fail
                            refine (HTO.out _ (hb0 _)).mono ?_
                            rintro e6 w6 ⟨rfl, hb6⟩
                            have HBX6 := Lib.hid ((hb6.block wr.heap.size (by simp)).trans (heap_alloc_new wr _))
                            have HB6 := Lib.hid ((hb0 (.cells #[.int .i64 kx, .int .i64 ix, .int .i64 tx, .string sx, .slice Ax mx cx] 24)).trans (hb6.mono (by simp)))
                            clear hb6
                            have HNX : Hid (ItemSt W0 (hx + 1) (hx + 2) w.heap.size 24 preO [] (addL L2 (fun x => !hasT lo x) (lb.take (j + 1))) w6) := Lib.hid (by rw [HAD.out]; simp only [qo, Bool.not_true, Bool.false_and, Bool.false_eq_true, if_false]; exact HR2.out.later HB6.out)
                            go_wp2_with fail
                            go_roundw
                            case rel => exact ⟨j + 1, by go_num, hj, HNX⟩
                            case measure => simp [intOf]; omega
                        · obtain rfl : nb = j := by omega
                          have p2 : ¬ (nb : Int) < nb := by omega
                          have HS3 : Hid (ItemSt W0 (hx + 1) (hx + 2) w.heap.size 24 preO [] (addL L2 (fun x => !hasT lo x) lb) wr) := Lib.hid (by have := HR.out; rwa [HNB.out, List.take_length] at this)
                          have hszb := HR.out.size
                          have HM7 := Lib.hid (mv_of_st HMW.out HR.out (by omega) (by omega))
                          have hL3 : (addL L2 (fun x => !hasT lo x) lb).length ≤ 20 + 20 * 3 := by have := addL_len (fun x => !hasT lo x) lb L2; have := HNB.out; omega
                          generalize hLL3 : addL L2 (fun x => !hasT lo x) lb = L3 at HS3 hL3
                          have HLE3 := Lib.hid hLL3
                          clear HR hLL3 hL2
                          have hits : its = L3 := by rw [HIR.out, HLE1.out, HLE2.out, HLE3.out]
                          obtain ⟨F, xs, A6, c6, k1, k2, k3, k4, k5⟩ := HS3.out.rep
                          obtain ⟨v0, v1, v2, v3, v4⟩ : wr.cell? ⟨hx + 1, 0, none⟩ = some (.int .i64 7) ∧ wr.cell? ⟨hx + 1, 1, none⟩ = some (.int .i64 0) ∧ wr.cell? ⟨hx + 1, 2, none⟩ = some (.int .i64 0) ∧ wr.cell? ⟨hx + 1, 3, none⟩ = some (.string ⟨#[]⟩) ∧ wr.cell? ⟨hx + 1, 4, none⟩ = some (.slice A6 L3.length c6) := five_cells k1
                          have HSL := Lib.hid (vown_slF (G := fun q => hx + 2 ≤ q ∧ q < wr.heap.size) k2 (k3.leaf (by rw [← hits]; exact HLF.out)) (fun q hq => hq.elim) (fun g g1 g2 => by omega) (by omega))
                          obtain ⟨nz, hnz⟩ : ∃ nz, nz = L3.length := ⟨_, rfl⟩
                          have HNZ := Lib.hid hnz
                          rw [← hnz] at v4 HSL
                          clear k1 k2 k3 k4 k5 hnz
                          by_cases hfew : nz ≤ 20
                          · have p3 : (nz : Int) ≤ 20 := by omega
                            obtain ⟨z0, z1, z2, z3, z4⟩ := five_cells HM7.out.r
                            obtain ⟨f0, f1, f2, f3, f4⟩ := five_frozen HM7.out.r
                            go_wp2_with fail
                            (try simp only [Exit.inBlock, Exit.then])
                            refine bodyPost_ret (v := .tuple #[.agg #[.int .i64 7, .int .i64 0, .int .i64 0, .string ⟨#[]⟩, .slice A6 nz c6], .bool true]) ?_ rfl ?_
                            · simp [results, Tryz.f78]
                              go_simp
                            · have e : mt = (.mk 7 0 0 ⟨#[]⟩ L3, true) := by
                                have := HE2.out
                                have hln : L3.length ≤ 20 := by rw [← HNZ.out]; exact hfew
                                rw [hits] at this
                                simpa [h1, h2, h3, hl', hln] using this
                              rw [e]
                              refine mergeF_done (by omega) HM7.out.bel (fun F g1 g2 => ⟨by decide, _, rfl, ?_⟩)
                              exact HSL.out.keep (fun q hq => g1 q (by omega)) (fun q hq => ⟨.inr (by omega), by omega⟩)
                          · have p3 : ¬ (nz : Int) ≤ 20 := by omega
                            have hln : ¬ its.length ≤ 20 := by rw [hits, ← HNZ.out]; exact hfew
                            by_cases hk0 : ka = 0
                            · subst hk0
                              obtain ⟨y0, y1, y2, y3, y4⟩ := five_cells HM7.out.a
                              obtain ⟨x0, x1, x2, x3, x4⟩ := five_cells HM7.out.b
                              obtain ⟨z0, z1, z2, z3, z4⟩ := five_cells HM7.out.r
                              obtain ⟨f0, f1, f2, f3, f4⟩ := five_frozen HM7.out.r
                              go_wp2_with fail
                              (try simp only [Exit.inBlock, Exit.then])
                              refine bodyPost_ret (v := .tuple #[.agg #[.int .i64 kb, .int .i64 ib1, .int .i64 tb1, .string sb, .slice Ab nb cb], .bool false]) ?_ rfl ?_
                              · simp [results, Tryz.f78]
                                go_simp
                              · have e : mt = (.mk kb ib1 tb1 sb lb, false) := by have := HE2.out; simpa [h1, h2, h3, hl', hln] using this
                                rw [e]
                                exact mergeF_done (by omega) HM7.out.bel (fun F g1 g2 => argF_later HB.out HPH.out HM7.out.bel (by omega) g1 g2)
                            · obtain ⟨y0, y1, y2, y3, y4⟩ := five_cells HM7.out.a
                              obtain ⟨x0, x1, x2, x3, x4⟩ := five_cells HM7.out.a
                              obtain ⟨z0, z1, z2, z3, z4⟩ := five_cells HM7.out.r
                              obtain ⟨f0, f1, f2, f3, f4⟩ := five_frozen HM7.out.r
                              go_wp2_with fail
                              (try simp only [Exit.inBlock, Exit.then])
                              refine bodyPost_ret (v := .tuple #[.agg #[.int .i64 ka, .int .i64 ia, .int .i64 ta1, .string sa, .slice Aa na ca], .bool false]) ?_ rfl ?_
                              · simp [results, Tryz.f78]
                                go_simp
                              · have e : mt = (.mk ka ia ta1 sa la, false) := by have := HE2.out; simpa [h1, h2, h3, hl', hln, hk0] using this
                                rw [e]
                                exact mergeF_done (by omega) HM7.out.bel (fun F g1 g2 => argF_later HA.out HPH.out HM7.out.bel (by omega) g1 g2)
end Go.Proofs.YtggnocajpnmemaaGreatDoor
