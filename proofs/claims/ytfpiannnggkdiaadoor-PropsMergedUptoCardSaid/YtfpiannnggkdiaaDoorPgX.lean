/- Names rise; a property of a greater name goes to the end. Merge where one side has changed nothing, or both have changed alike: what comes out is the other side, without a name apart. sameProps of two lists of which the one is as the other, by Compare. PropsMerged: what Merge gives, laid out; the guard. The law PropsMerged: true of every two lists within the bounds. -/
import Derived.Test.YtfpiannnggkdiaaDoorMfX
import Derived.Test.YtfpiannnggkdiaaDoorPcX
namespace Go.Proofs.YtfpiannnggkdiaaDoor
open Go.RowKit Go.Shelf Go.Sort

theorem bytes_le_trans (a b c : List UInt8) (h1 : a ≤ b) (h2 : b ≤ c) : a ≤ c := List.le_trans h1 h2
theorem bytes_le_total (a b : List UInt8) : a ≤ b ∨ b ≤ a := List.le_total a b
theorem sortS_rise (L : List (List UInt8)) : (sortS L).Pairwise (· ≤ ·) := by
  have h := List.pairwise_mergeSort (le := fun x y : List UInt8 => decide (x ≤ y)) (fun a b c h1 h2 => by simp only [decide_eq_true_eq] at *; exact bytes_le_trans a b c h1 h2) (fun a b => by simpa using bytes_le_total a b) L
  exact h.imp (fun h => by simpa using h)
theorem compact_rise {L : List (List UInt8)} (h : L.Pairwise (· ≤ ·)) : (Lib.compact L).Pairwise (· < ·) := by
  unfold Lib.compact Lib.compactUpTo
  rw [List.pairwise_map, List.pairwise_filter]
  refine (List.pairwise_lt_range (n := L.length)).imp_of_mem ?_
  intro i j hi hj hij _ hk
  have hi := List.mem_range.1 hi
  have hj := List.mem_range.1 hj
  have hg := List.pairwise_iff_getElem.1 h
  simp only [Lib.keeps, decide_eq_true_eq] at hk
  have hne := hk.resolve_left (by omega)
  rw [getElem!_pos L.toArray j (by simpa using hj), getElem!_pos L.toArray (j - 1) (by simp; omega)] at hne
  rw [getElem!_pos L.toArray j (by simpa using hj), getElem!_pos L.toArray i (by simpa using hi)]
  simp only [List.getElem_toArray] at hne ⊢
  have h1 : L[j - 1] ≤ L[j] := hg (j - 1) j (by omega) hj (by omega)
  have h2 : L[i] ≤ L[j - 1] := by
    by_cases e : i = j - 1
    · subst e; exact List.le_refl _
    · exact hg i (j - 1) hi (by omega) (by omega)
  rcases List.le_iff_lt_or_eq.1 (bytes_le_trans _ _ _ h2 h1) with h3 | h3
  · exact h3
  · exact absurd (List.le_antisymm (h3 ▸ h2) h1) hne
theorem names_rise (Ls : List (List PV)) : (namesS Ls).Pairwise (· < ·) := compact_rise (sortS_rise _)
/-- All names are less than q. -/
def Under (M : List PV) (q : ByteArray) : Prop := ∀ p ∈ M, p.nm.toList < q.toList
theorem wo_end {M : List PV} {q : ByteArray} (h : Under M q) : woL M q = M := by
  unfold woL
  rw [List.filter_eq_self]
  intro p hp
  have h1 := h p hp
  have h2 : (p.nm.toList == q.toList) = false := by
    rw [beq_eq_false_iff_ne]
    intro e
    rw [e] at h1
    exact absurd h1 (List.lt_irrefl _)
  rw [h2]; rfl
theorem ins_end (M : List PV) (x : PV) : insL M M.length x = M ++ [x] := by simp [insL]
theorem asc_end {M : List PV} {x : PV} (h : Asc M) (hu : Under M x.nm) : Asc (M ++ [x]) := by
  unfold Asc at h ⊢
  rw [List.pairwise_append]
  refine ⟨h, List.pairwise_singleton _ _, fun a ha b hb => ?_⟩
  simp only [List.mem_singleton] at hb
  subst hb
  exact hu a ha
theorem merged_under {lo la lb : List PV} {N : List (List UInt8)} (h : N.Pairwise (· < ·)) {j : Nat} (hj : j < N.length) : Under (mergedL lo la lb (N.take j)) ⟨N[j].toArray⟩ := by
  intro p hp
  unfold mergedL at hp
  obtain ⟨q, hq, hp⟩ := List.mem_flatMap.1 hp
  have hnm : p.nm = ⟨q.toArray⟩ := by
    unfold mgP at hp
    split at hp
    · simp at hp
    · simp only [List.mem_singleton] at hp
      rw [hp]
  obtain ⟨i, hi, rfl⟩ := List.mem_iff_getElem.1 hq
  rw [List.length_take] at hi
  rw [hnm, Lib.toList_data, Lib.toList_data]
  simp only [List.getElem_take]
  exact List.pairwise_iff_getElem.1 h i j (by omega) hj (by omega)
theorem merged_asc {lo la lb : List PV} {N : List (List UInt8)} (h : N.Pairwise (· < ·)) : ∀ j, j ≤ N.length → Asc (mergedL lo la lb (N.take j))
  | 0, _ => by simp [mergedL, Asc]
  | j + 1, hj => by
    have h1 := merged_asc (lo := lo) (la := la) (lb := lb) h j (by omega)
    rw [mergedL_snoc (by omega)]
    unfold mgP
    split
    · rw [List.append_nil]; exact h1
    · exact asc_end h1 (merged_under h (by omega))
end Go.Proofs.YtfpiannnggkdiaaDoor
namespace Go.Proofs.YtfpiannnggkdiaaDoor
open Go.RowKit Go.Shelf Go.Sort

theorem sameT_kind {u v : V} (h : sameT u v = true) : u.kind = v.kind := by
  rcases u with ⟨k, i, t, s, l⟩
  rcases v with ⟨k', i', t', s', l'⟩
  have h := of_decide_eq_true h
  unfold cmpT at h
  rw [toT_mk, toT_mk, Vals.cmpV] at h
  show k = k'
  split at h
  · rename_i hk; rw [hk.1, hk.2]
  · unfold Vals.single at h
    split at h
    · unfold Vals.cmpI at h
      repeat' (split at h)
      all_goals omega
    · rename_i hk; exact Classical.not_not.1 hk
/-- Of each name comes what y has. -/
def Goes (lo la lb x y : List PV) : Prop := ∀ q, (mgOf lo la lb q).2 = true ∧ sameT (mgOf lo la lb q).1 (valOf y ⟨q.toArray⟩) = true ∧ ((mgOf lo la lb q).1 = valOf x ⟨q.toArray⟩ ∨ (mgOf lo la lb q).1 = valOf y ⟨q.toArray⟩)
theorem goes_one (x y : List PV) : Goes x x y x y := fun q => by
  unfold mgOf mergeT
  rw [if_pos (sameT_self _)]
  exact ⟨rfl, sameT_self _, .inr rfl⟩
theorem goes_two (x y : List PV) : Goes x y x x y := fun q => by
  unfold mgOf mergeT
  by_cases h : sameT (valOf y ⟨q.toArray⟩) (valOf x ⟨q.toArray⟩) = true
  · rw [if_pos h]; exact ⟨rfl, by rw [sameT_comm]; exact h, .inl rfl⟩
  · rw [if_neg h, if_pos (by rw [sameT_self]; rfl)]; exact ⟨rfl, sameT_self _, .inr rfl⟩
theorem goes_both (x y : List PV) : Goes x y y x y := fun q => by
  unfold mgOf mergeT
  by_cases h : sameT (valOf y ⟨q.toArray⟩) (valOf x ⟨q.toArray⟩) = true
  · rw [if_pos h]; exact ⟨rfl, sameT_self _, .inr rfl⟩
  · rw [if_neg h, if_pos (by rw [sameT_self]; simp)]; exact ⟨rfl, sameT_self _, .inr rfl⟩
theorem torn_none {lo la lb x y : List PV} (h : Goes lo la lb x y) : ∀ N, tornL lo la lb N = []
  | [] => rfl
  | q :: N => by
    have h1 := torn_none h N
    unfold tornL at h1 ⊢
    rw [List.flatMap_cons, h1, List.append_nil]
    unfold tnP
    rw [if_pos (h q).1]
theorem mem_compact {L : List (List UInt8)} : ∀ i (hi : i < L.length), L[i] ∈ Lib.compact L
  | 0, hi => by
    unfold Lib.compact Lib.compactUpTo
    refine List.mem_map.2 ⟨0, List.mem_filter.2 ⟨List.mem_range.2 (by simpa using hi), by simp [Lib.keeps]⟩, ?_⟩
    rw [getElem!_pos L.toArray 0 (by simpa using hi)]
    simp
  | i + 1, hi => by
    by_cases e : L[i + 1] = L[i]
    · rw [e]; exact mem_compact i (by omega)
    · unfold Lib.compact Lib.compactUpTo
      refine List.mem_map.2 ⟨i + 1, List.mem_filter.2 ⟨List.mem_range.2 (by simpa using hi), ?_⟩, ?_⟩
      · simp only [Lib.keeps, decide_eq_true_eq]
        refine .inr ?_
        rw [getElem!_pos L.toArray (i + 1) (by simpa using hi), getElem!_pos L.toArray (i + 1 - 1) (by simp; omega)]
        simpa using e
      · rw [getElem!_pos L.toArray (i + 1) (by simpa using hi)]
        simp
theorem names_in {Ls : List (List PV)} {l : List PV} (hl : l ∈ Ls) {p : PV} (hp : p ∈ l) : p.nm.data.toList ∈ namesS Ls := by
  have h1 : p.nm.data.toList ∈ sortS (allNames Ls) := by
    unfold sortS
    rw [List.mem_mergeSort]
    exact List.mem_flatMap.2 ⟨l, hl, List.mem_map.2 ⟨p, hp, rfl⟩⟩
  obtain ⟨i, hi, e⟩ := List.mem_iff_getElem.1 h1
  rw [← e]
  exact mem_compact i hi
/-- Two lists that rise and have the same in them are one. -/
theorem rise_eq : ∀ {A B : List (List UInt8)}, A.Pairwise (· < ·) → B.Pairwise (· < ·) → (∀ q, q ∈ A ↔ q ∈ B) → A = B
  | [], [], _, _, _ => rfl
  | [], b :: B, _, _, h => absurd ((h b).2 (List.mem_cons_self ..)) (by simp)
  | a :: A, [], _, _, h => absurd ((h a).1 (List.mem_cons_self ..)) (by simp)
  | a :: A, b :: B, hA, hB, h => by
    rw [List.pairwise_cons] at hA hB
    have e : a = b := by
      rcases List.mem_cons.1 ((h a).1 (List.mem_cons_self ..)) with e | h1
      · exact e
      · rcases List.mem_cons.1 ((h b).2 (List.mem_cons_self ..)) with e | h2
        · exact e.symm
        · exact absurd (List.lt_trans (hA.1 b h2) (hB.1 a h1)) (List.lt_irrefl _)
    subst e
    rw [rise_eq hA.2 hB.2 (fun q => ⟨fun hq => ?_, fun hq => ?_⟩)]
    · rcases List.mem_cons.1 ((h q).1 (List.mem_cons_of_mem _ hq)) with e | h1
      · subst e; exact absurd (hA.1 q hq) (List.lt_irrefl _)
      · exact h1
    · rcases List.mem_cons.1 ((h q).2 (List.mem_cons_of_mem _ hq)) with e | h1
      · subst e; exact absurd (hB.1 q hq) (List.lt_irrefl _)
      · exact h1
theorem arr_self (s : ByteArray) : (⟨s.data.toList.toArray⟩ : ByteArray) = s := by cases s; simp
theorem valOf_at {y : List PV} (hA : Asc y) {j : Nat} (hj : j < y.length) : valOf y y[j].nm = y[j].val := by
  unfold valOf
  rw [getV_at hj (by simp) (fun k hk hkj => by
    have h1 : y[k].nm.toList < y[j].nm.toList := List.pairwise_iff_getElem.1 hA k j hk hj hkj
    rw [beq_eq_false_iff_ne]
    intro e
    rw [e] at h1
    exact List.lt_irrefl _ h1)]
  rfl
theorem valOf_out {y : List PV} {q : ByteArray} (h : ∀ p ∈ y, p.nm.data.toList ≠ q.data.toList) : valOf y q = .mk 0 0 0 ⟨#[]⟩ [] := by
  unfold valOf
  rw [getV_none (fun k hk => by
    rw [beq_eq_false_iff_ne, Lib.toList_data, Lib.toList_data]
    exact h _ (List.getElem_mem hk))]
  rfl
theorem itemP_kind {prev : Option ByteArray} {p : PV} (h : itemP prev p = 0) : p.val.kind ≠ 0 := by
  rcases prev with _ | q
  all_goals
    simp only [itemP] at h
    repeat' (split at h)
    all_goals first
      | assumption
      | exact absurd h (by decide)
      | (simp at h)
theorem propsFrom_kind : ∀ (l : List PV) (prev : Option ByteArray), propsFrom prev l = 0 → ∀ p ∈ l, p.val.kind ≠ 0
  | [], _, _, _, hp => by simp at hp
  | x :: l, prev, h, p, hp => by
    unfold propsFrom at h
    split at h
    · rename_i h0
      rcases List.mem_cons.1 hp with rfl | hp
      · exact itemP_kind h0
      · exact propsFrom_kind l _ h p hp
    · rename_i h0; exact absurd h h0
theorem merged_filter (lo la lb : List PV) : ∀ N : List (List UInt8), mergedL lo la lb N = (N.filter fun q => decide ((mgOf lo la lb q).1.kind ≠ 0)).map fun q => ⟨⟨q.toArray⟩, (mgOf lo la lb q).1⟩
  | [] => rfl
  | q :: N => by
    have h1 := merged_filter lo la lb N
    unfold mergedL at h1 ⊢
    rw [List.flatMap_cons, h1, List.filter_cons]
    unfold mgP
    by_cases h : (mgOf lo la lb q).1.kind = 0
    · rw [if_pos h, if_neg (by simp [h])]; rfl
    · rw [if_neg h, if_pos (by simp [h])]; rfl
/-- What is left of the names are those of y. -/
theorem kept_names {lo la lb x y : List PV} (hg : Goes lo la lb x y) (hy : propsE y = 0) (hin : y ∈ [lo, la, lb]) : ((namesS [lo, la, lb]).filter fun q => decide ((mgOf lo la lb q).1.kind ≠ 0)) = namesL y := by
  have hA : Asc y := propsE_rise hy
  have hk := propsFrom_kind y none (propsE_few hy).2
  refine rise_eq (List.Pairwise.filter _ (names_rise _)) ?_ (fun q => ?_)
  · unfold namesL
    rw [List.pairwise_map]
    refine hA.imp (fun {a b} h => ?_)
    have h : a.nm.toList < b.nm.toList := h
    rw [Lib.toList_data, Lib.toList_data] at h
    exact h
  · rw [List.mem_filter, decide_eq_true_eq, sameT_kind (hg q).2.1]
    refine ⟨fun ⟨_, h2⟩ => ?_, fun h => ?_⟩
    · refine Classical.byContradiction fun hno => h2 ?_
      rw [valOf_out (fun p hp e => hno (List.mem_map.2 ⟨p, hp, e⟩))]
      rfl
    · obtain ⟨p, hp, rfl⟩ := List.mem_map.1 h
      refine ⟨names_in hin hp, ?_⟩
      obtain ⟨j, hj, rfl⟩ := List.mem_iff_getElem.1 hp
      rw [arr_self, valOf_at hA hj]
      exact hk _ hp
/-- The result has y's names, and values that are one with y's. -/
def SameL (M y : List PV) : Prop := M.length = y.length ∧ ∀ j (h : j < M.length) (h' : j < y.length), M[j].nm = y[j].nm ∧ sameT M[j].val y[j].val = true ∧ nodesV M[j].val ≤ 1000
theorem merged_goes {lo la lb x y : List PV} (hg : Goes lo la lb x y) (hx : propsE x = 0) (hy : propsE y = 0) (hin : y ∈ [lo, la, lb]) : SameL (mergedL lo la lb (namesS [lo, la, lb])) y := by
  have hA : Asc y := propsE_rise hy
  rw [merged_filter, kept_names hg hy hin]
  refine ⟨by unfold namesL; simp, fun j h h' => ?_⟩
  simp only [List.getElem_map, namesL]
  have h1 := (hg y[j].nm.data.toList).2.1
  rw [arr_self, valOf_at hA h'] at h1
  refine ⟨by first | trivial | exact arr_self _, h1, ?_⟩
  rcases (hg y[j].nm.data.toList).2.2 with e | e
  · rw [e]; have := (valOf_right (q := ⟨y[j].nm.data.toList.toArray⟩) hx).nodes; omega
  · rw [e]; have := (valOf_right (q := ⟨y[j].nm.data.toList.toArray⟩) hy).nodes; omega
theorem merge_fine {lo la lb x y : List PV} (hg : Goes lo la lb x y) (hx : propsE x = 0) (ho : propsE lo = 0) (ha : propsE la = 0) (hb : propsE lb = 0) (hin : y ∈ [lo, la, lb]) : mergeE lo la lb = 0 := by
  have hy : propsE y = 0 := by
    simp only [List.mem_cons, List.not_mem_nil, or_false] at hin
    rcases hin with rfl | rfl | rfl <;> assumption
  have h1 := (merged_goes hg hx hy hin).1
  have h2 := (propsE_few hy).1
  unfold mergeE
  rw [if_neg (by omega), if_neg (by omega), if_neg (by omega), if_neg (by omega)]
end Go.Proofs.YtfpiannnggkdiaaDoor
namespace Go.Proofs.YtfpiannnggkdiaaDoor
open Go.RowKit Go.Shelf Go.Sort

set_option maxRecDepth 100000 in
set_option maxHeartbeats 8000000 in
theorem samePair_any (nm : ByteArray) (k i t : Int) (s : ByteArray) (l : List V) (k2 i2 t2 : Int) (s2 : ByteArray) (l2 : List V) (A1 A2 : Option Addr) (c1 c2 : Nat) (w : World) (hz : s.size ≤ 1048576) (hz2 : s2.size ≤ 1048576) (h1 : SlAt w w.heap.size l (.slice A1 l.length c1)) (h2 : SlAt w w.heap.size l2 (.slice A2 l2.length c2))
    (hn : nodesV (.mk k i t s l) ≤ 1000) (he : sameT (.mk k i t s l) (.mk k2 i2 t2 s2 l2) = true) :
    Calls Tryd.prog 45 #[.agg #[.string nm, .int .i64 k, .int .i64 i, .int .i64 t, .string s, .slice A1 l.length c1], .agg #[.string nm, .int .i64 k2, .int .i64 i2, .int .i64 t2, .string s2, .slice A2 l2.length c2]] w (Quiet w (.bool true)) := by
  have he : cmpT (.mk k i t s l) (.mk k2 i2 t2 s2 l2) = 0 := of_decide_eq_true he
  have HC := Lib.hid (fun W (hW : Below w.heap.size w W) => compareP_any (.mk k i t s l) (.mk k2 i2 t2 s2 l2) (.agg #[.int .i64 k, .int .i64 i, .int .i64 t, .string s, .slice A1 l.length c1]) (.agg #[.int .i64 k2, .int .i64 i2, .int .i64 t2, .string s2, .slice A2 l2.length c2]) W ⟨hz, _, rfl, (h1.below hW (Nat.le_refl _)).up hW.size⟩ ⟨hz2, _, rfl, (h2.below hW (Nat.le_refl _)).up hW.size⟩ hn)
  rw [he] at HC
  clear h1 h2 hn he
  generalize l.length = n at HC ⊢
  generalize l2.length = n2 at HC ⊢
  go_enter Tryd.func45, Tryd.ntmps45
  go_wp2_with fail
  refine (HC.out _ (((Below.refl _ w).alloc (Nat.le_refl _) _).alloc (by simp) _)).mono ?_
  rintro e3 w3 ⟨rfl, hb3⟩
  have HB3 := Lib.hid ((((Below.refl _ w).alloc (Nat.le_refl _) _).alloc (by simp) _).trans (hb3.mono (by simp; omega)))
  clear hb3
  go_wp2_with fail
  go_ret
  exact ⟨ret_boolA (by simp), HB3.out⟩

set_option maxRecDepth 100000 in
set_option maxHeartbeats 8000000 in
theorem sameEqual_any (M l : List PV) (hs : SameL M l) (A1 A2 : Option Addr) (c1 c2 : Nat) (w : World) (h1 : PSl w w.heap.size M (.slice A1 M.length c1)) (h2 : PSl w w.heap.size l (.slice A2 l.length c2)) :
    Calls Tryd.prog 25 #[.slice A1 M.length c1, .slice A2 l.length c2, .func (Fn.func 45) #[] #[]] w (Quiet w (.bool true)) := by
  have hle : l.length ≤ 1048576 := by obtain ⟨_, _, e, h1, _⟩ := h2; exact h1
  have hen := enters_of Tryd.func45 (by kernel_rfl) rfl
  have hml := hs.1
  have HS := Lib.hid hs.2
  rw [hml] at h1 ⊢
  have H1 := Lib.hid h1
  have H2 := Lib.hid h2
  have HM := Lib.hid hml
  obtain ⟨n, hnn⟩ : ∃ n, n = l.length := ⟨_, rfl⟩
  rw [← hnn] at hle H1 H2 HM ⊢
  have HN := Lib.hid hnn
  clear h1 h2 hnn hml hs
  go_enter Tryd.func25, Tryd.ntmps25
  go_wp2_with fail
  go_loopw [17] (fun iv wx => ∃ j : Nat, iv = .int .i64 j ∧ j ≤ n ∧ Hid (Below w.heap.size w wx)) (fun iv _ => n - (intOf iv).toNat)
  case atStart => exact ⟨0, rfl, Nat.zero_le _, Lib.hid (Below.refl _ _)⟩
  case round =>
    obtain ⟨j, rfl, hjl, HR⟩ := hrel
    by_cases hj : j < n
    · have hj2 : j < l.length := by rw [← HN.out]; exact hj
      have hj1 : j < M.length := by rw [HM.out]; exact hj
      have p2 : (j : Int) < n := by omega
      obtain ⟨e1, e2, e3⟩ := HS.out j hj1 hj2
      obtain ⟨b1, o1, nm, kx, ix, tx, sx, lx, Ax1, cx1, rfl, hx, hlt1, q0, q1, q2, q3, q4, q5, hnz, gz, gl, gs1, _⟩ := prop_item (by rw [HM.out]; exact H1.out) hj1
      obtain ⟨b2, o2, nm2, kx2, ix2, tx2, sx2, lx2, Ax2, cx2, rfl, hx2, hlt2, u0, u1, u2, u3, u4, u5, _, gz2, _, gs2, _⟩ := prop_item (by rw [← HN.out]; exact H2.out) hj2
      rw [hx, hx2] at e1 e2
      rw [hx] at e3
      have e1 : nm = nm2 := e1
      subst e1
      have HC := Lib.hid (fun W (hW : Below w.heap.size w W) => samePair_any nm kx ix tx sx lx kx2 ix2 tx2 sx2 lx2 Ax1 Ax2 cx1 cx2 W gz gz2 ((gs1.below hW (Nat.le_refl _)).up hW.size) ((gs2.below hW (Nat.le_refl _)).up hW.size) e3 e2)
      have hbel := HR.out
      replace q0 := (hbel.cell (p := ⟨b1, o1 + j * 6, none⟩) hlt1).trans q0
      replace q1 := (hbel.cell (p := ⟨b1, o1 + j * 6 + 1, none⟩) hlt1).trans q1
      replace q2 := (hbel.cell (p := ⟨b1, o1 + j * 6 + 2, none⟩) hlt1).trans q2
      replace q3 := (hbel.cell (p := ⟨b1, o1 + j * 6 + 3, none⟩) hlt1).trans q3
      replace q4 := (hbel.cell (p := ⟨b1, o1 + j * 6 + 4, none⟩) hlt1).trans q4
      replace q5 := (hbel.cell (p := ⟨b1, o1 + j * 6 + 5, none⟩) hlt1).trans q5
      replace u0 := (hbel.cell (p := ⟨b2, o2 + j * 6, none⟩) hlt2).trans u0
      replace u1 := (hbel.cell (p := ⟨b2, o2 + j * 6 + 1, none⟩) hlt2).trans u1
      replace u2 := (hbel.cell (p := ⟨b2, o2 + j * 6 + 2, none⟩) hlt2).trans u2
      replace u3 := (hbel.cell (p := ⟨b2, o2 + j * 6 + 3, none⟩) hlt2).trans u3
      replace u4 := (hbel.cell (p := ⟨b2, o2 + j * 6 + 4, none⟩) hlt2).trans u4
      replace u5 := (hbel.cell (p := ⟨b2, o2 + j * 6 + 5, none⟩) hlt2).trans u5
      have hszw := hbel.size
      have l2 : b2 < wr.heap.size := by omega
      have HBL := Lib.hid hbel
      obtain ⟨m, hm⟩ : ∃ m, m = lx.length := ⟨_, rfl⟩
      obtain ⟨m2, hm2⟩ : ∃ m, m = lx2.length := ⟨_, rfl⟩
      rw [← hm, ← hm2] at HC
      rw [← hm] at q5
      rw [← hm2] at u5
      clear gs1 gs2 hx hx2 hbel gl gz gz2 hnz hm hm2 e2 e3
      go_wp2_with fail
      refine (HC.out _ ((HBL.out.alloc hszw _).alloc (by simp; omega) _)).mono ?_
      rintro e3 w3 ⟨rfl, hb3⟩
      have HB3 := Lib.hid (((HBL.out.alloc hszw _).alloc (by simp; omega) _).trans (hb3.mono (by simp; omega)))
      clear hb3
      go_wp2_with fail
      go_roundw
      case rel => exact ⟨j + 1, by go_num, hj, HB3⟩
      case measure => simp [intOf]; omega
    · have p2 : ¬ (j : Int) < n := by omega
      go_wp2_with fail
      go_ret
      exact ⟨rfl, HR.out⟩

set_option maxRecDepth 100000 in
set_option maxHeartbeats 8000000 in
theorem sameProps_any (M l : List PV) (hs : SameL M l) (A1 A2 : Option Addr) (c1 c2 : Nat) (w : World) (h1 : PSl w w.heap.size M (.slice A1 M.length c1)) (h2 : PSl w w.heap.size l (.slice A2 l.length c2)) :
    Calls Tryd.prog 13 #[.slice A1 M.length c1, .slice A2 l.length c2] w (Quiet w (.bool true)) := by
  have HC := Lib.hid (sameEqual_any M l hs A1 A2 c1 c2 w h1 h2)
  clear h1 h2 hs
  generalize M.length = n at HC ⊢
  generalize l.length = n2 at HC ⊢
  go_enter Tryd.func13, Tryd.ntmps13
  go_wp2_with fail
  refine HC.out.mono ?_
  rintro e3 w3 ⟨rfl, hb3⟩
  go_wp2_with fail
  go_ret
  exact ⟨rfl, hb3⟩
end Go.Proofs.YtfpiannnggkdiaaDoor
namespace Go.Proofs.YtfpiannnggkdiaaDoor
open Go.RowKit Go.Shelf Go.Sort

theorem MgSt.psl {W wx : World} {M : List PV} {T : List (List UInt8)} {vm vt : Value} (h : MgSt W M T vm vt wx) (hl : M.length ≤ 1048576) : PSl wx wx.heap.size M vm := by
  obtain ⟨F, xs, h1, h2, h3, h4, _⟩ := h.rep
  have hp : PrOwn W W.heap.size M vm wx := ⟨h.bel, F, xs, h1, h2, fun b hb => ⟨h3 b hb, by omega⟩, h4⟩
  exact hp.psl hl
theorem mergeE_zero {lo la lb : List PV} (h : mergeE lo la lb = 0) : propsE lo = 0 ∧ propsE la = 0 ∧ propsE lb = 0 ∧ (mergedL lo la lb (namesS [lo, la, lb])).length ≤ 20 := by
  unfold mergeE at h
  repeat' (split at h)
  all_goals first
    | exact absurd h (by decide)
    | contradiction
    | (refine ⟨?_, ?_, ?_, ?_⟩ <;> first | omega | (simp_all; done))
/-- The three slices of a merge, all in one state of memory. -/
structure Three (w : World) (x y lo la lb : List PV) (vo va vb : Value) : Prop where
  o : ∃ A c, vo = .slice A lo.length c ∧ PSl w w.heap.size lo (.slice A lo.length c)
  a : ∃ A c, va = .slice A la.length c ∧ PSl w w.heap.size la (.slice A la.length c)
  b : ∃ A c, vb = .slice A lb.length c ∧ PSl w w.heap.size lb (.slice A lb.length c)
  goes : Goes lo la lb x y
  inn : y ∈ [lo, la, lb]
  right : propsE x = 0 → propsE y = 0 → propsE lo = 0 ∧ propsE la = 0 ∧ propsE lb = 0
  back : propsE lo = 0 → propsE la = 0 → propsE lb = 0 → propsE x = 0 ∧ propsE y = 0
/-- What Merge gives of such three. -/
def Merged3 (w : World) (x y : List PV) (e : Ending) (w' : World) : Prop :=
  Below w.heap.size w w' ∧ ∃ A c A2 c2, ((∃ er : Int, er ≠ 0 ∧ e = .returned (.tuple #[.slice A 0 c, .slice A2 0 c2, .int .i64 er]) ∧ ¬ (propsE x = 0 ∧ propsE y = 0)) ∨
    (∃ M : List PV, e = .returned (.tuple #[.slice A M.length c, .slice A2 0 c2, .int .i64 0]) ∧ PSl w' w'.heap.size M (.slice A M.length c) ∧ SameL M y ∧ propsE x = 0 ∧ propsE y = 0))
theorem merged3_any {w : World} {x y lo la lb : List PV} {vo va vb : Value} (h : Three w x y lo la lb vo va vb) : Calls Tryd.prog 11 #[vo, va, vb] w (Merged3 w x y) := by
  obtain ⟨Ao, co, rfl, ho⟩ := h.o
  obtain ⟨Aa, ca, rfl, ha⟩ := h.a
  obtain ⟨Ab, cb, rfl, hb⟩ := h.b
  refine (mergeP_any lo la lb Ao Aa Ab co ca cb w ho ha hb).mono ?_
  rintro e w' ⟨vm, vt, rfl, hS⟩
  refine ⟨hS.bel, ?_⟩
  by_cases he : mergeE lo la lb = 0
  · rw [if_pos he, if_pos he, torn_none h.goes] at hS
    have hz := mergeE_zero he
    obtain ⟨A, c, rfl, hr⟩ := hS.psl (by omega)
    obtain ⟨A2, c2, rfl⟩ := own_shape hS.torn
    obtain ⟨hx, hy⟩ := h.back hz.1 hz.2.1 hz.2.2.1
    exact ⟨A, c, A2, c2, .inr ⟨_, by rw [he]; rfl, ⟨A, c, rfl, hr⟩, merged_goes h.goes hx hy h.inn, hx, hy⟩⟩
  · rw [if_neg he, if_neg he] at hS
    obtain ⟨A, c, rfl, hr⟩ := hS.psl (by simp)
    obtain ⟨A2, c2, rfl⟩ := own_shape hS.torn
    refine ⟨A, c, A2, c2, .inl ⟨_, he, rfl, fun ⟨hx, hy⟩ => ?_⟩⟩
    obtain ⟨q1, q2, q3⟩ := h.right hx hy
    exact he (merge_fine h.goes hx q1 q2 q3 h.inn)
theorem dayOf_zero (w : World) : Calls Tryd.prog 14 #[.int .i64 0, .int .i64 0, .int .i64 0] w fun e w' => e = .returned (.tuple #[.int .i64 0, .int .i64 2]) ∧ w = w' := by
  go_enter Tryd.func14, Tryd.ntmps14
  go_wp2
  go_ret2
  exact ⟨rfl, rfl⟩
theorem awake_any (w : World) : Calls Tryd.prog 10 #[] w fun e w' => e = .returned (.bool true) ∧ w = w' := by
  have HD := Lib.hid (dayOf_zero w)
  go_enter Tryd.func10, Tryd.ntmps10
  go_wp2_with fail
  refine HD.out.mono ?_
  rintro e w' ⟨rfl, rfl⟩
  go_wp2_with fail
  go_ret
  exact ⟨rfl, rfl⟩
end Go.Proofs.YtfpiannnggkdiaaDoor
namespace Go.Proofs.YtfpiannnggkdiaaDoor
open Go.RowKit Go.Shelf Go.Sort

theorem three_zero {w : World} {x y : List PV} {Ax Ay : Option Addr} {cx cy : Nat} (hx : PSl w w.heap.size x (.slice Ax x.length cx)) (hy : PSl w w.heap.size y (.slice Ay y.length cy)) : Three w x y x x y (.slice Ax x.length cx) (.slice Ax x.length cx) (.slice Ay y.length cy) :=
  ⟨⟨_, _, rfl, hx⟩, ⟨_, _, rfl, hx⟩, ⟨_, _, rfl, hy⟩, goes_one x y, by simp, fun a b => ⟨a, a, b⟩, fun a _ b => ⟨a, b⟩⟩
theorem three_one {w : World} {x y : List PV} {Ax Ay : Option Addr} {cx cy : Nat} (hx : PSl w w.heap.size x (.slice Ax x.length cx)) (hy : PSl w w.heap.size y (.slice Ay y.length cy)) : Three w x y x y x (.slice Ax x.length cx) (.slice Ay y.length cy) (.slice Ax x.length cx) :=
  ⟨⟨_, _, rfl, hx⟩, ⟨_, _, rfl, hy⟩, ⟨_, _, rfl, hx⟩, goes_two x y, by simp, fun a b => ⟨a, b, a⟩, fun a b _ => ⟨a, b⟩⟩
theorem three_two {w : World} {x y : List PV} {Ax Ay : Option Addr} {cx cy : Nat} (hx : PSl w w.heap.size x (.slice Ax x.length cx)) (hy : PSl w w.heap.size y (.slice Ay y.length cy)) : Three w x y x y y (.slice Ax x.length cx) (.slice Ay y.length cy) (.slice Ay y.length cy) :=
  ⟨⟨_, _, rfl, hx⟩, ⟨_, _, rfl, hy⟩, ⟨_, _, rfl, hy⟩, goes_both x y, by simp, fun a b => ⟨a, b, b⟩, fun a b _ => ⟨a, b⟩⟩

set_option maxRecDepth 100000 in
set_option maxHeartbeats 8000000 in
theorem propsMerged_any (x y : List PV) (Ax Ay : Option Addr) (cx cy : Nat) (w : World) (hx : PSl w w.heap.size x (.slice Ax x.length cx)) (hy : PSl w w.heap.size y (.slice Ay y.length cy)) :
    Calls Tryd.prog 4 #[.slice Ax x.length cx, .slice Ay y.length cy] w (Quiet w (.bool true)) := by
  have HA := Lib.hid (awake_any w)
  have HY := Lib.hid hy
  have H0 := Lib.hid (fun W (hW : Below w.heap.size w W) => merged3_any (three_zero ((hx.below hW (Nat.le_refl _)).up hW.size) ((hy.below hW (Nat.le_refl _)).up hW.size)))
  have H1 := Lib.hid (fun W (hW : Below w.heap.size w W) => merged3_any (three_one ((hx.below hW (Nat.le_refl _)).up hW.size) ((hy.below hW (Nat.le_refl _)).up hW.size)))
  have H2 := Lib.hid (fun W (hW : Below w.heap.size w W) => merged3_any (three_two ((hx.below hW (Nat.le_refl _)).up hW.size) ((hy.below hW (Nat.le_refl _)).up hW.size)))
  have HS := Lib.hid (fun (M : List PV) (A : Option Addr) (c : Nat) W (hW : Below w.heap.size w W) (hs : SameL M y) (hm : PSl W W.heap.size M (.slice A M.length c)) => sameProps_any M y hs A Ay c cy W hm ((hy.below hW (Nat.le_refl _)).up hW.size))
  generalize x.length = nx at H0 H1 H2 ⊢
  generalize y.length = ny at H0 H1 H2 HS HY ⊢
  clear hx hy HY
  go_enter Tryd.func4, Tryd.ntmps4
  go_wp2_with (go_at_call 10; refine HA.out.mono ?_; rintro e w' ⟨rfl, rfl⟩)
  have hstart : (w.alloc (.cells #[.slice Ax nx cx, .slice Ax nx cx, .slice Ay ny cy, .slice Ax nx cx, .slice Ay ny cy, .slice Ax nx cx, .slice Ax nx cx, .slice Ay ny cy, .slice Ay ny cy] 33)).heap[w.heap.size]? = some (.cells #[.slice Ax nx cx, .slice Ax nx cx, .slice Ay ny cy, .slice Ax nx cx, .slice Ay ny cy, .slice Ax nx cx, .slice Ax nx cx, .slice Ay ny cy, .slice Ay ny cy] 33 (0, 0)) := heap_alloc_new w _
  obtain ⟨CS, hCS⟩ : ∃ CS : Array Value, CS = #[.slice Ax nx cx, .slice Ax nx cx, .slice Ay ny cy, .slice Ax nx cx, .slice Ay ny cy, .slice Ax nx cx, .slice Ax nx cx, .slice Ay ny cy, .slice Ay ny cy] := ⟨_, rfl⟩
  rw [← hCS] at hstart ⊢
  have HCS := Lib.hid hCS
  clear hCS
  go_loopw [26] (fun iv wx => ∃ j : Nat, iv = .int .i64 j ∧ j ≤ 3 ∧ Hid (Below w.heap.size w wx ∧ wx.heap[w.heap.size]? = some (.cells CS 33 (0, 0))) ∧ Hid (0 < j → propsE x = 0 ∧ propsE y = 0)) (fun iv _ => 3 - (intOf iv).toNat)
  case atStart => exact ⟨0, rfl, Nat.zero_le _, Lib.hid ⟨(Below.refl _ _).alloc (Nat.le_refl _) _, hstart⟩, Lib.hid (fun h => absurd h (Nat.lt_irrefl _))⟩
  case round =>
    obtain ⟨j, rfl, hj3, HR, HG⟩ := hrel
    clear hstart
    obtain ⟨hb, hcs⟩ := HR.out
    rw [HCS.out] at hcs
    have hlt : w.heap.size < wr.heap.size := by
      have := Array.getElem?_eq_some_iff.1 hcs
      exact this.1
    have hsz := hb.size
    rcases (by omega : j = 0 ∨ j = 1 ∨ j = 2 ∨ j = 3) with rfl | rfl | rfl | rfl
    · have c0 : wr.cell? ⟨w.heap.size, 0, none⟩ = some (.slice Ax nx cx) := cell_of_row wr _ 0 _ _ (0, 0) hcs
      have c1 : wr.cell? ⟨w.heap.size, 1, none⟩ = some (.slice Ax nx cx) := cell_of_row wr _ 1 _ _ (0, 0) hcs
      have c2 : wr.cell? ⟨w.heap.size, 2, none⟩ = some (.slice Ay ny cy) := cell_of_row wr _ 2 _ _ (0, 0) hcs
      have HB := Lib.hid hb
      clear hb hcs
      go_wp2_with fail
      refine (H0.out _ (HB.out.alloc hsz _)).mono ?_
      rintro e1 w1 ⟨hb1, A, c, A2, cz, h⟩
      have HB1 := Lib.hid ((HB.out.alloc hsz _).trans (hb1.mono (by simp; omega)))
      have HC1 : Hid (w1.heap[w.heap.size]? = some (.cells CS 33 (0, 0))) := Lib.hid ((hb1.block _ (by simp; omega)).trans ((Below.heap_alloc _ _ _ (by omega)).trans HR.out.2))
      clear hb1
      rcases h with ⟨er, her, rfl, hbad⟩ | ⟨M, rfl, hM, hS, hx0, hy0⟩
      · have q1 : (er == 0) = false := by simpa using her
        have q2 : (er != 0) = true := by simpa using her
        clear her hbad
        go_wp2_with fail
        go_ret
        exact ⟨ret_boolA (by simp), HB1.out⟩
      · have HC := Lib.hid (HS.out M A c w1 HB1.out hS hM)
        have HGG : Hid (propsE x = 0 ∧ propsE y = 0) := Lib.hid ⟨hx0, hy0⟩
        generalize M.length = nm at HC ⊢
        clear hM hS hx0 hy0
        go_wp2_with fail
        refine HC.out.mono ?_
        rintro e2 w2 ⟨rfl, hb2⟩
        have hsz1 := HB1.out.size
        have hlt1 : w.heap.size < w1.heap.size := (Array.getElem?_eq_some_iff.1 HC1.out).1
        have HB2 := Lib.hid (HB1.out.trans (hb2.mono hsz1))
        have HC2 := Lib.hid ((hb2.block _ hlt1).trans HC1.out)
        clear hb2
        go_wp2_with fail
        go_roundw
        case rel => exact ⟨1, by go_num, by omega, Lib.hid ⟨HB2.out, HC2.out⟩, Lib.hid (fun _ => HGG.out)⟩
        case measure => simp [intOf]
    · have c0 : wr.cell? ⟨w.heap.size, 3, none⟩ = some (.slice Ax nx cx) := cell_of_row wr _ 3 _ _ (0, 0) hcs
      have c1 : wr.cell? ⟨w.heap.size, 4, none⟩ = some (.slice Ay ny cy) := cell_of_row wr _ 4 _ _ (0, 0) hcs
      have c2 : wr.cell? ⟨w.heap.size, 5, none⟩ = some (.slice Ax nx cx) := cell_of_row wr _ 5 _ _ (0, 0) hcs
      have HB := Lib.hid hb
      clear hb hcs
      go_wp2_with fail
      refine (H1.out _ (HB.out.alloc hsz _)).mono ?_
      rintro e1 w1 ⟨hb1, A, c, A2, cz, h⟩
      have HB1 := Lib.hid ((HB.out.alloc hsz _).trans (hb1.mono (by simp; omega)))
      have HC1 : Hid (w1.heap[w.heap.size]? = some (.cells CS 33 (0, 0))) := Lib.hid ((hb1.block _ (by simp; omega)).trans ((Below.heap_alloc _ _ _ (by omega)).trans HR.out.2))
      clear hb1
      rcases h with ⟨er, her, rfl, hbad⟩ | ⟨M, rfl, hM, hS, hx0, hy0⟩
      · exact absurd (HG.out (by omega)) hbad
      · have HC := Lib.hid (HS.out M A c w1 HB1.out hS hM)
        have HGG : Hid (propsE x = 0 ∧ propsE y = 0) := Lib.hid ⟨hx0, hy0⟩
        generalize M.length = nm at HC ⊢
        clear hM hS hx0 hy0
        go_wp2_with fail
        refine HC.out.mono ?_
        rintro e2 w2 ⟨rfl, hb2⟩
        have hsz1 := HB1.out.size
        have hlt1 : w.heap.size < w1.heap.size := (Array.getElem?_eq_some_iff.1 HC1.out).1
        have HB2 := Lib.hid (HB1.out.trans (hb2.mono hsz1))
        have HC2 := Lib.hid ((hb2.block _ hlt1).trans HC1.out)
        clear hb2
        go_wp2_with fail
        go_roundw
        case rel => exact ⟨2, by go_num, by omega, Lib.hid ⟨HB2.out, HC2.out⟩, Lib.hid (fun _ => HGG.out)⟩
        case measure => simp [intOf]
    · have c0 : wr.cell? ⟨w.heap.size, 6, none⟩ = some (.slice Ax nx cx) := cell_of_row wr _ 6 _ _ (0, 0) hcs
      have c1 : wr.cell? ⟨w.heap.size, 7, none⟩ = some (.slice Ay ny cy) := cell_of_row wr _ 7 _ _ (0, 0) hcs
      have c2 : wr.cell? ⟨w.heap.size, 8, none⟩ = some (.slice Ay ny cy) := cell_of_row wr _ 8 _ _ (0, 0) hcs
      have HB := Lib.hid hb
      clear hb hcs
      go_wp2_with fail
      refine (H2.out _ (HB.out.alloc hsz _)).mono ?_
      rintro e1 w1 ⟨hb1, A, c, A2, cz, h⟩
      have HB1 := Lib.hid ((HB.out.alloc hsz _).trans (hb1.mono (by simp; omega)))
      have HC1 : Hid (w1.heap[w.heap.size]? = some (.cells CS 33 (0, 0))) := Lib.hid ((hb1.block _ (by simp; omega)).trans ((Below.heap_alloc _ _ _ (by omega)).trans HR.out.2))
      clear hb1
      rcases h with ⟨er, her, rfl, hbad⟩ | ⟨M, rfl, hM, hS, hx0, hy0⟩
      · exact absurd (HG.out (by omega)) hbad
      · have HC := Lib.hid (HS.out M A c w1 HB1.out hS hM)
        have HGG : Hid (propsE x = 0 ∧ propsE y = 0) := Lib.hid ⟨hx0, hy0⟩
        generalize M.length = nm at HC ⊢
        clear hM hS hx0 hy0
        go_wp2_with fail
        refine HC.out.mono ?_
        rintro e2 w2 ⟨rfl, hb2⟩
        have hsz1 := HB1.out.size
        have hlt1 : w.heap.size < w1.heap.size := (Array.getElem?_eq_some_iff.1 HC1.out).1
        have HB2 := Lib.hid (HB1.out.trans (hb2.mono hsz1))
        have HC2 := Lib.hid ((hb2.block _ hlt1).trans HC1.out)
        clear hb2
        go_wp2_with fail
        go_roundw
        case rel => exact ⟨3, by go_num, by omega, Lib.hid ⟨HB2.out, HC2.out⟩, Lib.hid (fun _ => HGG.out)⟩
        case measure => simp [intOf]
    · have HB := Lib.hid hb
      clear hb hcs HR
      go_wp2_with fail
      go_ret
      exact ⟨rfl, HB.out⟩
end Go.Proofs.YtfpiannnggkdiaaDoor
