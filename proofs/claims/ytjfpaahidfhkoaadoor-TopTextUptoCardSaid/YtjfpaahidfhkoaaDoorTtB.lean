/- Pure: the spans' bold parts pair; the spans, put together, are the string; so are the parts; the bytes that are shown have their sources, rising. -/
import Derived.Test.YtjfpaahidfhkoaaDoorTtA
import Derived.Test.YtjfpaahidfhkoaaDoorSqH
import Derived.Test.YtjfpaahidfhkoaaDoorTzL
namespace Go.Proofs.YtjfpaahidfhkoaaDoor
open Go.RowKit

/-! ### Bold parts -/
def StrongAll (l : List Sp) : Prop := ∀ pre x post, l = pre ++ x :: post → x.strong = decide (x.kind = 7 ∨ bolds (pre ++ [x]) % 2 = 1)
theorem bolds_one (l : List Sp) (x : Sp) : bolds (l ++ [x]) = bolds l + if x.kind = 7 then 1 else 0 := bolds_snoc l x
theorem StrongAll.snoc {l : List Sp} {x : Sp} (h : StrongAll l) (hx : x.strong = decide (x.kind = 7 ∨ bolds (l ++ [x]) % 2 = 1)) : StrongAll (l ++ [x]) := by
  intro pre y post e
  rcases List.eq_nil_or_concat post with hp | ⟨post', z, hp⟩
  · subst hp
    have : pre ++ [y] = l ++ [x] := e.symm
    obtain ⟨h1, h2⟩ := List.append_inj' this rfl
    injection h2 with h2
    subst h1 h2
    exact hx
  · subst hp
    have e2 : l ++ [x] = (pre ++ y :: post') ++ [z] := by rw [e]; simp
    obtain ⟨h1, h2⟩ := List.append_inj' e2 rfl
    exact h pre y post' h1
structure StOk (st : SpSt) : Prop where
  s : StrongAll st.out
  b : bolds st.out = st.seen
theorem StOk.plain {s : ByteArray} {st : SpSt} (h : StOk st) (b : Nat) : StrongAll (plainTo s st b) ∧ bolds (plainTo s st b) = st.seen := by
  unfold plainTo
  split
  · have hb : bolds (st.out ++ [plainSp s st.done b st.seen]) = st.seen := by rw [bolds_one, h.b]; simp [plainSp]
    refine ⟨h.s.snoc ?_, hb⟩
    rw [hb]
    simp [plainSp]
  · exact ⟨h.s, h.b⟩
theorem StOk.step {s : ByteArray} {p : Nat} {st : SpSt} {t : Tok} (h : StOk st) (ht : t.kind < 6) : StOk (stepTok s p st t) := by
  unfold stepTok
  split
  · exact h
  · obtain ⟨h1, h2⟩ := h.plain (s := s) t.from_
    have hk := spOf_kind s t ht
    have hb : bolds (plainTo s st t.from_ ++ [{ spOf s t with strong := decide (st.seen % 2 = 1 ∨ t.kind = 5) }]) = if t.kind = 5 then st.seen + 1 else st.seen := by
      rw [bolds_one, h2]
      simp only
      rw [hk]
      by_cases h5 : t.kind = 5
      · rw [if_pos (by omega), if_pos h5]
      · rw [if_neg (by omega), if_neg h5, Nat.add_zero]
    refine ⟨h1.snoc ?_, hb⟩
    rw [hb]
    simp only
    rw [hk]
    by_cases h5 : t.kind = 5
    · simp [h5]
    · have h7 : ¬ t.kind + 2 = 7 := by omega
      simp [h5, h7]
theorem StOk.fold {s : ByteArray} {p : Nat} : ∀ (l : List Tok) (st : SpSt), StOk st → (∀ t ∈ l, t.kind < 6) → StOk (l.foldl (stepTok s p) st)
  | [], _, h, _ => h
  | t :: l, st, h, hl => by
    rw [List.foldl_cons]
    exact StOk.fold l _ (h.step (hl t (List.mem_cons_self ..))) (fun t' h' => hl t' (List.mem_cons_of_mem _ h'))
theorem seen_fold {s : ByteArray} {p : Nat} : ∀ (l : List Tok) (st : SpSt), st.seen ≤ p → (l.foldl (stepTok s p) st).seen = min (st.seen + stars l) p
  | [], st, h => by simp [stars]; omega
  | t :: l, st, h => by
    rw [List.foldl_cons, stars_cons]
    have e : (stepTok s p st t).seen = min (st.seen + if t.kind = 5 then 1 else 0) p := by
      unfold stepTok
      split
      · rename_i hh
        rw [if_pos hh.1, hh.2]; omega
      · rename_i hh
        by_cases h5 : t.kind = 5
        · have : st.seen ≠ p := fun e => hh ⟨h5, e⟩
          simp only
          rw [if_pos h5, if_pos h5]; omega
        · simp only
          rw [if_neg h5, if_neg h5]; omega
    have h2 : (stepTok s p st t).seen ≤ p := by rw [e]; omega
    rw [seen_fold l _ h2, e]
    omega
theorem spans_strong (s : ByteArray) : StrongAll (spans s) ∧ bolds (spans s) % 2 = 0 := by
  have h0 : StOk ⟨[], 0, 0⟩ := ⟨fun pre x post e => by simp at e, rfl⟩
  have h1 : StOk (stAfter s (toks s)) := StOk.fold (toks s) _ h0 (fun t ht => toksF_kind s s.size 0 t ht)
  obtain ⟨h2, h3⟩ := h1.plain (s := s) s.size
  refine ⟨h2, ?_⟩
  have h4 : (stAfter s (toks s)).seen = min (0 + stars (toks s)) (partnersOf s) := seen_fold (toks s) ⟨[], 0, 0⟩ (Nat.zero_le _)
  have h5 : bolds (spans s) = (stAfter s (toks s)).seen := h3
  rw [h5, h4]
  unfold partnersOf
  omega

/-! ### The spans, put together -/
def covB (s : ByteArray) (x : Sp) : List UInt8 := (s.extract x.from_ x.to_).data.toList
def covL (s : ByteArray) (l : List Sp) : List UInt8 := l.flatMap (covB s)
theorem cov_row {s : ByteArray} : ∀ {a b : Nat} {l : List Sp}, SpRow s a l b → covL s l = (s.extract a b).data.toList
  | a, b, [], h => by have : a = b := h; subst this; simp [covL]
  | a, b, x :: r, h => by
    have h1 := h.1
    have h2 := h.2.1.lt
    have h3 := h.2.2.le
    unfold covL at *
    rw [List.flatMap_cons]
    have ih : r.flatMap (covB s) = (s.extract x.to_ b).data.toList := cov_row h.2.2
    rw [ih]
    unfold covB
    rw [h1]
    have := extract_join s (a := a) (b := x.to_) (c := b) (by omega) h3
    rw [← this, ByteArray.data_append, Array.toList_append]
theorem extract_all (s : ByteArray) : s.extract 0 s.size = s := by
  apply ByteArray.ext
  simp
theorem cov_all (s : ByteArray) : covL s (spans s) = s.data.toList := by rw [cov_row (spans_row s), extract_all]

/-! ### The parts, put together -/
def joinedB (l : List ByteArray) : List UInt8 := l.flatMap fun b => b.data.toList
structure CutOk (s : ByteArray) (c : Cut) : Prop where
  le : c.done ≤ s.size
  j : joinedB c.out = (s.extract 0 c.done).data.toList
theorem CutOk.cut {s : ByteArray} {c : Cut} (h : CutOk s c) {a : Nat} (ha : a ≤ s.size) : CutOk s (cutAt s c a) := by
  unfold cutAt
  split
  · refine ⟨ha, ?_⟩
    have hj := h.j
    unfold joinedB at hj ⊢
    rw [List.flatMap_append, hj, List.flatMap_singleton]
    have := extract_join s (a := 0) (b := c.done) (c := a) (Nat.zero_le _) (by omega)
    rw [← this, ByteArray.data_append, Array.toList_append]
  · exact h
theorem CutOk.all {s : ByteArray} : ∀ (l : List Sp) (c : Cut), CutOk s c → (∀ x ∈ l, SpIn s x) → CutOk s (l.foldl (cutSp s) c)
  | [], c, h, _ => h
  | x :: l, c, h, hl => by
    rw [List.foldl_cons]
    refine CutOk.all l _ ?_ (fun y hy => hl y (List.mem_cons_of_mem _ hy))
    have h1 := (hl x (List.mem_cons_self ..)).lt
    have h2 := (hl x (List.mem_cons_self ..)).hi
    unfold cutSp
    split
    · exact (h.cut (by omega)).cut h2
    · exact h
theorem parts_joined (s : ByteArray) : joinedB (partsOf s) = s.data.toList := by
  have h0 : CutOk s ⟨[], 0⟩ := ⟨Nat.zero_le _, by simp [joinedB]⟩
  have h1 : CutOk s (cutAll s (spans s)) := CutOk.all (spans s) _ h0 (spans_row s).mem
  have h2 := h1.cut (Nat.le_refl s.size)
  have h3 : (cutAt s (cutAll s (spans s)) s.size).done = s.size := by
    have := h1.le
    unfold cutAt
    split
    · rfl
    · omega
  have h4 := h2.j
  rw [h3, extract_all] at h4
  exact h4

/-! ### Sources -/
theorem from_shown {s : ByteArray} {x : Sp} (h : SpRef s x) (hi : SpIn s x) : shownB s x = (fromL x).map (fun k => s.data.toList.getD k.toNat 0) ∧ ∀ k ∈ fromL x, (x.from_ : Int) ≤ k ∧ k < x.to_ := by
  have h1 := h.sz; have h2 := h.str; have h3 := hi.lo; have h4 := hi.le; have h5 := hi.up; have h6 := hi.hi
  have hz : (refStr x).size = (shTo x).toNat - (shFrom x).toNat := by omega
  constructor
  · unfold shownB fromL
    apply List.ext_getElem
    · rw [List.length_map, List.length_map, List.length_range, Array.length_toList]
      show (s.extract (shFrom x).toNat (shTo x).toNat).size = _
      rw [← h2]
    · intro i g1 g2
      rw [List.length_map, List.length_map, List.length_range] at g2
      have hf := h.fr (by omega)
      rw [List.getElem_map, List.getElem_map, List.getElem_range]
      have e : ((refFrom x + i : Nat) : Int).toNat = (shFrom x).toNat + i := by omega
      rw [e]
      have hlt : (shFrom x).toNat + i < s.data.toList.length := by rw [Array.length_toList]; show _ < s.size; omega
      rw [List.getD_eq_getElem?_getD, List.getElem?_eq_getElem hlt]
      simp only [Option.getD_some]
      have e2 : (s.extract (shFrom x).toNat (shTo x).toNat).data.toList = (s.data.toList.drop (shFrom x).toNat).take ((shTo x).toNat - (shFrom x).toNat) := by rw [Lib.extract_eq]
      have e3 : (s.extract (shFrom x).toNat (shTo x).toNat).data.toList[i]? = some (s.data.toList[(shFrom x).toNat + i]'hlt) := by
        rw [e2, List.getElem?_take, if_pos (by omega), List.getElem?_drop, List.getElem?_eq_getElem hlt]
      rw [List.getElem?_eq_getElem g1] at e3
      exact Option.some.inj e3
  · intro k hk
    unfold fromL at hk
    obtain ⟨i, hi2, rfl⟩ := List.mem_map.1 hk
    have hi3 := List.mem_range.1 hi2
    have hf := h.fr (by omega)
    omega
theorem shown_from (s : ByteArray) : ∀ l : List Sp, (∀ x ∈ l, SpRef s x) → (∀ x ∈ l, SpIn s x) → shownL s l = (allL l).map (fun k => s.data.toList.getD k.toNat 0)
  | [], _, _ => rfl
  | x :: l, h1, h2 => by
    have ih := shown_from s l (fun y hy => h1 y (List.mem_cons_of_mem _ hy)) (fun y hy => h2 y (List.mem_cons_of_mem _ hy))
    have e : shownL s (x :: l) = shownB s x ++ shownL s l := by unfold shownL; rw [List.flatMap_cons]
    rw [e, ih, (from_shown (h1 x (List.mem_cons_self ..)) (h2 x (List.mem_cons_self ..))).1, allL_cons, List.map_append]
theorem from_rise (x : Sp) : (fromL x).Pairwise (· < ·) := by
  unfold fromL
  rw [List.pairwise_map]
  exact List.pairwise_lt_range.imp (fun h => by omega)
theorem all_rise {s : ByteArray} : ∀ {a b : Nat} {l : List Sp}, SpRow s a l b → (∀ x ∈ l, SpRef s x) → (allL l).Pairwise (· < ·) ∧ ∀ k ∈ allL l, (a : Int) ≤ k ∧ k < b
  | a, b, [], _, _ => ⟨List.Pairwise.nil, fun k hk => by cases hk⟩
  | a, b, x :: r, h, hr => by
    obtain ⟨i1, i2⟩ := all_rise h.2.2 (fun y hy => hr y (List.mem_cons_of_mem _ hy))
    obtain ⟨-, f2⟩ := from_shown (hr x (List.mem_cons_self ..)) h.2.1
    have h1 := h.1
    have h3 := h.2.2.le
    have h4 := h.2.1.lt
    rw [allL_cons]
    constructor
    · rw [List.pairwise_append]
      refine ⟨from_rise x, i1, fun k hk m hm => ?_⟩
      have := f2 k hk
      have := i2 m hm
      omega
    · intro k hk
      rcases List.mem_append.1 hk with hk | hk
      · have := f2 k hk; omega
      · have := i2 k hk; omega
/-- The sources of a string: of each byte that is shown, and the end. -/
def srcs (s : ByteArray) : List Int := allL (spans s) ++ [(s.size : Int)]
theorem srcs_rise (s : ByteArray) : (srcs s).Pairwise (· < ·) ∧ (allL (spans s)).length = (shownL s (spans s)).length ∧ (∀ k ∈ allL (spans s), 0 ≤ k ∧ k < s.size) ∧
    ∀ i, i < (allL (spans s)).length → (shownL s (spans s)).getD i 0 = s.data.toList.getD ((allL (spans s)).getD i 0).toNat 0 := by
  obtain ⟨h1, h2⟩ := all_rise (spans_row s) (spans_ref s)
  have h3 := shown_from s (spans s) (spans_ref s) (spans_row s).mem
  refine ⟨?_, by rw [h3, List.length_map], fun k hk => by have := h2 k hk; omega, fun i hi => ?_⟩
  · unfold srcs
    rw [List.pairwise_append]
    refine ⟨h1, List.pairwise_singleton _ _, fun k hk m hm => ?_⟩
    rw [List.mem_singleton] at hm
    subst hm
    have := h2 k hk
    omega
  · rw [h3, List.getD_eq_getElem?_getD, List.getElem?_map, List.getElem?_eq_getElem hi]
    have e : (allL (spans s)).getD i 0 = (allL (spans s))[i] := by rw [List.getD_eq_getElem?_getD, List.getElem?_eq_getElem hi]; rfl
    rw [e]
    rfl
end Go.Proofs.YtjfpaahidfhkoaaDoor
