/- Package text: pure facts on spans. -/
import Derived.Test.YtdhaanlgijikeaaDoorTyD
import Derived.Test.YtdhaanlgijikeaaDoorTxN
import Derived.BigRegion
import Derived.Deep.WholeRow
import Derived.Deep.CutBlock
import Derived.Deep.DeepCutAuto
import Derived.Deep.LoopGhost
import Derived.IntWalk
import Derived.WalkMore
namespace Go.Proofs.YtdhaanlgijikeaaDoor
open Go.RowKit
theorem spOf_to (s : ByteArray) (t : Tok) : (spOf s t).to_ = t.to_ ∧ (spOf s t).from_ = t.from_ := by unfold spOf; repeat' split
                                                                                                      all_goals exact ⟨rfl, rfl⟩
theorem spOf_kind (s : ByteArray) (t : Tok) (h : t.kind < 6) : (spOf s t).kind = t.kind + 2 := by
  unfold spOf
  rcases (by omega : t.kind = 0 ∨ t.kind = 1 ∨ t.kind = 2 ∨ t.kind = 3 ∨ t.kind = 4 ∨ t.kind = 5) with e | e | e | e | e | e <;> simp [e]
theorem toksF_hit (s : ByteArray) : ∀ (n a : Nat), ∀ t ∈ toksF s n a, t.from_ < s.size ∧ firstK (hit s t.from_) 6 0 = some t.kind ∧ t.to_ = tokEnd s t.from_ t.kind
  | 0, _, t, h => by simp [toksF] at h
  | n + 1, a, t, h => by
    unfold toksF at h
    split at h
    · rename_i ha
      split at h
      · rename_i k hk
        rcases List.mem_cons.1 h with rfl | h
        · exact ⟨ha, hk, rfl⟩
        · exact toksF_hit s n _ t h
      · exact toksF_hit s n _ t h
    · simp at h
theorem fold_all {s : ByteArray} {p : Nat} {P : Sp → Prop} (hp : ∀ a b n, a < b → b ≤ s.size → P (plainSp s a b n)) :
    ∀ (l : List Tok) (st : SpSt), (∀ t ∈ l, t.from_ ≤ s.size ∧ ∀ b, P { spOf s t with strong := b }) → (∀ x ∈ st.out, P x) → ∀ x ∈ (l.foldl (stepTok s p) st).out, P x
  | [], st, _, h, x, hx => h x hx
  | t :: r, st, ht, h, x, hx => by
    rw [List.foldl_cons] at hx
    refine fold_all hp r _ (fun t' h' => ht t' (List.mem_cons_of_mem _ h')) ?_ x hx
    obtain ⟨h1, h2⟩ := ht t (List.mem_cons_self ..)
    unfold stepTok
    split
    · exact h
    · intro y hy
      rcases List.mem_append.1 hy with hy | hy
      · unfold plainTo at hy
        split at hy
        · rcases List.mem_append.1 hy with hy | hy
          · exact h y hy
          · simp only [List.mem_singleton] at hy
            rw [hy]; exact hp _ _ _ (by assumption) h1
        · exact h y hy
      · simp only [List.mem_singleton] at hy
        rw [hy]; exact h2 _
theorem spans_all {s : ByteArray} {P : Sp → Prop} (hp : ∀ a b n, a < b → b ≤ s.size → P (plainSp s a b n)) (ht : ∀ t ∈ toks s, ∀ b, P { spOf s t with strong := b }) : ∀ x ∈ spans s, P x := by
  have h1 := fold_all (p := partnersOf s) hp (toks s) ⟨[], 0, 0⟩ (fun t h => ⟨Nat.le_of_lt (toksF_hit s s.size 0 t h).1, ht t h⟩) (fun x hx => by cases hx)
  intro x hx
  unfold spans plainTo at hx
  split at hx
  · rcases List.mem_append.1 hx with hx | hx
    · exact h1 x hx
    · simp only [List.mem_singleton] at hx
      rw [hx]; exact hp _ _ _ (by assumption) (Nat.le_refl _)
  · exact h1 x hx
theorem sp_len {s : ByteArray} : ∀ {a b : Nat} {l : List Sp}, SpRow s a l b → l.length + a ≤ b
  | a, b, [], h => by have : a = b := h; simp; omega
  | a, b, x :: r, h => by
    have h1 := sp_len h.2.2
    have h2 := h.2.1.lt
    have h3 := h.1
    simp only [List.length_cons]; omega
theorem sps_len (s : ByteArray) : (spans s).length ≤ s.size := by have := sp_len (spans_row s); omega
theorem sps_in (s : ByteArray) : ∀ x ∈ spans s, SpIn s x := (spans_row s).mem
theorem ret_pair {a b : ByteArray} {c d : Int} (h1 : a = b) (h2 : c = d) : Ending.returned (.tuple #[.string a, .int .i64 c]) = .returned (.tuple #[.string b, .int .i64 d]) := by rw [h1, h2]
theorem cut_len {s : ByteArray} {done post : List Sp} {x : Sp} (ha : spans s = done ++ x :: post) : done.length + 1 ≤ s.size := by
  have hc := spans_count (spans_row s)
  rw [ha, List.length_append, List.length_cons] at hc
  omega
end Go.Proofs.YtdhaanlgijikeaaDoor
