/- Package text: spans lie one behind the other; what is shown of each lies within it. -/
import Derived.Test.YtdhaanlgijikeaaDoorTxM
import Derived.WalkKit
import Derived.Lib.Hide
namespace Go.Proofs.YtdhaanlgijikeaaDoor
open Go.RowKit

/-- Tokens lie one behind the other, from a on. -/
def Row (a : Nat) : List Tok → Prop
  | [] => True
  | t :: r => a ≤ t.from_ ∧ t.from_ < t.to_ ∧ Row t.to_ r
theorem Row.mono {a b : Nat} {l : List Tok} (h : Row b l) (hab : a ≤ b) : Row a l := by
  cases l with
  | nil => trivial
  | cons t r => exact ⟨Nat.le_trans hab h.1, h.2⟩
theorem toksF_row (s : ByteArray) : ∀ (n a : Nat), Row a (toksF s n a)
  | 0, a => by simp [toksF, Row]
  | n + 1, a => by
    unfold toksF
    split
    · split
      · rename_i k hk
        exact ⟨Nat.le_refl _, hit_lt (firstK_hit hk).1, toksF_row s n _⟩
      · exact (toksF_row s n (a + 1)).mono (Nat.le_succ a)
    · trivial

/-- What is known of a span. -/
structure SpIn (s : ByteArray) (x : Sp) : Prop where
  lt : x.from_ < x.to_
  hi : x.to_ ≤ s.size
  text : x.text.size ≤ s.size
  shw : x.shw.size ≤ s.size
  lo : (x.from_ : Int) ≤ shFrom x
  le : shFrom x ≤ shTo x
  up : shTo x ≤ x.to_
theorem SpIn.ok {s : ByteArray} {x : Sp} (h : SpIn s x) (hs : s.size ≤ 4000000000) : SpOk s x := by
  have h1 := h.lt; have h2 := h.hi; have h3 := h.text; have h4 := h.shw; have h5 := h.lo; have h6 := h.le; have h7 := h.up
  exact ⟨by omega, by omega, by omega, by omega, by omega, h6, by omega⟩

theorem cut_sizes (t : ByteArray) : (cutL t).size ≤ t.size ∧ (cutR t).size ≤ t.size := by
  unfold cutL cutR
  constructor
  · split
    · rw [ByteArray.size_extract]; omega
    · exact Nat.le_refl _
  · split
    · rw [ByteArray.size_extract]; omega
    · exact Nat.zero_le _
theorem tokSp_in {s : ByteArray} {st : SpSt} {t : Tok} (h : TokOk s t) : SpIn s (tokSp s st t) ∧ (tokSp s st t).from_ = t.from_ ∧ (tokSp s st t).to_ = t.to_ := by
  have h1 := h.lt; have h2 := h.le; have h3 := h.two; have h4 := h.kind
  have hc := cut_sizes (s.extract (t.from_ + 2) (t.to_ - 2))
  rw [ByteArray.size_extract] at hc
  have hk : t.kind = 0 ∨ t.kind = 1 ∨ t.kind = 2 ∨ t.kind = 3 ∨ t.kind = 4 ∨ t.kind = 5 := by omega
  rcases hk with hk | hk | hk | hk | hk | hk <;>
    (refine ⟨⟨?_, ?_, ?_, ?_, ?_, ?_, ?_⟩, ?_, ?_⟩ <;> simp [tokSp, spOf, hk, shFrom, shTo] <;> (try split) <;> (try omega) <;> (try exact Nat.zero_le _))

theorem plainSp_in {s : ByteArray} {a b n : Nat} (h1 : a < b) (h2 : b ≤ s.size) : SpIn s (plainSp s a b n) := by
  refine ⟨h1, h2, ?_, ?_, ?_, ?_, ?_⟩ <;> simp [plainSp, shFrom, shTo] <;> first | omega | exact Nat.zero_le _

/-- Spans lie one behind the other from a up to b. -/
def SpRow (s : ByteArray) (a : Nat) : List Sp → Nat → Prop
  | [], b => a = b
  | x :: r, b => x.from_ = a ∧ SpIn s x ∧ SpRow s x.to_ r b
theorem SpRow.snoc {s : ByteArray} {x : Sp} : ∀ {a b : Nat} {l : List Sp}, SpRow s a l b → x.from_ = b → SpIn s x → SpRow s a (l ++ [x]) x.to_
  | a, b, [], h, h1, h2 => ⟨by rw [h1]; exact h.symm, h2, rfl⟩
  | a, b, y :: r, h, h1, h2 => ⟨h.1, h.2.1, h.2.2.snoc h1 h2⟩
theorem SpRow.mem {s : ByteArray} : ∀ {a b : Nat} {l : List Sp}, SpRow s a l b → ∀ x ∈ l, SpIn s x
  | a, b, [], h, x, hx => by simp at hx
  | a, b, y :: r, h, x, hx => by
    rcases List.mem_cons.1 hx with rfl | hx
    · exact h.2.1
    · exact h.2.2.mem x hx
theorem SpRow.cut {s : ByteArray} {m : List Sp} : ∀ {a b : Nat} {l : List Sp}, SpRow s a (l ++ m) b → ∃ c, SpRow s a l c ∧ SpRow s c m b
  | a, b, [], h => ⟨a, rfl, h⟩
  | a, b, y :: r, h => by
    obtain ⟨c, h1, h2⟩ := SpRow.cut (l := r) h.2.2
    exact ⟨c, ⟨h.1, h.2.1, h1⟩, h2⟩
theorem SpRow.le {s : ByteArray} : ∀ {a b : Nat} {l : List Sp}, SpRow s a l b → a ≤ b
  | a, b, [], h => Nat.le_of_eq h
  | a, b, y :: r, h => by
    have := h.2.2.le
    have := h.2.1.lt
    have := h.1
    omega
theorem SpRow.shown {s : ByteArray} : ∀ {a b : Nat} {l : List Sp}, SpRow s a l b → a + (shownL s l).length ≤ b
  | a, b, [], h => by
    have : a = b := h
    simp [shownL, this]
  | a, b, y :: r, h => by
    have h1 := h.2.2.shown
    have h2 := h.2.1.lo
    have h3 := h.2.1.le
    have h4 := h.2.1.up
    have h5 := h.2.1.lt
    have h6 := h.1
    have e : (shownL s (y :: r)).length = (shownB s y).length + (shownL s r).length := by simp [shownL]
    have e2 : (shownB s y).length ≤ (shTo y).toNat - (shFrom y).toNat := by
      unfold shownB
      have : (s.extract (shFrom y).toNat (shTo y).toNat).data.toList.length = (s.extract (shFrom y).toNat (shTo y).toNat).size := by rw [Array.length_toList]; rfl
      rw [this, ByteArray.size_extract]
      omega
    rw [e]
    omega

theorem plainTo_row {s : ByteArray} {st : SpSt} {b : Nat} (h : SpRow s 0 st.out st.done) (h1 : st.done ≤ b) (h2 : b ≤ s.size) : SpRow s 0 (plainTo s st b) b := by
  unfold plainTo
  split
  · rename_i hlt
    exact h.snoc (x := plainSp s st.done b st.seen) rfl (plainSp_in hlt h2)
  · have : st.done = b := by omega
    rw [← this]
    exact h
theorem fold_row {s : ByteArray} {p : Nat} : ∀ (l : List Tok) (st : SpSt), Row st.done l → (∀ t ∈ l, TokOk s t) → SpRow s 0 st.out st.done → st.done ≤ s.size →
    SpRow s 0 (l.foldl (stepTok s p) st).out (l.foldl (stepTok s p) st).done ∧ (l.foldl (stepTok s p) st).done ≤ s.size
  | [], st, _, _, h, hd => ⟨h, hd⟩
  | t :: r, st, hr, hok, h, hd => by
    rw [List.foldl_cons]
    have ht := hok t (by simp)
    obtain ⟨i1, i2, i3⟩ := tokSp_in (st := st) ht
    by_cases hn : t.kind = 5 ∧ st.seen = p
    · rw [stepTok_no hn]
      exact fold_row r st (hr.2.2.mono (by have := hr.1; have := hr.2.1; omega)) (fun x hx => hok x (by simp [hx])) h hd
    · rw [stepTok_yes hn]
      refine fold_row r _ hr.2.2 (fun x hx => hok x (by simp [hx])) ?_ ht.le
      have hp := plainTo_row h hr.1 (by have := ht.lt; have := ht.le; omega)
      have := hp.snoc i2 i1
      rw [i3] at this
      exact this
theorem spans_row (s : ByteArray) : SpRow s 0 (spans s) s.size := by
  obtain ⟨h1, h2⟩ := fold_row (s := s) (p := partnersOf s) (toks s) ⟨[], 0, 0⟩ (toksF_row s s.size 0) (fun t ht => toksF_ok s s.size 0 t ht) rfl (Nat.zero_le _)
  exact plainTo_row h1 h2 (Nat.le_refl _)
theorem spans_ok {s : ByteArray} (hs : s.size ≤ 4000000000) : ∀ x ∈ spans s, SpOk s x := fun x hx => ((spans_row s).mem x hx).ok hs
theorem shown_le (s : ByteArray) : ∀ pre post, spans s = pre ++ post → (shownL s pre).length ≤ s.size := by
  intro pre post h
  have hr := spans_row s
  rw [h] at hr
  obtain ⟨c, h1, h2⟩ := hr.cut
  have := h1.shown
  have := h2.le
  omega
/-- What is shown of a string, for every string. -/
theorem plainOf_all (s : ByteArray) (w : World) (hs : s.size ≤ 4000000000) :
    Calls Tryd.prog 7 #[.string s] w (Quiet w (.string ⟨(shownL s (spans s)).toArray⟩)) := plainOf_any s w hs (spans_ok hs) (shown_le s)
end Go.Proofs.YtdhaanlgijikeaaDoor
