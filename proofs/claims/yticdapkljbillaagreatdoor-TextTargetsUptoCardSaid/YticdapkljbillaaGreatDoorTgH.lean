/- Renumber: what it gives (pure); the table that Itoa reads. -/
import Derived.Test.YticdapkljbillaaGreatDoorTgE
import Derived.Test.YticdapkljbillaaGreatDoorTgG
import Derived.Test.YticdapkljbillaaGreatDoorSpI
import Derived.Lib.ItoaNum
import Derived.Lib.LaidTab
import Derived.WalkKit
import Derived.Lib.Hide
import Derived.Outline
namespace Go.Proofs.YticdapkljbillaaGreatDoor
open Go.RowKit

/-- What is written of a span. -/
def rnB (f : Int → Option Int) (s : ByteArray) (x : Sp) : ByteArray :=
  if x.kind = 5 then
    match f x.id with
    | some n => ⟨#[40, 40]⟩ ++ dec n.toNat ++ ⟨#[41, 41]⟩
    | none => s.extract x.from_ x.to_
  else s.extract x.from_ x.to_
def rnL (f : Int → Option Int) (s : ByteArray) (l : List Sp) : List UInt8 := l.flatMap fun x => (rnB f s x).data.toList
theorem rnL_snoc (f : Int → Option Int) (s : ByteArray) (l : List Sp) (x : Sp) : rnL f s (l ++ [x]) = rnL f s l ++ (rnB f s x).data.toList := by
  unfold rnL; rw [List.flatMap_append, List.flatMap_singleton]
/-- Numbers that can be written. -/
def okTs (ts : List Int) : Bool := ts.all fun n => decide (1 ≤ n ∧ n ≤ 1000000)
def Small (f : Int → Option Int) : Prop := ∀ n m, f n = some m → 1 ≤ m ∧ m ≤ 1000000
theorem nxt_small {fs ts : List Int} (h : okTs ts = true) : Small (nxt (prs fs ts)) := by
  intro n m hm
  obtain ⟨p, hp, rfl⟩ := nxt_mem hm
  have h2 : p.2 ∈ ts := (List.of_mem_zip (show (p.1, p.2) ∈ fs.zip ts from hp)).2
  have := List.all_eq_true.1 h _ h2
  simpa using this
theorem rnB_yes {f : Int → Option Int} {s : ByteArray} {x : Sp} {n : Int} (h : x.kind = 5) (hf : f x.id = some n) : rnB f s x = ⟨#[40, 40]⟩ ++ dec n.toNat ++ ⟨#[41, 41]⟩ := by
  unfold rnB; rw [if_pos h, hf]
theorem rnB_none {f : Int → Option Int} {s : ByteArray} {x : Sp} (hf : f x.id = none) : rnB f s x = s.extract x.from_ x.to_ := by
  unfold rnB; rw [hf]; simp
theorem rnB_no {f : Int → Option Int} {s : ByteArray} {x : Sp} (h : x.kind ≠ 5) : rnB f s x = s.extract x.from_ x.to_ := by
  unfold rnB; rw [if_neg h]
theorem dec_seven {n : Int} (h1 : 1 ≤ n) (h2 : n ≤ 1000000) : (dec n.toNat).size ≤ 7 := dec_size (k := 6) (by omega)
theorem par_size (t : ByteArray) : ((⟨#[40, 40]⟩ : ByteArray) ++ t ++ ⟨#[41, 41]⟩).size = t.size + 4 := by
  rw [ByteArray.size_append, ByteArray.size_append]
  show 2 + t.size + 2 = _
  omega
theorem rnB_size {f : Int → Option Int} (hf : Small f) {s : ByteArray} {x : Sp} (h : x.from_ < x.to_) : (rnB f s x).size ≤ 11 * (x.to_ - x.from_) := by
  have hx : (s.extract x.from_ x.to_).size ≤ 11 * (x.to_ - x.from_) := by rw [ByteArray.size_extract]; omega
  by_cases hk : x.kind = 5
  · cases hn : f x.id with
    | none => rw [rnB_none hn]; exact hx
    | some n =>
      rw [rnB_yes hk hn, par_size]
      have h1 := hf _ _ hn
      have := dec_seven h1.1 h1.2
      omega
  · rw [rnB_no hk]; exact hx
theorem SpRow.rn {f : Int → Option Int} (hf : Small f) {s : ByteArray} : ∀ {a b : Nat} {l : List Sp}, SpRow s a l b → 11 * a + (rnL f s l).length ≤ 11 * b
  | a, b, [], h => by have : a = b := h; simp [rnL, this]
  | a, b, x :: r, h => by
    have h1 := SpRow.rn hf h.2.2
    have h2 := h.2.1.lt
    have h3 := h.1
    have h4 := rnB_size hf (s := s) h2
    have e : (rnB f s x).data.toList.length = (rnB f s x).size := by rw [Array.length_toList]; rfl
    unfold rnL at h1 ⊢
    rw [List.flatMap_cons, List.length_append]
    omega
theorem rn_le {f : Int → Option Int} (hf : Small f) (s : ByteArray) : ∀ pre post, spans s = pre ++ post → (rnL f s pre).length ≤ 11 * s.size := by
  intro pre post h
  have hr := spans_row s
  rw [h] at hr
  obtain ⟨c, h1, h2⟩ := hr.cut
  have := h1.rn hf
  have := h2.le
  omega
/-- What Renumber gives. -/
def rnRes (s : ByteArray) (fs ts : List Int) : ByteArray × Int :=
  if fs.length ≠ ts.length then (⟨#[]⟩, 1) else if okTs ts = false then (⟨#[]⟩, 2) else if 2000 < (rnL (nxt (prs fs ts)) s (spans s)).length then (⟨#[]⟩, 4)
  else (⟨(rnL (nxt (prs fs ts)) s (spans s)).toArray⟩, 0)
theorem rn_form {s : ByteArray} {fs ts : List Int} (h : fs.length ≠ ts.length) : rnRes s fs ts = (⟨#[]⟩, 1) := by unfold rnRes; rw [if_pos h]
theorem rn_range {s : ByteArray} {fs ts : List Int} (h : fs.length = ts.length) (h1 : okTs ts = false) : rnRes s fs ts = (⟨#[]⟩, 2) := by unfold rnRes; rw [if_neg (by simpa using h), if_pos h1]
theorem rn_large {s : ByteArray} {fs ts : List Int} (h : fs.length = ts.length) (h1 : okTs ts = true) (h2 : 2000 < (rnL (nxt (prs fs ts)) s (spans s)).length) : rnRes s fs ts = (⟨#[]⟩, 4) := by
  unfold rnRes; rw [if_neg (by simpa using h), if_neg (by simp [h1]), if_pos h2]
theorem rn_ok {s : ByteArray} {fs ts : List Int} (h : fs.length = ts.length) (h1 : okTs ts = true) (h2 : ¬ 2000 < (rnL (nxt (prs fs ts)) s (spans s)).length) : rnRes s fs ts = (⟨(rnL (nxt (prs fs ts)) s (spans s)).toArray⟩, 0) := by
  unfold rnRes; rw [if_neg (by simpa using h), if_neg (by simp [h1]), if_neg h2]
theorem okTs_false {ts : List Int} {k : Nat} (hk : k < ts.length) (h : ts.getD k 0 < 1 ∨ 1000000 < ts.getD k 0) : okTs ts = false := by
  unfold okTs
  rw [List.all_eq_false]
  have h2 : ¬ (1 ≤ ts.getD k 0 ∧ ts.getD k 0 ≤ 1000000) := by omega
  exact ⟨_, getD_mem hk, by rw [decide_eq_false h2]; simp⟩
theorem okTs_true {ts : List Int} (h : ∀ k, k < ts.length → 1 ≤ ts.getD k 0 ∧ ts.getD k 0 ≤ 1000000) : okTs ts = true := by
  unfold okTs
  rw [List.all_eq_true]
  intro n hn
  obtain ⟨k, hk, rfl⟩ := List.getElem_of_mem hn
  have := h k hk
  rw [List.getD_eq_getElem?_getD, List.getElem?_eq_getElem hk] at this
  simpa using this
theorem itoa_dec {n : Int} (h : 0 ≤ n) : (⟨(Lib.itoa n).toArray⟩ : ByteArray) = dec n.toNat := by
  unfold Lib.itoa dec; rw [if_neg (by omega)]

theorem tab_name : Tryz.prog.globalNamed "internal/strconv.uint64pow10" = some 1 := by kernel_rfl
def Tab (w : World) : Prop := Lib.TabIs Tryz.prog w "internal/strconv.uint64pow10" .u64 Lib.pow10Tab
theorem Tab.kept {w w' : World} (h : Tab w) (hb : w'.heap[1]? = w.heap[1]?) : Tab w' := by
  unfold Tab Lib.TabIs World.var? at h ⊢
  rw [tab_name] at h ⊢
  simp only [Option.bind_some] at h ⊢
  rw [hb]; exact h
theorem Tab.lt {w : World} (h : Tab w) : 1 < w.heap.size := by
  unfold Tab Lib.TabIs World.var? at h
  rw [tab_name] at h
  simp only [Option.bind_some] at h
  cases hx : w.heap[1]? with
  | none => rw [hx] at h; cases h
  | some o => exact lt_of_blk hx
end Go.Proofs.YticdapkljbillaaGreatDoor
