/- strings.Join of the parts; the first loop of TopText: what holds at the head of each round. -/
import Derived.Test.YtjfpaahidfhkoaaDoorTtB
import Derived.Test.YtjfpaahidfhkoaaDoorTxN
import Derived.Test.YtjfpaahidfhkoaaDoorShelfC
import Derived.WalkKit
import Derived.Lib.Hide
import Derived.Outline
namespace Go.Proofs.YtjfpaahidfhkoaaDoor
open Go.RowKit

theorem join_empty : ∀ l : List (List UInt8), Lib.join l [] = l.flatten
  | [] => rfl
  | [x] => by simp [Lib.join, List.intercalate]
  | x :: y :: l => by
    have h := join_empty (y :: l)
    unfold Lib.join List.intercalate at *
    rw [List.flatten_cons, ← h, List.intersperse_cons_cons]
    simp
theorem parts_join (s : ByteArray) : (⟨(Lib.join ((partsOf s).map (·.data.toList)) []).toArray⟩ : ByteArray) = s := by
  rw [join_empty]
  have h := parts_joined s
  unfold joinedB at h
  rw [List.flatMap_def] at h
  rw [h]
theorem joinParts_any {b : Nat} (s : ByteArray) (v : Value) (w : World) (hs : s.size ≤ 1048576) (h : w.ownsRow b 9 1 v (strs (partsOf s)).length (strs (partsOf s))) :
    Calls Tryd.prog 15 #[v, .string ⟨#[]⟩] w (Quiet w (.string s)) := by
  rw [strs_len] at h
  obtain ⟨a, c, rfl, g⟩ := own_slice h (by omega)
  have hj := parts_join s
  by_cases h0 : (partsOf s).length = 0
  · have hn : partsOf s = [] := List.length_eq_zero_iff.1 h0
    rw [h0]
    rw [hn] at hj
    refine (Tryd.strings_Join_none a c ⟨#[]⟩ w).mono ?_
    rintro e w' ⟨rfl, rfl⟩
    exact ⟨by rw [← hj]; rfl, Below.refl _ _⟩
  · obtain ⟨n, rfl, g1, g2⟩ := g (by omega)
    have hlt := (h.lt n rfl).2
    have hl : (partsOf s).length ≤ 140737488355328 := by
      have hp := cutAll_pre (s := s) (done := spans s) (post := []) (by simp)
      have := cutAt_le1 s (cutAll s (spans s)) s.size
      unfold partsOf
      omega
    have hcells : ∀ (j : Nat) x, (partsOf s)[j]? = some x → w.cell? ⟨n, 0 + j, none⟩ = some (.string x) := by
      intro j x hx
      have hj2 := (List.getElem?_eq_some_iff.1 hx).1
      have e1 := h.cellAt j (by omega)
      rw [Nat.zero_add, e1]
      unfold strs
      rw [List.getElem?_map, hx]
      rfl
    refine (Tryd.strings_Join n 0 c (partsOf s) ⟨#[]⟩ w hcells hlt hl g1 ?_).mono ?_
    · have := congrArg ByteArray.size hj
      have e : (⟨(Lib.join ((partsOf s).map (·.data.toList)) []).toArray⟩ : ByteArray).size = (Lib.join ((partsOf s).map (·.data.toList)) []).length := by simp [ByteArray.size]
      show (Lib.join ((partsOf s).map (·.data.toList)) []).length ≤ _
      omega
    · rintro e w' ⟨rfl, hb⟩
      refine ⟨?_, hb⟩
      have e : (⟨(Lib.join ((partsOf s).map (·.data.toList)) (⟨#[]⟩ : ByteArray).data.toList).toArray⟩ : ByteArray) = s := hj
      rw [e]

/-- At the head of each round of the first loop. -/
structure TtRow (s : ByteArray) (w0 w2 : World) (B j a nb : Nat) (wr : World) : Prop where
  le : j ≤ (spans s).length
  row : SpRow s a ((spans s).drop j) s.size
  nb : nb = bolds ((spans s).take j)
  bld : ∃ F, Bld B (Lib.byteCells (covL s ((spans s).take j))) F wr ∧ ∀ k, F k → k = B ∨ w2.heap.size ≤ k
  out : Out (fun k => k = B) w2 wr
  bel : Below w0.heap.size w0 wr
theorem cov_snoc {s : ByteArray} {j : Nat} (h : j < (spans s).length) : covL s ((spans s).take (j + 1)) = covL s ((spans s).take j) ++ covB s (spans s)[j] := by
  rw [List.take_succ_eq_append_getElem h]
  unfold covL
  rw [List.flatMap_append, List.flatMap_singleton]
theorem cov_len (s : ByteArray) (j : Nat) : (covL s ((spans s).take j)).length ≤ s.size := by
  have hr := spans_row s
  rw [← List.take_append_drop j (spans s)] at hr
  obtain ⟨c, h1, h2⟩ := hr.cut
  have h3 := h2.le
  rw [cov_row h1, Array.length_toList]
  show (s.extract 0 c).size ≤ _
  rw [ByteArray.size_extract]; omega
theorem nb_take {s : ByteArray} {j : Nat} (h : j < (spans s).length) : bolds ((spans s).take (j + 1)) = bolds ((spans s).take j) + if (spans s)[j].kind = 7 then 1 else 0 := by
  rw [List.take_succ_eq_append_getElem h, bolds_one]
theorem strong_at {s : ByteArray} {j : Nat} (h : j < (spans s).length) : (spans s)[j].strong = decide ((spans s)[j].kind = 7 ∨ bolds ((spans s).take (j + 1)) % 2 = 1) := by
  have e : spans s = (spans s).take j ++ (spans s)[j] :: (spans s).drop (j + 1) := by rw [List.getElem_cons_drop]; exact (List.take_append_drop j _).symm
  rw [List.take_succ_eq_append_getElem h]
  exact (spans_strong s).1 _ _ _ e
theorem drop_at {s : ByteArray} {a j : Nat} (h : j < (spans s).length) (hr : SpRow s a ((spans s).drop j) s.size) : (spans s)[j].from_ = a ∧ SpIn s (spans s)[j] ∧ SpRow s (spans s)[j].to_ ((spans s).drop (j + 1)) s.size := by
  rw [← List.getElem_cons_drop h] at hr
  exact hr
theorem bolds_take_le (s : ByteArray) (j : Nat) : bolds ((spans s).take j) ≤ s.size := by
  have h1 := bolds_le ((spans s).take j)
  have h2 := List.length_take_le' j (spans s)
  have h3 := spans_len s
  omega
end Go.Proofs.YtjfpaahidfhkoaaDoor
