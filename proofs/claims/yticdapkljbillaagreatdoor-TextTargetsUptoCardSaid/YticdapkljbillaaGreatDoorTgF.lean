/- firstOf: a map from the numbers of one list to those of another. -/
import Derived.Test.YticdapkljbillaaGreatDoorTxA
import Derived.Maps.OwnOps
import Derived.Maps.OwnSet
import Derived.Maps.Views
import Derived.WalkKit
import Derived.Lib.Hide
import Derived.Outline
import Derived.Below
namespace Go.Proofs.YticdapkljbillaaGreatDoor
open Go.RowKit Go.Maps

/-- The number of the second list at the place where the first one has n first. -/
def nxt (l : List (Int × Int)) (n : Int) : Option Int := (l.find? fun p => p.1 == n).map Prod.snd
theorem nxt_snoc (l : List (Int × Int)) (p : Int × Int) (n : Int) : nxt (l ++ [p]) n = (nxt l n).or (if p.1 = n then some p.2 else none) := by
  unfold nxt
  rw [List.find?_append]
  cases h : List.find? (fun p => p.1 == n) l with
  | some q => simp
  | none =>
    by_cases hp : p.1 = n
    · simp [List.find?_cons, hp]
    · have : (p.1 == n) = false := by simpa using hp
      simp [List.find?_cons, hp, this]
theorem nxt_mem {l : List (Int × Int)} {n m : Int} (h : nxt l n = some m) : ∃ p ∈ l, p.2 = m := by
  unfold nxt at h
  cases hf : List.find? (fun p => p.1 == n) l with
  | none => rw [hf] at h; cases h
  | some q =>
    rw [hf] at h
    exact ⟨q, List.mem_of_find?_eq_some hf, by simpa using h⟩

def intK (n : Int) : Lit := .int .i64 n
/-- A map that has for each number what f has. -/
structure MapIs (D : DataW Unit) (f : Int → Option Int) : Prop where
  isMap : IsMap D
  none_ : ∀ n, f n = none → has D (intK n) = false
  some_ : ∀ n m, f n = some m → has D (intK n) = true ∧ D.atKey (intK n) (.lit (.int .i64 0)) = .lit (.int .i64 m)
theorem mapIs_nil : MapIs (.map []) (nxt []) := ⟨⟨[], rfl⟩, fun _ _ => rfl, fun _ _ h => by cases h⟩
theorem MapIs.keep {D : DataW Unit} {l : List (Int × Int)} {p : Int × Int} (h : MapIs D (nxt l)) (hs : has D (intK p.1) = true) : MapIs D (nxt (l ++ [p])) := by
  have h1 : nxt l p.1 ≠ none := fun e => by have := h.none_ _ e; rw [hs] at this; cases this
  have e : nxt (l ++ [p]) = nxt l := by
    funext n
    rw [nxt_snoc]
    by_cases hn : p.1 = n
    · subst hn
      cases hx : nxt l p.1 with
      | none => exact absurd hx h1
      | some q => rfl
    · rw [if_neg hn]; simp
  rw [e]; exact h
theorem MapIs.put {D : DataW Unit} {l : List (Int × Int)} {p : Int × Int} (h : MapIs D (nxt l)) (hs : has D (intK p.1) = false) : MapIs (D.put (intK p.1) (.lit (.int .i64 p.2))) (nxt (l ++ [p])) := by
  have h1 : nxt l p.1 = none := by
    cases hx : nxt l p.1 with
    | none => rfl
    | some q => have := (h.some_ _ _ hx).1; rw [hs] at this; cases this
  have hk : WideAt.IsKeyLit (intK p.1) := by unfold intK; first | exact trivial | exact ⟨_, _, rfl⟩ | simp [WideAt.IsKeyLit]
  refine ⟨?_, ?_, ?_⟩
  · exact IsMap.put h.isMap _ _
  · intro n hn
    rw [nxt_snoc] at hn
    by_cases he : p.1 = n
    · rw [if_pos he] at hn; subst he; rw [h1] at hn; cases hn
    · have hne : intK n ≠ intK p.1 := fun e => he (by unfold intK at e; injection e with _ e2; exact e2.symm)
      rw [has_put_other hne]
      rw [if_neg he] at hn
      exact h.none_ _ (by simpa using hn)
  · intro n m hn
    rw [nxt_snoc] at hn
    by_cases he : p.1 = n
    · subst he
      rw [h1, if_pos rfl] at hn
      have e : p.2 = m := by simpa using hn
      subst e
      exact ⟨has_put_same h.isMap hk _, atKey_put_same h.isMap hk _ _⟩
    · have hne : intK n ≠ intK p.1 := fun e => he (by unfold intK at e; injection e with _ e2; exact e2.symm)
      rw [has_put_other hne, atKey_put_other hne]
      rw [if_neg he] at hn
      exact h.some_ _ _ (by simpa using hn)
end Go.Proofs.YticdapkljbillaaGreatDoor
