/- Properties: cmp.Compare at strings; the comparison of position. Properties: slices.BinarySearchFunc at properties, by name. Properties: position. Properties: names in order (pure); what is at fault with a type (pure). -/
import Derived.Test.YtfpiannnggkdiaaDoorPvX
import Derived.Sort.Walk0
namespace Go.Proofs.YtfpiannnggkdiaaDoor
open Go.RowKit Go.Shelf

def cmpS (a b : ByteArray) : Int := if Op.bytesLess a.toList b.toList = true then -1 else if leB a b = true then 0 else 1
theorem gtr_str (a b : ByteArray) (W : World) : (binOp .gtr 9 (.string a) (.string b)).run Tryd.prog W = .ok (.bool (!leB a b)) W := rfl

set_option maxRecDepth 100000 in
set_option maxHeartbeats 4000000 in
theorem strNaN_any (a : ByteArray) (w : World) : Calls Tryd.prog 109 #[.string a] w fun e w' => e = .returned (.bool false) ∧ w' = w := by
  have h : (a.toList == a.toList) = true := by simp
  go_enter Tryd.func109, Tryd.ntmps109
  go_wp2_with fail
  go_ret
  exact ⟨ret_bool (by simp), rfl⟩
end Go.Proofs.YtfpiannnggkdiaaDoor
namespace Go.Proofs.YtfpiannnggkdiaaDoor
open Go.RowKit Go.Shelf

/-- Names are in order. -/
def Mono (l : List PV) (q : ByteArray) : Prop := ∀ a b (_ : a ≤ b) (hb : b < l.length), cmpS l[b].nm q < 0 → cmpS (l[a]'(by omega)).nm q < 0
structure BsRow (l : List PV) (q : ByteArray) (w : World) (lo hi : Nat) (wx : World) : Prop where
  bel : Below w.heap.size w wx
  lo : ∀ t (ht : t < l.length), t < lo → cmpS l[t].nm q < 0
  hi : ∀ t (ht : t < l.length), hi ≤ t → 0 ≤ cmpS l[t].nm q

end Go.Proofs.YtfpiannnggkdiaaDoor
namespace Go.Proofs.YtfpiannnggkdiaaDoor
open Go.RowKit Go.Shelf

/-- What position finds. -/
def Found (l : List PV) (q : ByteArray) (w : World) (e : Ending) (w' : World) : Prop :=
  (∃ (r : Nat) (b : Bool), r ≤ l.length ∧ (∀ t (ht : t < l.length), t < r → cmpS l[t].nm q < 0) ∧ (∀ t (ht : t < l.length), r ≤ t → 0 ≤ cmpS l[t].nm q) ∧ (b = true ↔ ∃ hr : r < l.length, cmpS l[r].nm q = 0) ∧ e = .returned (.tuple #[.int .i64 r, .bool b])) ∧ Below w.heap.size w w'

end Go.Proofs.YtfpiannnggkdiaaDoor
namespace Go.Proofs.YtfpiannnggkdiaaDoor
open Go.RowKit Go.Shelf

theorem bl_iff (a b : ByteArray) : Op.bytesLess a.toList b.toList = true ↔ a.toList < b.toList := by rw [Go.Proofs.bytesLess_eq]; exact decide_eq_true_iff
theorem leB_iff (a b : ByteArray) : leB a b = true ↔ a.toList < b.toList ∨ a.toList = b.toList := by
  unfold leB; rw [Bool.or_eq_true, bl_iff, beq_iff_eq]
theorem cmpS_neg (a b : ByteArray) : cmpS a b < 0 ↔ a.toList < b.toList := by
  unfold cmpS
  rw [← bl_iff]
  split
  · rename_i h; simp [h]
  · rename_i h
    split <;> simp [h]
theorem cmpS_zero (a b : ByteArray) : cmpS a b = 0 ↔ a.toList = b.toList := by
  unfold cmpS
  split
  · rename_i h
    rw [bl_iff] at h
    refine ⟨fun h => absurd h (by decide), fun e => ?_⟩
    rw [e] at h; exact absurd h (List.lt_irrefl _)
  · rename_i h
    rw [bl_iff] at h
    split
    · rename_i g
      rw [leB_iff] at g
      exact ⟨fun _ => g.resolve_left h, fun _ => rfl⟩
    · rename_i g
      rw [leB_iff] at g
      exact ⟨fun h => absurd h (by decide), fun e => absurd (.inr e) g⟩
theorem tri (a b : List UInt8) : a < b ∨ a = b ∨ b < a := by
  by_cases h : a < b
  · exact .inl h
  · by_cases g : b < a
    · exact .inr (.inr g)
    · exact .inr (.inl (List.le_antisymm (List.not_lt.1 g) (List.not_lt.1 h)))
/-- Names that CheckProps lets pass rise. -/
theorem props_rise : ∀ (l : List PV) (prev : Option ByteArray), propsFrom prev l = 0 → (∀ q, prev = some q → ∀ p ∈ l, q.toList < p.nm.toList) ∧ l.Pairwise (fun a b => a.nm.toList < b.nm.toList)
  | [], _, _ => ⟨fun _ _ p hp => absurd hp (by simp), List.Pairwise.nil⟩
  | p :: r, prev, h => by
    rw [propsFrom] at h
    have h0 : itemP prev p = 0 := by
      by_cases h0 : itemP prev p = 0
      · exact h0
      · rw [if_neg h0] at h; exact h
    rw [if_pos h0] at h
    obtain ⟨i1, i2⟩ := props_rise r (some p.nm) h
    have hq : ∀ q, prev = some q → q.toList < p.nm.toList := by
      intro q e
      subst e
      have hle : leB p.nm q = false := by
        rcases hle : leB p.nm q with _ | _
        · rfl
        · exfalso
          unfold itemP at h0
          split at h0
          all_goals exact absurd h0 (by decide)
      have : ¬ (p.nm.toList < q.toList ∨ p.nm.toList = q.toList) := by rw [← leB_iff, hle]; simp
      rcases tri p.nm.toList q.toList with g | g | g
      · exact absurd (.inl g) this
      · exact absurd (.inr g) this
      · exact g
    refine ⟨fun q e x hx => ?_, List.Pairwise.cons (fun x hx => i1 _ rfl x hx) i2⟩
    rcases List.mem_cons.1 hx with rfl | hx
    · exact hq q e
    · exact List.lt_trans (hq q e) (i1 _ rfl x hx)
theorem rise_at {l : List PV} (h : l.Pairwise (fun a b => a.nm.toList < b.nm.toList)) (a b : Nat) (hab : a < b) (hb : b < l.length) : (l[a]'(by omega)).nm.toList < l[b].nm.toList :=
  List.pairwise_iff_getElem.1 h a b (by omega) hb hab
theorem mono_of {l : List PV} (h : l.Pairwise (fun a b => a.nm.toList < b.nm.toList)) (q : ByteArray) : Mono l q := by
  intro a b hab hb hlt
  rw [cmpS_neg] at hlt ⊢
  by_cases e : a = b
  · subst e; exact hlt
  · exact List.lt_trans (rise_at h a b (by omega) hb) hlt
theorem propsE_rise {l : List PV} (h : propsE l = 0) : l.Pairwise (fun a b => a.nm.toList < b.nm.toList) := by
  unfold propsE at h
  split at h
  · exact absurd h (by decide)
  · exact (props_rise l none h).2

/-! ### What the first property of a name is -/
def getV (l : List PV) (q : ByteArray) : Option V := (l.find? (fun p => p.nm.toList == q.toList)).map (·.val)
theorem getV_at {l : List PV} {q : ByteArray} {j : Nat} (hj : j < l.length) (h : (l[j].nm.toList == q.toList) = true) (hb : ∀ k (hk : k < l.length), k < j → (l[k].nm.toList == q.toList) = false) : getV l q = some l[j].val := by
  unfold getV
  rw [show l.find? (fun p => p.nm.toList == q.toList) = some l[j] from List.find?_eq_some_iff_getElem.2 ⟨h, j, hj, rfl, fun k hk => by rw [hb k (by omega) hk]; rfl⟩]
  rfl
theorem getV_none {l : List PV} {q : ByteArray} (h : ∀ k (hk : k < l.length), (l[k].nm.toList == q.toList) = false) : getV l q = none := by
  unfold getV
  rw [show l.find? (fun p => p.nm.toList == q.toList) = none from List.find?_eq_none.2 (fun x hx => by
    obtain ⟨k, hk, rfl⟩ := List.mem_iff_getElem.1 hx
    rw [h k hk]; simp)]
  rfl
theorem found_some {l : List PV} {q : ByteArray} {r : Nat} (h1 : ∀ t (ht : t < l.length), t < r → cmpS l[t].nm q < 0) (hr : r < l.length) (h : cmpS l[r].nm q = 0) : getV l q = some l[r].val := by
  refine getV_at hr (by rw [beq_iff_eq]; exact (cmpS_zero _ _).1 h) (fun k hk hkr => ?_)
  have := h1 k hk hkr
  rcases hb : (l[k].nm.toList == q.toList) with _ | _
  · rfl
  · rw [beq_iff_eq, ← cmpS_zero] at hb; omega
theorem found_none {l : List PV} {q : ByteArray} {r : Nat} (hl : l.Pairwise (fun a b => a.nm.toList < b.nm.toList)) (h1 : ∀ t (ht : t < l.length), t < r → cmpS l[t].nm q < 0) (h2 : ∀ t (ht : t < l.length), r ≤ t → 0 ≤ cmpS l[t].nm q) (h : ¬ ∃ hr : r < l.length, cmpS l[r].nm q = 0) : getV l q = none := by
  refine getV_none (fun k hk => ?_)
  rcases hb : (l[k].nm.toList == q.toList) with _ | _
  · rfl
  · exfalso
    rw [beq_iff_eq] at hb
    have hz := (cmpS_zero _ _).2 hb
    by_cases hkr : k < r
    · have := h1 k hk hkr; omega
    · by_cases e : k = r
      · subst e; exact h ⟨hk, hz⟩
      · have hlt := rise_at hl r k (by omega) hk
        rw [hb] at hlt
        have := h2 r (by omega) (Nat.le_refl _)
        rw [← cmpS_neg] at hlt
        omega

end Go.Proofs.YtfpiannnggkdiaaDoor
