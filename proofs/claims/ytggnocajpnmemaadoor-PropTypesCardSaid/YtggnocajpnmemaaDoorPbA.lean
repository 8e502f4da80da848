/- Properties: names in order (pure); what is at fault with a type (pure). -/
import Derived.Test.YtggnocajpnmemaaDoorPaB
import Derived.Sort.Walk0
namespace Go.Proofs.YtggnocajpnmemaaDoor
open Go.RowKit Go.Shelf

theorem bl_iff (a b : ByteArray) : Op.bytesLess a.toList b.toList = true ↔ a.toList < b.toList := by rw [Go.Proofs.bytesLess_eq]; exact decide_eq_true_iff
theorem leB_iff (a b : ByteArray) : leB a b = true ↔ a.toList < b.toList ∨ a.toList = b.toList := by
  unfold leB; rw [Bool.or_eq_true, bl_iff, beq_iff_eq]
theorem cmpS_neg (a b : ByteArray) : cmpS a b < 0 ↔ a.toList < b.toList := by
  unfold cmpS
  rw [← bl_iff]
  split
  · rename_i h; simp [h]
  · rename_i h
    split <;> simp [h]
theorem cmpS_zero (a b : ByteArray) : cmpS a b = 0 ↔ a.toList = b.toList := by
  unfold cmpS
  split
  · rename_i h
    rw [bl_iff] at h
    refine ⟨fun h => absurd h (by decide), fun e => ?_⟩
    rw [e] at h; exact absurd h (List.lt_irrefl _)
  · rename_i h
    rw [bl_iff] at h
    split
    · rename_i g
      rw [leB_iff] at g
      exact ⟨fun _ => g.resolve_left h, fun _ => rfl⟩
    · rename_i g
      rw [leB_iff] at g
      exact ⟨fun h => absurd h (by decide), fun e => absurd (.inr e) g⟩
theorem tri (a b : List UInt8) : a < b ∨ a = b ∨ b < a := by
  by_cases h : a < b
  · exact .inl h
  · by_cases g : b < a
    · exact .inr (.inr g)
    · exact .inr (.inl (List.le_antisymm (List.not_lt.1 g) (List.not_lt.1 h)))
/-- Names that CheckProps lets pass rise. -/
theorem props_rise : ∀ (l : List PV) (prev : Option ByteArray), propsFrom prev l = 0 → (∀ q, prev = some q → ∀ p ∈ l, q.toList < p.nm.toList) ∧ l.Pairwise (fun a b => a.nm.toList < b.nm.toList)
  | [], _, _ => ⟨fun _ _ p hp => absurd hp (by simp), List.Pairwise.nil⟩
  | p :: r, prev, h => by
    rw [propsFrom] at h
    have h0 : itemP prev p = 0 := by
      by_cases h0 : itemP prev p = 0
      · exact h0
      · rw [if_neg h0] at h; exact h
    rw [if_pos h0] at h
    obtain ⟨i1, i2⟩ := props_rise r (some p.nm) h
    have hq : ∀ q, prev = some q → q.toList < p.nm.toList := by
      intro q e
      subst e
      have hle : leB p.nm q = false := by
        rcases hle : leB p.nm q with _ | _
        · rfl
        · exfalso
          unfold itemP at h0
          split at h0
          all_goals exact absurd h0 (by decide)
      have : ¬ (p.nm.toList < q.toList ∨ p.nm.toList = q.toList) := by rw [← leB_iff, hle]; simp
      rcases tri p.nm.toList q.toList with g | g | g
      · exact absurd (.inl g) this
      · exact absurd (.inr g) this
      · exact g
    refine ⟨fun q e x hx => ?_, List.Pairwise.cons (fun x hx => i1 _ rfl x hx) i2⟩
    rcases List.mem_cons.1 hx with rfl | hx
    · exact hq q e
    · exact List.lt_trans (hq q e) (i1 _ rfl x hx)
theorem rise_at {l : List PV} (h : l.Pairwise (fun a b => a.nm.toList < b.nm.toList)) (a b : Nat) (hab : a < b) (hb : b < l.length) : (l[a]'(by omega)).nm.toList < l[b].nm.toList :=
  List.pairwise_iff_getElem.1 h a b (by omega) hb hab
theorem mono_of {l : List PV} (h : l.Pairwise (fun a b => a.nm.toList < b.nm.toList)) (q : ByteArray) : Mono l q := by
  intro a b hab hb hlt
  rw [cmpS_neg] at hlt ⊢
  by_cases e : a = b
  · subst e; exact hlt
  · exact List.lt_trans (rise_at h a b (by omega) hb) hlt
theorem propsE_rise {l : List PV} (h : propsE l = 0) : l.Pairwise (fun a b => a.nm.toList < b.nm.toList) := by
  unfold propsE at h
  split at h
  · exact absurd h (by decide)
  · exact (props_rise l none h).2

/-! ### What the first property of a name is -/
def getV (l : List PV) (q : ByteArray) : Option V := (l.find? (fun p => p.nm.toList == q.toList)).map (·.val)
theorem getV_at {l : List PV} {q : ByteArray} {j : Nat} (hj : j < l.length) (h : (l[j].nm.toList == q.toList) = true) (hb : ∀ k (hk : k < l.length), k < j → (l[k].nm.toList == q.toList) = false) : getV l q = some l[j].val := by
  unfold getV
  rw [show l.find? (fun p => p.nm.toList == q.toList) = some l[j] from List.find?_eq_some_iff_getElem.2 ⟨h, j, hj, rfl, fun k hk => by rw [hb k (by omega) hk]; rfl⟩]
  rfl
theorem getV_none {l : List PV} {q : ByteArray} (h : ∀ k (hk : k < l.length), (l[k].nm.toList == q.toList) = false) : getV l q = none := by
  unfold getV
  rw [show l.find? (fun p => p.nm.toList == q.toList) = none from List.find?_eq_none.2 (fun x hx => by
    obtain ⟨k, hk, rfl⟩ := List.mem_iff_getElem.1 hx
    rw [h k hk]; simp)]
  rfl
theorem found_some {l : List PV} {q : ByteArray} {r : Nat} (h1 : ∀ t (ht : t < l.length), t < r → cmpS l[t].nm q < 0) (hr : r < l.length) (h : cmpS l[r].nm q = 0) : getV l q = some l[r].val := by
  refine getV_at hr (by rw [beq_iff_eq]; exact (cmpS_zero _ _).1 h) (fun k hk hkr => ?_)
  have := h1 k hk hkr
  rcases hb : (l[k].nm.toList == q.toList) with _ | _
  · rfl
  · rw [beq_iff_eq, ← cmpS_zero] at hb; omega
theorem found_none {l : List PV} {q : ByteArray} {r : Nat} (hl : l.Pairwise (fun a b => a.nm.toList < b.nm.toList)) (h1 : ∀ t (ht : t < l.length), t < r → cmpS l[t].nm q < 0) (h2 : ∀ t (ht : t < l.length), r ≤ t → 0 ≤ cmpS l[t].nm q) (h : ¬ ∃ hr : r < l.length, cmpS l[r].nm q = 0) : getV l q = none := by
  refine getV_none (fun k hk => ?_)
  rcases hb : (l[k].nm.toList == q.toList) with _ | _
  · rfl
  · exfalso
    rw [beq_iff_eq] at hb
    have hz := (cmpS_zero _ _).2 hb
    by_cases hkr : k < r
    · have := h1 k hk hkr; omega
    · by_cases e : k = r
      · subst e; exact h ⟨hk, hz⟩
      · have hlt := rise_at hl r k (by omega) hk
        rw [hb] at hlt
        have := h2 r (by omega) (Nat.le_refl _)
        rw [← cmpS_neg] at hlt
        omega

/-! ### What is at fault with a type -/
def V.int : V → Int | .mk _ i _ _ _ => i
def V.text : V → ByteArray | .mk _ _ _ s _ => s
def faultE (t : TV) (l : List PV) : Int :=
  match getV l t.nm with
  | none => if t.need = true then 7 else 0
  | some v => if v.kind ≠ t.kind then 10 else if 0 < t.cs.length ∧ hasS t.cs v.text = false then 3 else if t.least ≠ 0 ∨ t.most ≠ 0 then rangeE v.int t.least t.most else 0
def faultsL (ts : List TV) (l : List PV) : List FV := ts.filterMap fun t => if faultE t l = 0 then none else some ⟨t.nm, faultE t l⟩
theorem faults_snoc_no {ts : List TV} {l : List PV} {j : Nat} (hj : j < ts.length) (h : faultE ts[j] l = 0) : faultsL (ts.take (j + 1)) l = faultsL (ts.take j) l := by
  unfold faultsL
  rw [List.take_succ_eq_append_getElem hj, List.filterMap_append]
  simp [h]
theorem faults_snoc_yes {ts : List TV} {l : List PV} {j : Nat} (hj : j < ts.length) (h : faultE ts[j] l ≠ 0) : faultsL (ts.take (j + 1)) l = faultsL (ts.take j) l ++ [⟨ts[j].nm, faultE ts[j] l⟩] := by
  unfold faultsL
  rw [List.take_succ_eq_append_getElem hj, List.filterMap_append]
  simp [h]
theorem faultsL_len (ts : List TV) (l : List PV) : (faultsL ts l).length ≤ ts.length := List.length_filterMap_le _ _
/-- Types that CheckTypes lets pass. -/
theorem types_ok : ∀ (l d : List TV), typesFrom d l = 0 → ∀ t ∈ l, typeE t.kind t.cs t.least t.most = 0
  | [], _, _, _, h => absurd h (by simp)
  | t :: r, d, h, x, hx => by
    rw [typesFrom] at h
    have h0 : itemT d t = 0 := by
      by_cases h0 : itemT d t = 0
      · exact h0
      · rw [if_neg h0] at h; exact h
    rw [if_pos h0] at h
    rcases List.mem_cons.1 hx with rfl | hx
    · unfold itemT at h0
      split at h0
      · exact absurd h0 (by decide)
      · split at h0
        · exact absurd h0 (by decide)
        · exact h0
    · exact types_ok r (d ++ [t]) h x hx
theorem typesE_ok {l : List TV} (h : typesE l = 0) : ∀ t ∈ l, typeE t.kind t.cs t.least t.most = 0 := by
  unfold typesE at h
  split at h
  · exact absurd h (by decide)
  · exact types_ok l [] h
theorem typeE_ok {k : Int} {cs : List ByteArray} {le mo : Int} (h : typeE k cs le mo = 0) : (0 < cs.length → k = 3) ∧ ((le ≠ 0 ∨ mo ≠ 0) → k = 2) := by
  unfold typeE at h
  split at h
  · exact absurd h (by decide)
  · split at h
    · exact absurd h (by decide)
    · split at h
      · exact absurd h (by decide)
      · rename_i h1 h2 h3
        refine ⟨fun g => ?_, fun g => ?_⟩
        · by_cases e : k = 3
          · exact e
          · exact absurd ⟨g, e⟩ h2
        · by_cases e : k = 2
          · exact e
          · exact absurd ⟨g, e⟩ h3
end Go.Proofs.YtggnocajpnmemaaDoor
