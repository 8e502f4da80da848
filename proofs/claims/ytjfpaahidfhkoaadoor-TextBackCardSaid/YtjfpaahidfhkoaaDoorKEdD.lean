/- TextEdits, part 4: the shortest edit that makes one string of another. -/
import Derived.Test.YtjfpaahidfhkoaaDoorKEdC
import Derived.WalkKit
import Derived.Lib.Hide
import Derived.Deep.QuietTactic
import Derived.BigQuiet
namespace Go.Proofs.YtjfpaahidfhkoaaDoor.Ke
open Go.RowKit

/-- How long two lists are one from the beginning on. -/
def comm : List UInt8 → List UInt8 → Nat
  | x :: xs, y :: ys => if x = y then comm xs ys + 1 else 0
  | _, _ => 0
theorem comm_is : ∀ (k : Nat) (a b : List UInt8), k ≤ a.length → k ≤ b.length → (∀ j (h1 : j < a.length) (h2 : j < b.length), j < k → a[j] = b[j]) →
    (∀ (h1 : k < a.length) (h2 : k < b.length), a[k] ≠ b[k]) → comm a b = k
  | 0, [], _, _, _, _, _ => by simp [comm]
  | 0, _ :: _, [], _, _, _, _ => by simp [comm]
  | 0, x :: xs, y :: ys, _, _, _, h => by
    have := h (by simp) (by simp)
    simp at this
    simp [comm, this]
  | k + 1, x :: xs, y :: ys, ha, hb, h, he => by
    have h0 := h 0 (by simp) (by simp) (by omega)
    simp at h0
    rw [comm, if_pos h0]
    rw [comm_is k xs ys (by simpa using ha) (by simpa using hb) (fun j h1 h2 hj => ?_) (fun h1 h2 => ?_)]
    · have := h (j + 1) (by simp; omega) (by simp; omega) (by omega)
      simpa using this
    · have := he (by simp; omega) (by simp; omega)
      simpa using this
  | k + 1, [], _, ha, _, _, _ => by simp at ha
  | k + 1, _ :: _, [], _, hb, _, _ => by simp at hb

def dF (a b : ByteArray) : Nat := comm a.data.toList b.data.toList
def dN (a b : ByteArray) : Nat := comm (a.data.toList.drop (dF a b)).reverse (b.data.toList.drop (dF a b)).reverse

theorem dF_is {a b : ByteArray} {k : Nat} (ha : k ≤ a.size) (hb : k ≤ b.size) (h : ∀ j (h1 : j < a.size) (h2 : j < b.size), j < k → a[j] = b[j]) (he : ∀ (h1 : k < a.size) (h2 : k < b.size), a[k] ≠ b[k]) : dF a b = k := by
  refine comm_is k _ _ (by simpa using ha) (by simpa using hb) (fun j h1 h2 hj => ?_) (fun h1 h2 => ?_)
  · have := h j (by simpa using h1) (by simpa using h2) hj
    simpa [ByteArray.getElem_eq_getElem_data] using this
  · have := he (by simpa using h1) (by simpa using h2)
    simpa [ByteArray.getElem_eq_getElem_data] using this

theorem dN_is {a b : ByteArray} {k n : Nat} (hk : dF a b = k) (ha : k + n ≤ a.size) (hb : k + n ≤ b.size) (h : ∀ j (h1 : a.size - 1 - j < a.size) (h2 : b.size - 1 - j < b.size), j < n → a[a.size - 1 - j] = b[b.size - 1 - j])
    (he : ∀ (h1 : k + n < a.size) (h2 : k + n < b.size), a[a.size - 1 - n] ≠ b[b.size - 1 - n]) : dN a b = n := by
  have za : a.data.toList.length = a.size := by simp
  have zb : b.data.toList.length = b.size := by simp
  unfold dN
  rw [hk]
  refine comm_is n _ _ (by simp; omega) (by simp; omega) (fun j h1 h2 hj => ?_) (fun h1 h2 => ?_)
  · simp only [List.length_reverse, List.length_drop, za, zb] at h1 h2
    have := h j (by omega) (by omega) hj
    rw [ByteArray.getElem_eq_getElem_data, ByteArray.getElem_eq_getElem_data] at this
    rw [List.getElem_reverse, List.getElem_reverse, List.getElem_drop, List.getElem_drop]
    simp only [List.length_drop, za, zb]
    have e1 : k + (a.size - k - 1 - j) = a.size - 1 - j := by omega
    have e2 : k + (b.size - k - 1 - j) = b.size - 1 - j := by omega
    simpa [e1, e2] using this
  · simp only [List.length_reverse, List.length_drop, za, zb] at h1 h2
    have := he (by omega) (by omega)
    rw [ByteArray.getElem_eq_getElem_data, ByteArray.getElem_eq_getElem_data] at this
    rw [List.getElem_reverse, List.getElem_reverse, List.getElem_drop, List.getElem_drop]
    simp only [List.length_drop, za, zb]
    have e1 : k + (a.size - k - 1 - n) = a.size - 1 - n := by omega
    have e2 : k + (b.size - k - 1 - n) = b.size - 1 - n := by omega
    simpa [e1, e2] using this

/-- The shortest edit that makes b of a is handed back. -/
def GivesDiff (w : World) (a b : ByteArray) (e : Ending) (w' : World) : Prop :=
  e = .returned (.agg #[.int .i64 (dF a b), .int .i64 (a.size - dN a b : Nat), .string (b.extract (dF a b) (b.size - dN a b))]) ∧ Below w.heap.size w w'

theorem u8_ne {x y : UInt8} (h : x ≠ y) : ((x.toNat : Int) == (y.toNat : Int)) = false := by
  rw [beq_eq_false_iff_ne]
  intro e
  exact h (UInt8.toNat_inj.1 (by omega))

theorem diff_end {a b : ByteArray} {k m x y : Nat} {X : Int} (hF : dF a b = k) (hN : dN a b = m) (hx : x + m = a.size) (hy : y + m = b.size) (hX : X = x) :
    Ending.returned (.agg #[.int .i64 k, .int .i64 X, .string (b.extract k y)]) = .returned (.agg #[.int .i64 (dF a b), .int .i64 (a.size - dN a b : Nat), .string (b.extract (dF a b) (b.size - dN a b))]) := by
  rw [hF, hN, hX, show a.size - m = x from by omega, show b.size - m = y from by omega]

set_option maxHeartbeats 2000000 in
theorem diff_any (a b : ByteArray) (w : World) (ha : a.size ≤ 140737488351232) (hb : b.size ≤ 140737488351232) :
    Calls Tryd.prog 22 #[.string a, .string b] w (GivesDiff w a b) := by
  go_enter Tryd.func22, Tryd.ntmps22
  go_wp2
  go_loopw [5] (fun i wr => ∃ k n : Nat, k ≤ a.size ∧ k ≤ b.size ∧ i = .int .i64 k ∧ Hid (∀ j (h1 : j < a.size) (h2 : j < b.size), j < k → a[j] = b[j]) ∧ wr = (w.alloc (.cells #[.int .i64 0, .int .i64 0, .string ⟨#[]⟩] 46)).drewN n) (fun i _ => a.size - (intOf i).toNat)
  case atStart => exact ⟨0, 0, Nat.zero_le _, Nat.zero_le _, rfl, fun j _ _ hj => by omega, rfl⟩
  case round =>
    obtain ⟨k, n, hka, hkb, rfl, hall, rfl⟩ := hrel
    by_cases hgo : ∃ (h1 : k < a.size) (h2 : k < b.size), a[k] = b[k]
    · obtain ⟨h1, h2, h3⟩ := hgo
      have i1 : (k : Int) < a.size := by omega
      have i2 : (k : Int) < b.size := by omega
      have d1 : decide ((k : Int) < (a.size : Int)) = true := by simpa using h1
      have d2 : decide ((k : Int) < (b.size : Int)) = true := by simpa using h2
      have d3 : ((a[k].toNat : Int) == (b[k].toNat : Int)) = true := by rw [h3]; simp
      have H3 := Lib.hid h3
      clear h3
      go_wp2
      go_quiet (fail)
      go_wp2
      go_roundw
      case rel => exact ⟨k + 1, n + _, by omega, by omega, by go_num, fun j g1 g2 hj => by
        rcases Nat.lt_succ_iff_lt_or_eq.1 hj with h | rfl
        · exact hall.out j g1 g2 h
        · exact H3.out, rfl⟩
      case measure => simp [intOf]; omega
    · have HF := Lib.hid (dF_is hka hkb hall.out (fun h1 h2 he => hgo ⟨h1, h2, he⟩))
      rcases (by
        by_cases h1 : k < a.size
        · by_cases h2 : k < b.size
          · exact .inr (.inr ⟨h1, h2, fun he => hgo ⟨h1, h2, he⟩⟩)
          · exact .inr (.inl ⟨h1, h2⟩)
        · exact .inl h1 : (¬ k < a.size) ∨ (k < a.size ∧ ¬ k < b.size) ∨ (∃ (h1 : k < a.size) (h2 : k < b.size), a[k] ≠ b[k])) with h1 | ⟨h1, h2⟩ | ⟨h1, h2, h3⟩
      case' inl =>
        have d1 : decide ((k : Int) < (a.size : Int)) = false := by simp; omega
      case' inr.inl =>
        have i1 : (k : Int) < a.size := by omega
        have d1 : decide ((k : Int) < (a.size : Int)) = true := by simpa using h1
        have d2 : decide ((k : Int) < (b.size : Int)) = false := by simp; omega
      case' inr.inr =>
        have i1 : (k : Int) < a.size := by omega
        have i2 : (k : Int) < b.size := by omega
        have d1 : decide ((k : Int) < (a.size : Int)) = true := by simpa using h1
        have d2 : decide ((k : Int) < (b.size : Int)) = true := by simpa using h2
        have d3 := u8_ne h3
        clear h3
      all_goals
        clear hgo hall
        go_wp2
        go_quiet (fail)
        go_wp2
        rename_i n0
        go_loopw [6, 7] (fun p q wr => ∃ m x y n : Nat, Hid (x + m = a.size) ∧ Hid (y + m = b.size) ∧ x ≤ a.size ∧ y ≤ b.size ∧ k ≤ x ∧ k ≤ y ∧ p = .int .i64 x ∧ q = .int .i64 y ∧
          Hid (∀ j (h1 : a.size - 1 - j < a.size) (h2 : b.size - 1 - j < b.size), j < m → a[a.size - 1 - j] = b[b.size - 1 - j]) ∧ wr = (w.alloc (.cells #[.int .i64 0, .int .i64 0, .string ⟨#[]⟩] 46)).drewN n) (fun p _ _ => (intOf p).toNat)
        case atStart => exact ⟨0, a.size, b.size, _, rfl, rfl, Nat.le_refl _, Nat.le_refl _, hka, hkb, rfl, rfl, fun j _ _ hj => by omega, rfl⟩
        case round =>
          obtain ⟨m, x, y, n, hxm, hym, hxa, hyb, hkx, hky, rfl, rfl, hall, rfl⟩ := hrel
          by_cases hgo : ∃ (x' y' : Nat) (h1 : x' < a.size) (h2 : y' < b.size), x = x' + 1 ∧ y = y' + 1 ∧ k ≤ x' ∧ k ≤ y' ∧ a[x'] = b[y']
          · obtain ⟨x', y', h1', h2', rfl, rfl, hkx', hky', h3'⟩ := hgo
            have d4 : decide ((k : Int) < (x' : Int) + 1) = true := by simp; omega
            have d5 : decide ((k : Int) < (y' : Int) + 1) = true := by simp; omega
            have d6 : ((a[x'].toNat : Int) == (b[y'].toNat : Int)) = true := by rw [h3']; simp
            have j1 : (x' : Int) < a.size := by omega
            have j2 : (y' : Int) < b.size := by omega
            have j3 : (k : Int) < (x' : Int) + 1 := by omega
            have j4 : (k : Int) < (y' : Int) + 1 := by omega
            have H3 := Lib.hid h3'
            clear h3'
            go_wp2
            go_quiet (fail)
            go_wp2
            go_roundw
            case rel => exact ⟨m + 1, x', y', n + _, by have := hxm.out; show x' + (m + 1) = a.size; omega, by have := hym.out; show y' + (m + 1) = b.size; omega, by omega, by omega, hkx', hky', rfl, rfl, fun j g1 g2 hj => by
              rcases Nat.lt_succ_iff_lt_or_eq.1 hj with h | rfl
              · exact hall.out j g1 g2 h
              · have e1 : a.size - 1 - j = x' := by have := hxm.out; omega
                have e2 : b.size - 1 - j = y' := by have := hym.out; omega
                simpa [e1, e2] using H3.out, rfl⟩
            case measure => simp [intOf]
          · have HN := Lib.hid (dN_is (n := m) HF.out (by have := hxm.out; omega) (by have := hym.out; omega) hall.out (fun g1 g2 he => hgo ⟨a.size - 1 - m, b.size - 1 - m, by omega, by omega, by have := hxm.out; omega, by have := hym.out; omega, by have := hxm.out; omega, by have := hym.out; omega, he⟩))
            have q1 : (k : Int) ≤ y := by omega
            have q2 : (y : Int) ≤ b.size := by omega
            rcases (by
              by_cases g1 : k < x
              · by_cases g2 : k < y
                · refine .inr (.inr ⟨x - 1, y - 1, by omega, by omega, by omega, by omega, by omega, by omega, fun he => hgo ⟨x - 1, y - 1, by omega, by omega, by omega, by omega, by omega, by omega, he⟩⟩)
                · exact .inr (.inl ⟨g1, g2⟩)
              · exact .inl g1 : (¬ k < x) ∨ (k < x ∧ ¬ k < y) ∨ (∃ (x' y' : Nat) (h1 : x' < a.size) (h2 : y' < b.size), x = x' + 1 ∧ y = y' + 1 ∧ k ≤ x' ∧ k ≤ y' ∧ a[x'] ≠ b[y'])) with g1 | ⟨g1, g2⟩ | ⟨x', y', h1', h2', rfl, rfl, hkx', hky', h3'⟩
            case' inl =>
              have d4 : decide ((k : Int) < (x : Int)) = false := by simp; omega
            case' inr.inl =>
              have j3 : (k : Int) < (x : Int) := by omega
              have d4 : decide ((k : Int) < (x : Int)) = true := by simpa using g1
              have d5 : decide ((k : Int) < (y : Int)) = false := by simp; omega
            case' inr.inr =>
              have d4 : decide ((k : Int) < (x' : Int) + 1) = true := by simp; omega
              have d5 : decide ((k : Int) < (y' : Int) + 1) = true := by simp; omega
              have d6 := u8_ne h3'
              have j1 : (x' : Int) < a.size := by omega
              have j2 : (y' : Int) < b.size := by omega
              have j3 : (k : Int) < (x' : Int) + 1 := by omega
              have j4 : (k : Int) < (y' : Int) + 1 := by omega
              have j5 : (k : Int) ≤ (y' : Int) + 1 := by omega
              have j6 : (y' : Int) + 1 ≤ b.size := by omega
              clear h3'
            all_goals first
              | (exfalso; omega)
              | (clear hgo hall
                 go_wp2
                 go_quiet (fail)
                 go_wp2
                 first
                   | refine bodyPost_ret (v := .agg #[.int .i64 k, .int .i64 x, .string (b.extract k y)]) ?_ rfl ?_
                   | refine bodyPost_ret (v := .agg #[.int .i64 k, .int .i64 (x' + 1), .string (b.extract k (y' + 1))]) ?_ rfl ?_
                 · simp [results, Tryd.results22, go_sem]
                 · refine ⟨diff_end HF.out HN.out hxm.out hym.out (by omega), ?_⟩
                   exact (((below_drewN ((Below.refl _ _).alloc (Nat.le_refl _) _) _).setCell (Nat.le_refl _) _).setCell (Nat.le_refl _) _).setCell (Nat.le_refl _) _)
end Go.Proofs.YtjfpaahidfhkoaaDoor.Ke
