/- TextEdits, part 5: the reference's shortest edit. -/
import Derived.Test.YtjfpaahidfhkoaaEdD
import Derived.WalkKit
import Derived.Lib.Hide
import Derived.Deep.QuietTactic
import Derived.BigQuiet
import Derived.IntWalk
namespace Go.Proofs.Ytjfpaahidfhkoaa
open Go.RowKit

theorem diffOf_end {a b : ByteArray} {k m : Nat} (hF : dF a b = k) (hN : dN a b = m) (hx : k + m ≤ a.size) :
    Ending.returned (.agg #[.int .i64 k, .int .i64 ((a.size : Int) - (m : Int)), .string (b.extract k (b.size - m))]) = .returned (.agg #[.int .i64 (dF a b), .int .i64 (a.size - dN a b : Nat), .string (b.extract (dF a b) (b.size - dN a b))]) := by
  rw [hF, hN, show (a.size : Int) - (m : Int) = (a.size - m : Nat) from by omega]

theorem index_at {P : Program} {t : TypeId} {s : ByteArray} {k : IntKind} {i : Int} {n : Nat} (h : P.underlying t = some .string) (hi : i = (n : Int)) (hn : n < s.size) (W : World) :
    (Instr.index t (.string s) (.int k i)).run P W = .ok (.int .u8 (s[n]).toNat) W := by
  subst hi
  rw [run_index_string W t s k n h, dif_pos ⟨by omega, by omega⟩]
  rfl

set_option maxHeartbeats 2000000 in
theorem diffOf_any (a b : ByteArray) (w : World) (ha : a.size ≤ 140737488351232) (hb : b.size ≤ 140737488351232) :
    Calls Try.prog 6 #[.string a, .string b] w (GivesDiff w a b) := by
  go_enter Try.func6, Try.ntmps6
  go_wp2
  go_loopw [5] (fun i wr => ∃ k n : Nat, k ≤ a.size ∧ k ≤ b.size ∧ i = .int .i64 k ∧ Hid (∀ j (h1 : j < a.size) (h2 : j < b.size), j < k → a[j] = b[j]) ∧ wr = (w.alloc (.cells #[.int .i64 0, .int .i64 0, .string ⟨#[]⟩] 24)).drewN n) (fun i _ => a.size - (intOf i).toNat)
  case atStart => exact ⟨0, 0, Nat.zero_le _, Nat.zero_le _, rfl, fun j _ _ hj => by omega, rfl⟩
  case round =>
    obtain ⟨k, n, hka, hkb, rfl, hall, rfl⟩ := hrel
    by_cases hgo : ∃ (h1 : k < a.size) (h2 : k < b.size), a[k] = b[k]
    · obtain ⟨h1, h2, h3⟩ := hgo
      have i1 : (k : Int) < a.size := by omega
      have i2 : (k : Int) < b.size := by omega
      have d1 : decide ((k : Int) < (a.size : Int)) = true := by simpa using h1
      have d2 : decide ((k : Int) < (b.size : Int)) = true := by simpa using h2
      have d3 : ((a[k].toNat : Int) == (b[k].toNat : Int)) = true := by rw [h3]; simp
      have H3 := Lib.hid h3
      clear h3
      go_wp2
      go_quiet (fail)
      go_wp2
      go_roundw
      case rel => exact ⟨k + 1, n + _, by omega, by omega, by go_num, fun j g1 g2 hj => by
        rcases Nat.lt_succ_iff_lt_or_eq.1 hj with h | rfl
        · exact hall.out j g1 g2 h
        · exact H3.out, rfl⟩
      case measure => simp [intOf]; omega
    · have HF := Lib.hid (dF_is hka hkb hall.out (fun h1 h2 he => hgo ⟨h1, h2, he⟩))
      rcases (by
        by_cases h1 : k < a.size
        · by_cases h2 : k < b.size
          · exact .inr (.inr ⟨h1, h2, fun he => hgo ⟨h1, h2, he⟩⟩)
          · exact .inr (.inl ⟨h1, h2⟩)
        · exact .inl h1 : (¬ k < a.size) ∨ (k < a.size ∧ ¬ k < b.size) ∨ (∃ (h1 : k < a.size) (h2 : k < b.size), a[k] ≠ b[k])) with h1 | ⟨h1, h2⟩ | ⟨h1, h2, h3⟩
      case' inl =>
        have d1 : decide ((k : Int) < (a.size : Int)) = false := by simp; omega
      case' inr.inl =>
        have i1 : (k : Int) < a.size := by omega
        have d1 : decide ((k : Int) < (a.size : Int)) = true := by simpa using h1
        have d2 : decide ((k : Int) < (b.size : Int)) = false := by simp; omega
      case' inr.inr =>
        have i1 : (k : Int) < a.size := by omega
        have i2 : (k : Int) < b.size := by omega
        have d1 : decide ((k : Int) < (a.size : Int)) = true := by simpa using h1
        have d2 : decide ((k : Int) < (b.size : Int)) = true := by simpa using h2
        have d3 := u8_ne h3
        clear h3
      all_goals
        clear hgo hall
        go_wp2
        go_quiet (fail)
        go_wp2
        rename_i n0
        go_loopw [6] (fun p wr => ∃ m n : Nat, k + m ≤ a.size ∧ k + m ≤ b.size ∧ p = .int .i64 m ∧
          Hid (∀ j (h1 : a.size - 1 - j < a.size) (h2 : b.size - 1 - j < b.size), j < m → a[a.size - 1 - j] = b[b.size - 1 - j]) ∧ wr = (w.alloc (.cells #[.int .i64 0, .int .i64 0, .string ⟨#[]⟩] 24)).drewN n) (fun p _ => a.size - (intOf p).toNat)
        case atStart => exact ⟨0, _, by omega, by omega, rfl, fun j _ _ hj => by omega, by first | rfl | exact World.drewN_drewN _ _ _⟩
        case round =>
          obtain ⟨m, n, hxa, hyb, rfl, hall, rfl⟩ := hrel
          by_cases hgo : ∃ (h1 : a.size - 1 - m < a.size) (h2 : b.size - 1 - m < b.size), k + m < a.size ∧ k + m < b.size ∧ a[a.size - 1 - m] = b[b.size - 1 - m]
          · obtain ⟨h1', h2', hkx', hky', h3'⟩ := hgo
            have d4 : decide ((m : Int) < (a.size : Int) - (k : Int)) = true := by simp; omega
            have d5 : decide ((m : Int) < (b.size : Int) - (k : Int)) = true := by simp; omega
            have d6 : ((a[a.size - 1 - m].toNat : Int) == (b[b.size - 1 - m].toNat : Int)) = true := by rw [h3']; simp
            have j1 : (m : Int) < (a.size : Int) - (k : Int) := by omega
            have j2 : (m : Int) < (b.size : Int) - (k : Int) := by omega
            have j3 : (0 : Int) ≤ (a.size : Int) - 1 - (m : Int) := by omega
            have j4 : (0 : Int) ≤ (b.size : Int) - 1 - (m : Int) := by omega
            have j5 : (a.size : Int) - 1 - (m : Int) < a.size := by omega
            have j6 : (b.size : Int) - 1 - (m : Int) < b.size := by omega
            have t1 : ((a.size : Int) - 1 - (m : Int)).toNat = a.size - 1 - m := by omega
            have t2 : ((b.size : Int) - 1 - (m : Int)).toNat = b.size - 1 - m := by omega
            have w1 : IntKind.i64.wrap ((a.size : Int) - (k : Int)) = (a.size : Int) - (k : Int) := IntWalk.i64_in _ (by omega)
            have w2 : IntKind.i64.wrap ((b.size : Int) - (k : Int)) = (b.size : Int) - (k : Int) := IntWalk.i64_in _ (by omega)
            have w3 : IntKind.i64.wrap ((a.size : Int) - 1) = (a.size : Int) - 1 := IntWalk.i64_in _ (by omega)
            have w4 : IntKind.i64.wrap ((b.size : Int) - 1) = (b.size : Int) - 1 := IntWalk.i64_in _ (by omega)
            have w5 : IntKind.i64.wrap ((a.size : Int) - 1 - (m : Int)) = (a.size : Int) - 1 - (m : Int) := IntWalk.i64_in _ (by omega)
            have w6 : IntKind.i64.wrap ((b.size : Int) - 1 - (m : Int)) = (b.size : Int) - 1 - (m : Int) := IntWalk.i64_in _ (by omega)
            have x1 := fun W => index_at (P := Try.prog) (t := 9) (s := a) (k := .i64) (i := (a.size : Int) - 1 - (m : Int)) (n := a.size - 1 - m) Try.underlying9 (by omega) h1' W
            have x2 := fun W => index_at (P := Try.prog) (t := 9) (s := b) (k := .i64) (i := (b.size : Int) - 1 - (m : Int)) (n := b.size - 1 - m) Try.underlying9 (by omega) h2' W
            have H3 := Lib.hid h3'
            clear h3'
            go_wp2
            go_quiet (fail)
            clear w1 w2 w3 w4 w5 w6
            go_wp2
            go_roundw
            case rel => exact ⟨m + 1, n + _, by omega, by omega, by go_num, fun j g1 g2 hj => by
              rcases Nat.lt_succ_iff_lt_or_eq.1 hj with h | rfl
              · exact hall.out j g1 g2 h
              · exact H3.out, rfl⟩
            case measure => simp [intOf]; omega
          · have HN := Lib.hid (dN_is (n := m) HF.out hxa hyb hall.out (fun g1 g2 he => hgo ⟨by omega, by omega, g1, g2, he⟩))
            have q1 : (k : Int) ≤ (b.size : Int) - m := by omega
            have q2 : (b.size : Int) - m ≤ b.size := by omega
            rcases (by
              by_cases g1 : k + m < a.size
              · by_cases g2 : k + m < b.size
                · refine .inr (.inr ⟨g1, g2, by omega, by omega, fun he => hgo ⟨by omega, by omega, g1, g2, he⟩⟩)
                · exact .inr (.inl ⟨g1, g2⟩)
              · exact .inl g1 : (¬ k + m < a.size) ∨ (k + m < a.size ∧ ¬ k + m < b.size) ∨ (k + m < a.size ∧ k + m < b.size ∧ ∃ (h1 : a.size - 1 - m < a.size) (h2 : b.size - 1 - m < b.size), a[a.size - 1 - m] ≠ b[b.size - 1 - m])) with g1 | ⟨g1, g2⟩ | ⟨g1, g2, h1', h2', h3'⟩
            case' inl =>
              have d4 : decide ((m : Int) < (a.size : Int) - (k : Int)) = false := by simp; omega
              have w1 : IntKind.i64.wrap ((a.size : Int) - (k : Int)) = (a.size : Int) - (k : Int) := IntWalk.i64_in _ (by omega)
            case' inr.inl =>
              have d4 : decide ((m : Int) < (a.size : Int) - (k : Int)) = true := by simp; omega
              have d5 : decide ((m : Int) < (b.size : Int) - (k : Int)) = false := by simp; omega
              have j1 : (m : Int) < (a.size : Int) - (k : Int) := by omega
              have w1 : IntKind.i64.wrap ((a.size : Int) - (k : Int)) = (a.size : Int) - (k : Int) := IntWalk.i64_in _ (by omega)
              have w2 : IntKind.i64.wrap ((b.size : Int) - (k : Int)) = (b.size : Int) - (k : Int) := IntWalk.i64_in _ (by omega)
            case' inr.inr =>
              have d4 : decide ((m : Int) < (a.size : Int) - (k : Int)) = true := by simp; omega
              have d5 : decide ((m : Int) < (b.size : Int) - (k : Int)) = true := by simp; omega
              have d6 := u8_ne h3'
              have j1 : (m : Int) < (a.size : Int) - (k : Int) := by omega
              have j2 : (m : Int) < (b.size : Int) - (k : Int) := by omega
              have w1 : IntKind.i64.wrap ((a.size : Int) - (k : Int)) = (a.size : Int) - (k : Int) := IntWalk.i64_in _ (by omega)
              have w2 : IntKind.i64.wrap ((b.size : Int) - (k : Int)) = (b.size : Int) - (k : Int) := IntWalk.i64_in _ (by omega)
              have w3 : IntKind.i64.wrap ((a.size : Int) - 1) = (a.size : Int) - 1 := IntWalk.i64_in _ (by omega)
              have w4 : IntKind.i64.wrap ((b.size : Int) - 1) = (b.size : Int) - 1 := IntWalk.i64_in _ (by omega)
              have w5 : IntKind.i64.wrap ((a.size : Int) - 1 - (m : Int)) = (a.size : Int) - 1 - (m : Int) := IntWalk.i64_in _ (by omega)
              have w6 : IntKind.i64.wrap ((b.size : Int) - 1 - (m : Int)) = (b.size : Int) - 1 - (m : Int) := IntWalk.i64_in _ (by omega)
              have x1 := fun W => index_at (P := Try.prog) (t := 9) (s := a) (k := .i64) (i := (a.size : Int) - 1 - (m : Int)) (n := a.size - 1 - m) Try.underlying9 (by omega) h1' W
              have x2 := fun W => index_at (P := Try.prog) (t := 9) (s := b) (k := .i64) (i := (b.size : Int) - 1 - (m : Int)) (n := b.size - 1 - m) Try.underlying9 (by omega) h2' W
              clear h3'
            all_goals first
              | (exfalso; omega)
              | (clear hgo hall
                 go_wp2
                 go_quiet (fail)
                 go_wp2
                 refine bodyPost_ret (v := .agg #[.int .i64 k, .int .i64 ((a.size : Int) - (m : Int)), .string (b.extract k (b.size - m))]) ?_ rfl ?_
                 · simp [results, Try.results6, go_sem]
                 · refine ⟨diffOf_end HF.out HN.out hxa, ?_⟩
                   exact (((below_drewN ((Below.refl _ _).alloc (Nat.le_refl _) _) _).setCell (Nat.le_refl _) _).setCell (Nat.le_refl _) _).setCell (Nat.le_refl _) _)
end Go.Proofs.Ytjfpaahidfhkoaa
