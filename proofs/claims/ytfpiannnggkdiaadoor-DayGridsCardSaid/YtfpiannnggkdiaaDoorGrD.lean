/- DayGrids: slices.Index, Contains, IndexFunc, ContainsFunc at numbers; the reference's StreakOf. -/
import Derived.Test.YtfpiannnggkdiaaDoorGrC
import Derived.Shelf.Abstract
import Derived.KernelRfl
namespace Go.Proofs.YtfpiannnggkdiaaDoor
open Go.RowKit Go.Maps Go.Shelf

theorem IntsAt.cells {w : World} {l : List Int} {A : Option Addr} {c : Nat} (h : IntsAt w w.heap.size l (.slice A l.length c)) : l = [] ∨ ∃ b off, A = some ⟨b, off, none⟩ ∧ b < w.heap.size ∧ ∀ j, j < l.length → w.cell? ⟨b, off + j, none⟩ = some (.int .i64 (l.getD j 0)) := by
  obtain ⟨A', c', e, hc⟩ := h.sl
  simp only [Value.slice.injEq] at e
  obtain ⟨rfl, -, rfl⟩ := e
  exact hc
theorem mem_getD {l : List Int} {x : Int} (h : x ∈ l) : ∃ j, j < l.length ∧ l.getD j 0 = x := by
  obtain ⟨j, hj, rfl⟩ := List.mem_iff_getElem.1 h
  exact ⟨j, hj, by rw [List.getD_eq_getElem?_getD, List.getElem?_eq_getElem hj]; rfl⟩

set_option maxRecDepth 100000 in
set_option maxHeartbeats 4000000 in
theorem intIndex_any (l : List Int) (A : Option Addr) (c : Nat) (x : Int) (w : World) (hl : IntsAt w w.heap.size l (.slice A l.length c)) :
    Calls Tryd.prog 52 #[.slice A l.length c, .int .i64 x] w fun e w' => (∃ r : Int, e = .returned (.int .i64 r) ∧ (0 ≤ r ↔ x ∈ l)) ∧ w = w' := by
  have hle := hl.len
  have HC := Lib.hid hl.cells
  have HM := Lib.hid (fun (h : x ∈ l) => mem_getD h)
  have HG := Lib.hid (fun (j : Nat) (h : j < l.length) => getD_mem (zs := l) h)
  obtain ⟨n, hn⟩ : ∃ n, n = l.length := ⟨_, rfl⟩
  rw [← hn] at HC HM HG hle ⊢
  have HN := Lib.hid hn
  have hn2 : (n : Int) ≤ 17592186044416 := by omega
  clear hl hn
  go_enter Tryd.func52, Tryd.ntmps52
  go_wp2_with fail
  go_loop [8] (fun i => ∃ j : Nat, i = .int .i64 j ∧ j ≤ n ∧ Hid (∀ t, t < j → l.getD t 0 ≠ x)) (fun i => n - (intOf i).toNat)
  case atStart => exact ⟨0, rfl, Nat.zero_le _, Lib.hid (fun t ht => absurd ht (Nat.not_lt_zero _))⟩
  case round =>
    obtain ⟨j, rfl, hjl, HR⟩ := hrel
    by_cases hj : j < n
    · have p2 : (j : Int) < n := by omega
      obtain ⟨b1, o1, rfl, l1, d1⟩ : ∃ b off, A = some ⟨b, off, none⟩ ∧ b < w.heap.size ∧ ∀ j, j < n → w.cell? ⟨b, off + j, none⟩ = some (.int .i64 (l.getD j 0)) := by
        rcases HC.out with h | h
        · exfalso
          have := HN.out
          rw [h] at this
          simp at this
          omega
        · exact h
      have e1 := d1 j hj
      have hm := HG.out j hj
      obtain ⟨y, hy⟩ : ∃ y, y = l.getD j 0 := ⟨_, rfl⟩
      rw [← hy] at e1 hm
      have HY := Lib.hid hy
      clear hy d1
      by_cases he : x = y
      · subst he
        have p3 : (x == x) = true := by simp
        have HB := Lib.hid hm
        clear hm
        go_wp2_with fail
        go_ret
        exact ⟨⟨(j : Int), rfl, Iff.intro (fun _ => HB.out) (fun _ => Int.natCast_nonneg j)⟩, rfl⟩
      · have p3 : (x == y) = false := by simpa using he
        have HK : Hid (∀ t, t < j + 1 → l.getD t 0 ≠ x) := Lib.hid (fun t ht => by
          rcases (by omega : t < j ∨ t = j) with h | h
          · exact HR.out t h
          · subst h; rw [← HY.out]; exact fun e => he e.symm)
        clear he
        go_wp2_with fail
        go_round
        case rel => exact ⟨j + 1, by go_num, by omega, HK⟩
        case measure => simp [intOf]; omega
    · have p2 : ¬ (j : Int) < n := by omega
      have HO : Hid (x ∉ l) := Lib.hid (fun h => by
        obtain ⟨t, ht, e⟩ := HM.out h
        exact HR.out t (by omega) e)
      clear HR
      go_wp2_with fail
      go_ret
      exact ⟨⟨-1, rfl, Iff.intro (fun h => absurd h (by decide)) (fun h => absurd h HO.out)⟩, rfl⟩
open Classical in
set_option maxHeartbeats 4000000 in
theorem intContains_any (l : List Int) (A : Option Addr) (c : Nat) (x : Int) (w : World) (hl : IntsAt w w.heap.size l (.slice A l.length c)) :
    Calls Tryd.prog 23 #[.slice A l.length c, .int .i64 x] w fun e w' => e = .returned (.bool (decide (x ∈ l))) ∧ w = w' := by
  have HC := Lib.hid (intIndex_any l A c x w hl)
  have HD : Hid (∀ r : Int, (0 ≤ r ↔ x ∈ l) → decide (r ≥ 0) = decide (x ∈ l)) := Lib.hid (fun r h => by by_cases hx : x ∈ l <;> simp [hx, h])
  generalize l.length = n at HC ⊢
  clear hl
  go_enter Tryd.func23, Tryd.ntmps23
  go_wp2_with fail
  refine HC.out.mono ?_
  rintro e6 w6 ⟨⟨r, rfl, hr⟩, rfl⟩
  have HRR := Lib.hid hr
  clear hr
  go_wp2_with fail
  go_ret
  exact ⟨ret_boolC (HD.out r HRR.out), rfl⟩
set_option maxHeartbeats 4000000 in
theorem notDay_yes (x : Int) (w : World) (h : DayB x) : Calls Tryd.prog 22 #[.int .i64 x] w fun e w' => e = .returned (.bool false) ∧ w = w' := by
  obtain ⟨h0, h1⟩ := h
  go_enter Tryd.func22, Tryd.ntmps22
  go_wp2_with (go_at_call 20; refine (refIsDay_yes _ _ h0 h1).mono ?_; rintro e w' ⟨rfl, rfl⟩)
  go_ret
  exact ⟨rfl, rfl⟩
set_option maxHeartbeats 4000000 in
theorem notDay_no (x : Int) (w : World) (h : ¬ DayB x) : Calls Tryd.prog 22 #[.int .i64 x] w fun e w' => e = .returned (.bool true) ∧ w = w' := by
  have H : Hid (x < 0 ∨ 100000 < x) := Lib.hid (by unfold DayB at h; omega)
  clear h
  go_enter Tryd.func22, Tryd.ntmps22
  go_wp2_with (go_at_call 20; refine (refIsDay_no _ _ H.out).mono ?_; rintro e w' ⟨rfl, rfl⟩)
  go_ret
  exact ⟨rfl, rfl⟩
set_option maxRecDepth 100000 in
set_option maxHeartbeats 4000000 in
theorem intIndexFunc_any (l : List Int) (A : Option Addr) (c : Nat) (w : World) (hl : IntsAt w w.heap.size l (.slice A l.length c)) :
    Calls Tryd.prog 51 #[.slice A l.length c, .func (Fn.func 22) #[] #[]] w fun e w' => (∃ r : Int, e = .returned (.int .i64 r) ∧ (0 ≤ r ↔ ∃ x ∈ l, ¬ DayB x)) ∧ w = w' := by
  have hen := enters_of Tryd.func22 (by kernel_rfl) rfl
  have hle := hl.len
  have HC := Lib.hid hl.cells
  have HM := Lib.hid (fun (x : Int) (h : x ∈ l) => mem_getD h)
  have HG := Lib.hid (fun (j : Nat) (h : j < l.length) => getD_mem (zs := l) h)
  obtain ⟨n, hn⟩ : ∃ n, n = l.length := ⟨_, rfl⟩
  rw [← hn] at HC HM HG hle ⊢
  have HN := Lib.hid hn
  have hn2 : (n : Int) ≤ 17592186044416 := by omega
  clear hl hn
  go_enter Tryd.func51, Tryd.ntmps51
  go_wp2_with fail
  go_loop [8] (fun i => ∃ j : Nat, i = .int .i64 j ∧ j ≤ n ∧ Hid (∀ t, t < j → DayB (l.getD t 0))) (fun i => n - (intOf i).toNat)
  case atStart => exact ⟨0, rfl, Nat.zero_le _, Lib.hid (fun t ht => absurd ht (Nat.not_lt_zero _))⟩
  case round =>
    obtain ⟨j, rfl, hjl, HR⟩ := hrel
    by_cases hj : j < n
    · have p2 : (j : Int) < n := by omega
      obtain ⟨b1, o1, rfl, l1, d1⟩ : ∃ b off, A = some ⟨b, off, none⟩ ∧ b < w.heap.size ∧ ∀ j, j < n → w.cell? ⟨b, off + j, none⟩ = some (.int .i64 (l.getD j 0)) := by
        rcases HC.out with h | h
        · exfalso
          have := HN.out
          rw [h] at this
          simp at this
          omega
        · exact h
      have e1 := d1 j hj
      have hm := HG.out j hj
      obtain ⟨y, hy⟩ : ∃ y, y = l.getD j 0 := ⟨_, rfl⟩
      rw [← hy] at e1 hm
      have HY := Lib.hid hy
      clear hy d1
      by_cases he : DayB y
      · have HK : Hid (∀ t, t < j + 1 → DayB (l.getD t 0)) := Lib.hid (fun t ht => by
          rcases (by omega : t < j ∨ t = j) with h | h
          · exact HR.out t h
          · subst h; rw [← HY.out]; exact he)
        have HX := Lib.hid he
        clear he
        go_wp2_with fail
        refine (notDay_yes y _ HX.out).mono ?_
        rintro e6 w6 ⟨rfl, rfl⟩
        go_wp2_with fail
        go_round
        case rel => exact ⟨j + 1, by go_num, by omega, HK⟩
        case measure => simp [intOf]; omega
      · have HX := Lib.hid he
        have HB := Lib.hid hm
        clear he hm
        go_wp2_with fail
        refine (notDay_no y _ HX.out).mono ?_
        rintro e6 w6 ⟨rfl, rfl⟩
        go_wp2_with fail
        go_ret
        exact ⟨⟨(j : Int), rfl, Iff.intro (fun _ => ⟨y, HB.out, HX.out⟩) (fun _ => Int.natCast_nonneg j)⟩, rfl⟩
    · have p2 : ¬ (j : Int) < n := by omega
      have HO : Hid (¬ ∃ x ∈ l, ¬ DayB x) := Lib.hid (fun ⟨x, h, hx⟩ => by
        obtain ⟨t, ht, e⟩ := HM.out x h
        exact hx (e ▸ HR.out t (by omega)))
      clear HR
      go_wp2_with fail
      go_ret
      exact ⟨⟨-1, rfl, Iff.intro (fun h => absurd h (by decide)) (fun h => absurd h HO.out)⟩, rfl⟩
open Classical in
set_option maxHeartbeats 4000000 in
theorem intContainsFunc_any (l : List Int) (A : Option Addr) (c : Nat) (w : World) (hl : IntsAt w w.heap.size l (.slice A l.length c)) :
    Calls Tryd.prog 21 #[.slice A l.length c, .func (Fn.func 22) #[] #[]] w fun e w' => e = .returned (.bool (decide (∃ x ∈ l, ¬ DayB x))) ∧ w = w' := by
  have HC := Lib.hid (intIndexFunc_any l A c w hl)
  have HD : Hid (∀ r : Int, (0 ≤ r ↔ ∃ x ∈ l, ¬ DayB x) → decide (r ≥ 0) = decide (∃ x ∈ l, ¬ DayB x)) := Lib.hid (fun r h => by
    by_cases hx : ∃ x ∈ l, ¬ DayB x
    · rw [decide_eq_true hx, decide_eq_true (h.2 hx)]
    · rw [decide_eq_false hx, decide_eq_false (fun g => hx (h.1 g))])
  generalize decide (∃ x ∈ l, ¬ DayB x) = bb at HD ⊢
  generalize l.length = n at HC ⊢
  clear hl
  go_enter Tryd.func21, Tryd.ntmps21
  go_wp2_with fail
  refine HC.out.mono ?_
  rintro e6 w6 ⟨⟨r, rfl, hr⟩, rfl⟩
  have HRR := Lib.hid hr
  clear hr
  go_wp2_with fail
  go_ret
  exact ⟨ret_boolC (HD.out r HRR.out), rfl⟩
end Go.Proofs.YtfpiannnggkdiaaDoor
