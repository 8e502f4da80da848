/- Package text: Retarget: what the program returns. -/
import Derived.Test.YtdhaanlgijikeaaDoorTgB
import Derived.WalkKit
import Derived.Lib.Hide
import Derived.Outline
import Derived.Deep.QuietTactic
import Derived.BigQuiet
import Derived.Deep.RegionHeld3
import Derived.Laws.DeepStrings4
namespace Go.Proofs.YtdhaanlgijikeaaDoor
open Go.RowKit

theorem rt_mem {lk : Int} : ∀ (l pre : List Sp) (st : Sp × Nat), (lk < st.2 → st.1 ∈ pre ∧ st.1.kind = 4) → lk < (l.foldl (rtStep lk) st).2 → (l.foldl (rtStep lk) st).1 ∈ pre ++ l ∧ (l.foldl (rtStep lk) st).1.kind = 4
  | [], pre, st, h, hl => by rw [List.append_nil]; exact h hl
  | x :: l, pre, st, h, hl => by
    rw [List.foldl_cons] at hl ⊢
    have e : pre ++ x :: l = (pre ++ [x]) ++ l := by simp
    rw [e]
    refine rt_mem l (pre ++ [x]) (rtStep lk st x) (fun h2 => ?_) hl
    unfold rtStep at h2 ⊢
    by_cases h4 : x.kind = 4
    · rw [if_pos h4] at h2 ⊢
      by_cases h5 : (st.2 : Int) = lk
      · rw [if_pos h5]
        exact ⟨by simp, h4⟩
      · rw [if_neg h5]
        have h6 : lk < st.2 := by simp only at h2; omega
        exact ⟨List.mem_append_left _ (h h6).1, (h h6).2⟩
    · rw [if_neg h4] at h2 ⊢
      exact ⟨List.mem_append_left _ (h h2).1, (h h2).2⟩
theorem rt_link {s : ByteArray} {lk : Int} (h0 : 0 ≤ lk) (hl : lk < (rtAll lk (spans s)).2) : (rtAll lk (spans s)).1.from_ + 4 + (rtAll lk (spans s)).1.text.size ≤ s.size := by
  obtain ⟨h1, h2⟩ := rt_mem (spans s) [] (zeroSp, 0) (fun h => by simp at h; omega) hl
  have h3 := link_in s _ h1 h2
  have h4 := (sps_in s _ h1).hi
  unfold rtAll
  omega

def rtRes (s : ByteArray) (lk : Int) (t : ByteArray) : ByteArray × Nat :=
  if lk < 0 ∨ ((rtAll lk (spans s)).2 : Int) ≤ lk then (⟨#[]⟩, 7)
  else if isTgt t = false then (⟨#[]⟩, 3)
  else if 2000 < s.size - (rtAll lk (spans s)).1.text.size + t.size then (⟨#[]⟩, 4)
  else (s.extract 0 ((rtAll lk (spans s)).1.from_ + 2) ++ t ++ s.extract ((rtAll lk (spans s)).1.from_ + 2 + (rtAll lk (spans s)).1.text.size) s.size, 0)

set_option maxHeartbeats 1000000 in
theorem tooLong_any (a b : Nat) (w : World) (ha : a ≤ 140737488355328) (hb : b ≤ 140737488355328) :
    Calls Tryd.prog 11 #[.int .i64 a, .int .i64 b] w fun e w' => e = .returned (.bool (decide (2000 < a + b))) ∧ w' = w := by
  by_cases h1 : 2000 < a
  · have p : (2000 : Int) < a := by omega
    have he : decide (2000 < a + b) = true := decide_eq_true (by omega)
    rw [he]
    clear he
    go_enter Tryd.func11, Tryd.ntmps11
    go_wp2
    go_ret
    exact ⟨rfl, rfl⟩
  · have p : ¬ (2000 : Int) < a := by omega
    by_cases h2 : 2000 < a + b
    · have p2 : (2000 : Int) - a < b := by omega
      have he : decide (2000 < a + b) = true := decide_eq_true h2
      rw [he]
      clear he h2
      go_enter Tryd.func11, Tryd.ntmps11
      go_wp2
      go_ret
      exact ⟨by first | rfl | (exact ret_bool (decide_eq_true (by omega))), rfl⟩
    · have p2 : ¬ (2000 : Int) - a < b := by omega
      have he : decide (2000 < a + b) = false := decide_eq_false h2
      rw [he]
      clear he h2
      go_enter Tryd.func11, Tryd.ntmps11
      go_wp2
      go_ret
      exact ⟨by first | rfl | (exact ret_bool (decide_eq_false (by omega))), rfl⟩

theorem tooLong_yes (a b : Int) (w : World) (a0 : 0 ≤ a) (a1 : a ≤ 140737488355328) (b0 : 0 ≤ b) (b1 : b ≤ 140737488355328) (h : 2000 < a + b) :
    Calls Tryd.prog 11 #[.int .i64 a, .int .i64 b] w fun e w' => e = .returned (.bool true) ∧ w' = w := by
  obtain ⟨a, rfl⟩ := Int.eq_ofNat_of_zero_le a0
  obtain ⟨b, rfl⟩ := Int.eq_ofNat_of_zero_le b0
  have := tooLong_any a b w (by omega) (by omega)
  rwa [decide_eq_true (show 2000 < a + b by omega)] at this
theorem tooLong_no (a b : Int) (w : World) (a0 : 0 ≤ a) (a1 : a ≤ 140737488355328) (b0 : 0 ≤ b) (b1 : b ≤ 140737488355328) (h : ¬ 2000 < a + b) :
    Calls Tryd.prog 11 #[.int .i64 a, .int .i64 b] w fun e w' => e = .returned (.bool false) ∧ w' = w := by
  obtain ⟨a, rfl⟩ := Int.eq_ofNat_of_zero_le a0
  obtain ⟨b, rfl⟩ := Int.eq_ofNat_of_zero_le b0
  have := tooLong_any a b w (by omega) (by omega)
  rwa [decide_eq_false (show ¬ 2000 < a + b by omega)] at this
theorem rt_visits (s : ByteArray) (N K C : Nat) (lk : Int) (hs : s.size ≤ 140737488355328) : Visits Tryd.prog 9 #[.pointer (some ⟨N, 0, none⟩), .pointer (some ⟨K, 0, none⟩), .pointer (some ⟨C, 0, none⟩)] spArgs (spans s) (RtI N K C lk) where
  enter := enters_of Tryd.func9 (by kernel_rfl) rfl
  lt := by
    intro done F w h k hk
    rw [h.f] at hk
    rcases hk with rfl | rfl | rfl
    · exact h.n.lt
    · exact h.k.lt
    · exact h.c.lt
  loc := by
    intro done F w w' h hk _
    have hk' := hk
    rw [h.f] at hk'
    exact ⟨h.n.kept (hk' N (.inl rfl)), h.k.kept (hk' K (.inr (.inl rfl))), h.c.kept (hk' C (.inr (.inr rfl))), h.nk, h.nc, h.kc, h.f⟩
  step := by
    intro done x post F w ha h
    have hc := cut_len ha
    have hl := rt_len lk done
    refine (rt_step N K C lk done x F w h (by omega)).mono ?_
    rintro e w' ⟨rfl, F', h1, h2⟩
    exact ⟨rfl, F', h1, h2⟩
theorem rt_start (lk : Int) (w : World) : RtI (w.heap.size + 2) w.heap.size (w.heap.size + 1) lk [] (fun j => j = w.heap.size + 2 ∨ j = w.heap.size ∨ j = w.heap.size + 1)
    (((w.alloc (.cells #[.int .i64 lk] 3)).alloc (.cells #[.int .i64 0, .int .i64 0, .int .i64 0, .string ⟨#[]⟩, .string ⟨#[]⟩, .int .i64 0, .bool false] 29)).alloc (.cells #[.int .i64 0] 3)) := by
  refine ⟨?_, ?_, ?_, by omega, by omega, by omega, rfl⟩
  · have e : w.heap.size + 2 = ((w.alloc (.cells #[.int .i64 lk] 3)).alloc (.cells #[.int .i64 0, .int .i64 0, .int .i64 0, .string ⟨#[]⟩, .string ⟨#[]⟩, .int .i64 0, .bool false] 29)).heap.size := by simp
    rw [e]
    exact heap_alloc_new _ _
  · unfold One
    rw [Below.heap_alloc _ _ _ (by simp; omega), Below.heap_alloc _ _ _ (by simp)]
    exact heap_alloc_new w _
  · unfold SpBlk
    rw [Below.heap_alloc _ _ _ (by simp)]
    have e : w.heap.size + 1 = (w.alloc (.cells #[.int .i64 lk] 3)).heap.size := by simp
    rw [e]
    exact heap_alloc_new _ _

set_option maxRecDepth 100000 in
set_option maxHeartbeats 4000000 in
theorem retarget_any (s : ByteArray) (lk : Int) (t : ByteArray) (w : World) (hs : s.size ≤ 140737488355328) (ht : t.size ≤ 140737488355328) :
    Calls Tryd.prog 5 #[.string s, .int .i64 lk, .string t] w (Quiet w (.tuple #[.string (rtRes s lk t).1, .int .i64 ((rtRes s lk t).2 : Int)])) := by
  have hmf : ∀ (fn : Fn) (first cap : Array Value) (w : World), (Instr.makeFunc fn first cap).run Tryd.prog w = .ok (.func fn first cap) w := fun _ _ _ _ => rfl
  have HE := Lib.hid (eachSpan_any s _ _ _ _ _ (by omega) (rt_visits s (w.heap.size + 2) w.heap.size (w.heap.size + 1) lk (by omega)) (rt_start lk w))
  obtain ⟨R, hR⟩ : ∃ R, R = rtRes s lk t := ⟨_, rfl⟩
  rw [← hR]
  have HR := Lib.hid hR
  clear hR
  go_enter Tryd.func5, Tryd.ntmps5
  go_wp2_with fail
  refine HE.out.mono ?_
  rintro e1 w1 ⟨rfl, F1, hI, hg⟩
  have hbl : Below w.heap.size w w1 := ((((Below.refl _ _).alloc (Nat.le_refl _) (.cells #[.int .i64 lk] 3)).alloc (by simp) (.cells #[.int .i64 0, .int .i64 0, .int .i64 0, .string ⟨#[]⟩, .string ⟨#[]⟩, .int .i64 0, .bool false] 29)).alloc (by simp; omega) (.cells #[.int .i64 0] 3)).trans (hg.out.below (by simp; omega) (fun k hk => by omega))
  have HB := Lib.hid hbl
  have cN := hI.n.cell
  have cK := hI.k.cell
  have hC := hI.c
  have hln := rt_len lk (spans s)
  have hsl := sps_len s
  have hlink : 0 ≤ lk → lk < (rtAll lk (spans s)).2 → (rtAll lk (spans s)).1.from_ + 4 + (rtAll lk (spans s)).1.text.size ≤ s.size := fun h0 h1 => rt_link h0 h1
  rcases hst : rtAll lk (spans s) with ⟨X, n⟩
  have hR := HR.out
  unfold rtRes at hR
  rw [hst] at hC cN hln hlink hR
  simp only at hC cN hln hlink hR
  obtain ⟨⟨y0, y1, y2, y3, y4, y5, y6⟩, -⟩ := blk7 hC
  have hT := fun W => isTarget_any t W (by omega)
  have hn2 : (n : Int) ≤ 140737488355328 := by omega
  clear hI hg hbl hC hst HE HR
  by_cases h0 : lk < 0
  · have hv : R = (⟨#[]⟩, 7) := by rw [hR, if_pos (.inl h0)]
    subst hv
    clear hR hT hlink
    go_wp2_with fail
    go_ret2
    exact ⟨rfl, HB.out⟩
  by_cases h1 : (n : Int) ≤ lk
  · have hv : R = (⟨#[]⟩, 7) := by rw [hR, if_pos (.inr h1)]
    subst hv
    clear hR hT hlink
    go_wp2_with fail
    go_ret2
    exact ⟨rfl, HB.out⟩
  rw [if_neg (by omega)] at hR
  have hlk := hlink (by omega) (by omega)
  cases hb : isTgt t with
  | false =>
    rw [hb] at hT
    have hv : R = (⟨#[]⟩, 3) := by rw [hR, if_pos hb]
    have HT := Lib.hid hT
    subst hv
    clear hR hT hb hlink
    go_wp2_with fail
    refine (HT.out _).mono ?_
    rintro e2 w2 ⟨rfl, rfl⟩
    go_wp2_with fail
    go_ret2
    exact ⟨rfl, HB.out⟩
  | true =>
    rw [hb] at hT
    rw [if_neg (by rw [hb]; simp)] at hR
    have HT := Lib.hid hT
    clear hT hb hlink
    by_cases h2 : 2000 < s.size - X.text.size + t.size
    · have hv : R = (⟨#[]⟩, 4) := by rw [hR, if_pos h2]
      subst hv
      clear hR
      go_wp2_with fail
      refine (HT.out _).mono ?_
      rintro e2 w2 ⟨rfl, rfl⟩
      go_wp2_with fail
      refine (tooLong_yes _ _ _ (by omega) (by omega) (by omega) (by omega) (by omega)).mono ?_
      rintro e3 w3 ⟨rfl, rfl⟩
      go_wp2_with fail
      go_ret2
      exact ⟨rfl, HB.out⟩
    · rw [if_neg h2] at hR
      have HV := Lib.hid hR
      clear hR
      go_wp2_with fail
      refine (HT.out _).mono ?_
      rintro e2 w2 ⟨rfl, rfl⟩
      go_wp2_with fail
      refine (tooLong_no _ _ _ (by omega) (by omega) (by omega) (by omega) (by omega)).mono ?_
      rintro e3 w3 ⟨rfl, rfl⟩
      have z1 : (s.extract 0 (X.from_ + 2)).size ≤ 4000000 := by rw [ByteArray.size_extract]; omega
      have i1 : (0 : Int) ≤ (X.from_ : Int) + 2 := by omega
      have i2 : (X.from_ : Int) + 2 ≤ s.size := by omega
      have i3 : (0 : Int) ≤ (X.from_ : Int) + 2 + X.text.size := by omega
      have i4 : (X.from_ : Int) + 2 + X.text.size ≤ s.size := by omega
      have i5 : ((X.from_ : Int) + 2).toNat = X.from_ + 2 := by omega
      have i6 : ((X.from_ : Int) + 2 + X.text.size).toNat = X.from_ + 2 + X.text.size := by omega
      have z2 : X.from_ + 2 + t.size ≤ 4000000 := by omega
      have z3 : X.from_ + 2 + t.size + (s.size - (X.from_ + 2 + X.text.size)) ≤ 4000000 := by omega
      go_wp2_with fail
      go_quiet (fail)
      go_wp2_with fail
      go_ret2
      exact ⟨by rw [HV.out]; rfl, below_drewN' HB.out _⟩
end Go.Proofs.YtdhaanlgijikeaaDoor
