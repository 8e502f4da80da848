/- DayGrids: Streak of the program. -/
import Derived.Test.YtfpiannnggkdiaaDoorGrB
import Derived.Deep.QuietTactic
namespace Go.Proofs.YtfpiannnggkdiaaDoor
open Go.RowKit Go.Maps

theorem wf_small {x : Int} (h1 : -1000000 ≤ x) (h2 : x ≤ 1000000) : (Lit.int .i64 x).wf = true := by
  simp only [Lit.wf, Bool.and_eq_true, decide_eq_true_eq]
  exact ⟨by show (-9223372036854775808 : Int) ≤ x; omega, by show x ≤ (9223372036854775807 : Int); omega⟩
theorem key_small {x : Int} (h1 : -1000000 ≤ x) (h2 : x ≤ 1000000) : keyOf Tryd.prog 3 (.int .i64 x) = some (intK x) := keyOf_int_mk Tryd.underlying3 (wf_small h1 h2)

set_option maxHeartbeats 400000 in
theorem dayIsDay_yes (d : Int) (w : World) (h0 : 0 ≤ d) (h1 : d ≤ 100000) :
    Calls Tryd.prog 16 #[.int .i64 d] w fun e w' => e = .returned (.bool true) ∧ w = w' := by
  go_enter Tryd.func16, Tryd.ntmps16
  go_wp2
  go_ret
  exact ⟨ret_boolC (by simp), rfl⟩
set_option maxHeartbeats 400000 in
theorem dayIsDay_no (d : Int) (w : World) (h : ¬ DayB d) :
    Calls Tryd.prog 16 #[.int .i64 d] w fun e w' => e = .returned (.bool false) ∧ w = w' := by
  unfold DayB at h
  rcases (by omega : d < 0 ∨ (0 ≤ d ∧ 100000 < d)) with h | ⟨h0, h⟩
  all_goals
    go_enter Tryd.func16, Tryd.ntmps16
    go_wp2
    go_ret
    exact ⟨ret_boolC (by first | rfl | (simp; omega)), rfl⟩

/-- At the head of each round. -/
def SkRow (w : World) (l : List Int) (k : Nat) (wr : World) : Prop :=
  ∃ D, wr.ownsMap Tryd.prog 3 (plainElem (H := Unit) Tryd.prog 4) w.heap.size k D ∧ SetIs D (l.take k) ∧ (∀ x ∈ l.take k, DayB x) ∧ Below w.heap.size w wr

set_option maxRecDepth 100000 in
set_option maxHeartbeats 4000000 in
theorem streak_any (l : List Int) (A : Option Addr) (c : Nat) (d : Int) (w : World) (hl : IntsAt w w.heap.size l (.slice A l.length c)) :
    Calls Tryd.prog 7 #[.slice A l.length c, .int .i64 d] w fun e w' => StreakIs l d e ∧ Below w.heap.size w w' := by
  by_cases hbig : 5000 < l.length
  · have H : Hid (StreakIs l d (.returned (.tuple #[.int .i64 0, .int .i64 4]))) := Lib.hid (.inl ⟨hbig, rfl⟩)
    have p1 : (5000 : Int) < l.length := by omega
    clear hbig hl
    generalize l.length = n at p1 ⊢
    go_enter Tryd.func7, Tryd.ntmps7
    go_wp2_with fail
    go_ret2
    exact ⟨H.out, Below.refl _ _⟩
  · have hle : l.length ≤ 5000 := by omega
    clear hbig
    have HBAD : Hid (StreakBad l d → StreakIs l d (.returned (.tuple #[.int .i64 0, .int .i64 2]))) := Lib.hid (fun h => .inr (.inl ⟨hle, h, rfl⟩))
    have HOK : Hid (¬ StreakBad l d → ∀ c : Nat, RunIs l (streak0 l d) c → c ≤ 100001 → StreakIs l d (.returned (.tuple #[.int .i64 c, .int .i64 0]))) := Lib.hid (fun h c h1 h2 => .inr (.inr ⟨hle, h, c, h1, h2, rfl⟩))
    have HL := Lib.hid hl
    obtain ⟨A', c', e, hc⟩ := hl.sl
    simp only [Value.slice.injEq] at e
    obtain ⟨rfl, -, rfl⟩ := e
    have HC := Lib.hid hc
    obtain ⟨n, hn⟩ : ∃ n, n = l.length := ⟨_, rfl⟩
    rw [← hn] at HC hle ⊢
    have HN := Lib.hid hn
    have p0 : ¬ (5000 : Int) < n := by omega
    have hn2 : (n : Int) ≤ 5000 := by omega
    have hn0 : (0 : Int) ≤ n := by omega
    have hmm : ∀ W : World, (Instr.makeMap 48 (some (.int .i64 (n : Int)))).run Tryd.prog W = .ok (.map (some W.heap.size)) (W.alloc (.map #[] 0)) := fun _ => by kernel_rfl
    clear hn hc hl
    go_enter Tryd.func7, Tryd.ntmps7
    go_wp2_with fail
    go_loopw [18] (fun i wr => ∃ k : Nat, k ≤ n ∧ i = .int .i64 k ∧ Hid (SkRow w l k wr)) (fun i _ => n - (intOf i).toNat)
    case atStart => exact ⟨0, Nat.zero_le _, rfl, Lib.hid ⟨.map [], World.ownsMap_made _ _ _ _, by rw [List.take_zero]; exact setIs_nil, by simp, (Below.refl _ _).alloc (Nat.le_refl _) _⟩⟩
    case round =>
      obtain ⟨k, hk, rfl, HR⟩ := hrel
      obtain ⟨D, hown, hD, hdays, hbel⟩ := HR.out
      clear HR
      by_cases hlt : k < n
      · have hkl : k < l.length := by rw [← HN.out]; exact hlt
        have p1 : (k : Int) < n := by omega
        obtain ⟨b1, o1, rfl, l1, d1⟩ : ∃ b off, A = some ⟨b, off, none⟩ ∧ b < w.heap.size ∧ ∀ j, j < n → w.cell? ⟨b, off + j, none⟩ = some (.int .i64 (l.getD j 0)) := by
          rcases HC.out with h | h
          · rw [h] at hkl; exact absurd hkl (by simp)
          · exact h
        have e1 := (hbel.cell (p := ⟨b1, o1 + k, none⟩) l1).trans (d1 k hlt)
        have hmem := getD_mem hkl
        obtain ⟨x, hx⟩ : ∃ x, x = l.getD k 0 := ⟨_, rfl⟩
        have htk : l.take (k + 1) = l.take k ++ [x] := by
          rw [List.take_succ_eq_append_getElem hkl, hx, List.getD_eq_getElem?_getD, List.getElem?_eq_getElem hkl]
          rfl
        rw [← hx] at e1 hmem
        clear hx d1
        by_cases hday : DayB x
        · obtain ⟨hd0, hd1⟩ := hday
          have hkey := key_small (x := x) (by omega) (by omega)
          have HP : Hid (SetIs (D.put (intK x) (.lit (.bool true))) (l.take (k + 1))) := Lib.hid (by rw [htk]; exact hD.put x)
          have HDS : Hid (∀ y ∈ l.take (k + 1), DayB y) := Lib.hid (by
            rw [htk]
            intro y hy
            rcases List.mem_append.1 hy with h | h
            · exact hdays y h
            · rw [List.mem_singleton.1 h]; exact ⟨hd0, hd1⟩)
          have HB := Lib.hid hbel
          clear hD hdays hbel htk
          go_wp2_with (first
            | (go_at_call 16; refine (dayIsDay_yes _ _ hd0 hd1).mono ?_; rintro e w' ⟨rfl, rfl⟩)
            | (at_mapUpdate; refine wpList_mapUpdate_own _ rfl _ _ _ 48 rfl 3 4 keyI Tryd.underlying48 _ w.heap.size k D rfl hown (by unfold maxLen; omega) _ _ _ rfl rfl hkey _ [] (plainElem_bool Tryd.underlying4 true) ?_; intro w3 hown3 hgrow3))
          go_roundw
          case rel => exact ⟨k + 1, by omega, by go_num, Lib.hid ⟨_, hown3, HP.out, HDS.out, HB.out.grown hgrow3 HB.out.size (fun j hj => by cases hj; exact Nat.le_refl _)⟩⟩
          case measure => simp [intOf]; omega
        · have HB := Lib.hid hbel
          have HE := Lib.hid (HBAD.out (.inl ⟨x, hmem, hday⟩))
          have HX := Lib.hid hday
          clear hD hdays hbel htk hown hday
          go_wp2_with (first
            | (go_at_call 16; refine (dayIsDay_no _ _ HX.out).mono ?_; rintro e w' ⟨rfl, rfl⟩))
          go_ret2
          exact ⟨HE.out, HB.out⟩
      · have p1 : ¬ (k : Int) < n := by omega
        have hkn : k = n := by omega
        have hall : l.take k = l := by rw [hkn, HN.out, List.take_length]
        rw [hall] at hD hdays
        by_cases hday : DayB d
        · have HNB : Hid (¬ StreakBad l d) := Lib.hid (fun h => by
            rcases h with ⟨x, hx, h⟩ | h
            · exact h (hdays x hx)
            · exact h hday)
          obtain ⟨hd0, hd1⟩ := hday
          have hkey := key_small (x := d) (by omega) (by omega)
          have HB := Lib.hid hbel
          have HD := Lib.hid hD
          have HDS := Lib.hid hdays
          by_cases hin : d ∈ l
          case' pos =>
            have hc := hD.at_ d
            rw [decide_eq_true hin] at hc
            have hs := streak0_in hin
          case' neg =>
            have hc := hD.at_ d
            rw [decide_eq_false hin] at hc
            have hs := streak0_out hin
          all_goals
            have HS := Lib.hid hs
            clear hD hdays hbel hall hs
            go_wp2_with (first
              | (go_at_call 16; refine (dayIsDay_yes _ _ hd0 hd1).mono ?_; rintro e w' ⟨rfl, rfl⟩)
              | (at_lookup; refine wpList_lookup_own_bool _ rfl _ _ 48 rfl 3 4 keyI Tryd.underlying48 Tryd.underlying4 (zeroB _) w.heap.size k D rfl hown _ _ rfl hkey _ hc ?_))
            go_loop [9] (fun i => ∃ j : Nat, i = .int .i64 j ∧ j ≤ 100001 ∧ Hid (∀ t : Nat, t < j → streak0 l d - t ∈ l)) (fun i => (streak0 l d + 1).toNat - (intOf i).toNat)
            case atStart => exact ⟨0, rfl, Nat.zero_le _, Lib.hid (fun t ht => absurd ht (Nat.not_lt_zero _))⟩
            case round =>
              obtain ⟨j, rfl, hj, HJ⟩ := hrel
              have hs2 := HS.out
              have hkj := key_small (x := streak0 l d - j) (by omega) (by omega)
              rw [hs2] at hkj
              by_cases hm : streak0 l d - (j : Int) ∈ l
              · have hcj := HD.out.at_ (streak0 l d - j)
                rw [decide_eq_true hm, hs2] at hcj
                obtain ⟨g0, g1⟩ := HDS.out _ hm
                have HK : Hid (∀ t : Nat, t < j + 1 → streak0 l d - t ∈ l) := Lib.hid (fun t ht => by
                  rcases (by omega : t < j ∨ t = j) with h | h
                  · exact HJ.out t h
                  · subst h; exact hm)
                clear hc hm
                go_wp2_with (at_lookup; refine wpList_lookup_own_bool _ rfl _ _ 48 rfl 3 4 keyI Tryd.underlying48 Tryd.underlying4 (zeroB _) w.heap.size k D rfl hown _ _ rfl hkj _ hcj ?_)
                go_round
                case rel => exact ⟨j + 1, by go_num, by omega, HK⟩
                case measure => simp [intOf]; omega
              · have hcj := HD.out.at_ (streak0 l d - j)
                rw [decide_eq_false hm, hs2] at hcj
                have HE := Lib.hid (HOK.out HNB.out j ⟨HJ.out, hm⟩ hj)
                clear hc hm
                go_wp2_with (at_lookup; refine wpList_lookup_own_bool _ rfl _ _ 48 rfl 3 4 keyI Tryd.underlying48 Tryd.underlying4 (zeroB _) w.heap.size k D rfl hown _ _ rfl hkj _ hcj ?_)
                go_ret2
                exact ⟨HE.out, HB.out⟩
        · have HB := Lib.hid hbel
          have HE := Lib.hid (HBAD.out (.inr hday))
          have HX := Lib.hid hday
          clear hD hdays hbel hall hown hday
          go_wp2_with (first
            | (go_at_call 16; refine (dayIsDay_no _ _ HX.out).mono ?_; rintro e w' ⟨rfl, rfl⟩))
          go_ret2
          exact ⟨HE.out, HB.out⟩
end Go.Proofs.YtfpiannnggkdiaaDoor
