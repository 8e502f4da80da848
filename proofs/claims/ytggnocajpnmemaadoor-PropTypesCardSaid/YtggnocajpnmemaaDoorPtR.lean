/- Properties: checkType. -/
import Derived.Test.YtggnocajpnmemaaDoorPtQ
import Derived.Laws.DeepStrings4
namespace Go.Proofs.YtggnocajpnmemaaDoor
open Go.RowKit Go.Shelf

def choicesFrom : List ByteArray → List ByteArray → Int
  | _, [] => 0
  | d, x :: r => if 2000 < x.size then 4 else if hasS d x then 6 else choicesFrom (d ++ [x]) r
def typeE (k : Int) (cs : List ByteArray) (least most : Int) : Int :=
  if ¬ (1 ≤ k ∧ k ≤ 7) then 10 else if 0 < cs.length ∧ k ≠ 3 then 1 else if (least ≠ 0 ∨ most ≠ 0) ∧ k ≠ 2 then 1
  else if 20 < cs.length then 4 else if choicesFrom [] cs ≠ 0 then choicesFrom [] cs else if most < least then 5 else 0
theorem choices_at {l : List ByteArray} {j : Nat} (hj : j < l.length) (h : choicesFrom [] l = choicesFrom (l.take j) (l.drop j)) (h1 : ¬ 2000 < l[j].size) (h2 : hasS (l.take j) l[j] = false) : choicesFrom [] l = choicesFrom (l.take (j + 1)) (l.drop (j + 1)) := by
  rw [h, List.drop_eq_getElem_cons hj, choicesFrom, if_neg h1, h2, if_neg (by simp), List.take_append_getElem hj]
theorem choices_large {l : List ByteArray} {j : Nat} (hj : j < l.length) (h : choicesFrom [] l = choicesFrom (l.take j) (l.drop j)) (h1 : 2000 < l[j].size) : choicesFrom [] l = 4 := by
  rw [h, List.drop_eq_getElem_cons hj, choicesFrom, if_pos h1]
theorem choices_twice {l : List ByteArray} {j : Nat} (hj : j < l.length) (h : choicesFrom [] l = choicesFrom (l.take j) (l.drop j)) (h1 : ¬ 2000 < l[j].size) (h2 : hasS (l.take j) l[j] = true) : choicesFrom [] l = 6 := by
  rw [h, List.drop_eq_getElem_cons hj, choicesFrom, if_neg h1, h2, if_pos rfl]
theorem choices_end {l : List ByteArray} {j : Nat} (hj : j = l.length) (h : choicesFrom [] l = choicesFrom (l.take j) (l.drop j)) : choicesFrom [] l = 0 := by
  rw [h, hj, List.drop_length]; rfl
structure TyRow (w : World) (l : List ByteArray) (A : Option Addr) (n c : Nat) (least most : Int) (j : Nat) (wx : World) : Prop where
  le : j ≤ l.length
  bad : choicesFrom [] l = choicesFrom (l.take j) (l.drop j)
  bel : Below w.heap.size w wx
  k3 : wx.cell? ⟨w.heap.size, 3, none⟩ = some (.slice A n c)
  k4 : wx.cell? ⟨w.heap.size, 4, none⟩ = some (.int .i64 least)
  k5 : wx.cell? ⟨w.heap.size, 5, none⟩ = some (.int .i64 most)

set_option maxRecDepth 100000 in
set_option maxHeartbeats 8000000 in
theorem checkType_any (nm : ByteArray) (k : Int) (need : Bool) (l : List ByteArray) (least most : Int) (A : Option Addr) (c : Nat) (w : World) (hl : StSl w w.heap.size l (.slice A l.length c)) :
    Calls Tryd.prog 16 #[.agg #[.string nm, .int .i64 k, .bool need, .slice A l.length c, .int .i64 least, .int .i64 most]] w (Quiet w (.int .i64 (typeE k l least most))) := by
  have hnc : l.length ≤ 140737488355328 ∧ l.length ≤ c := by obtain ⟨_, _, e, h1, h2, _⟩ := hl; injection e with _ _ e; subst e; exact ⟨h1, h2⟩
  obtain ⟨hn, hcap⟩ := hnc
  have HSL := Lib.hid hl
  obtain ⟨n, hnn⟩ : ∃ n, n = l.length := ⟨_, rfl⟩
  rw [← hnn] at hn hcap HSL ⊢
  have HN := Lib.hid hnn
  have HK := Lib.hid (fun W => isKind_any k W)
  have HT : Hid (typeE k l least most = if ¬ (1 ≤ k ∧ k ≤ 7) then 10 else if 0 < n ∧ k ≠ 3 then 1 else if (least ≠ 0 ∨ most ≠ 0) ∧ k ≠ 2 then 1 else if 20 < n then 4 else if choicesFrom [] l ≠ 0 then choicesFrom [] l else if most < least then 5 else 0) := Lib.hid (by rw [hnn]; rfl)
  clear hl hnn
  by_cases hk : 1 ≤ k ∧ k ≤ 7
  · rw [show inR k 0 7 = true from decide_eq_true (by omega)] at HK
    have q0 : (k == 0) = false := by simp; omega
    obtain ⟨b3, h3⟩ : ∃ b, (k != 3) = b := ⟨_, rfl⟩
    obtain ⟨b2, h2⟩ : ∃ b, (k != 2) = b := ⟨_, rfl⟩
    obtain ⟨bl, h4⟩ : ∃ b, (least != 0) = b := ⟨_, rfl⟩
    obtain ⟨bm, h5⟩ : ∃ b, (most != 0) = b := ⟨_, rfl⟩
    have k3 : k ≠ 3 ↔ b3 = true := by rw [← h3]; simp
    have k2 : k ≠ 2 ↔ b2 = true := by rw [← h2]; simp
    have kl : least ≠ 0 ↔ bl = true := by rw [← h4]; simp
    have km : most ≠ 0 ↔ bm = true := by rw [← h5]; simp
    have K := Lib.hid (And.intro k3 (And.intro k2 (And.intro kl km)))
    clear k3 k2 kl km
    rw [if_neg (by omega)] at HT
    by_cases hn0 : 0 < n
    · have p1 : (0 : Int) < n := by omega
      cases b3
      · have hk3 : k = 3 := by have := K.out.1; simpa using this
        rw [if_neg (by rw [hk3]; simp)] at HT
        subst hk3
        obtain rfl : b2 = true := by rw [← h2]; rfl
        clear hk
        by_cases hlm : bl = true ∨ bm = true
        · have HE : Hid (typeE 3 l least most = 1) := Lib.hid (by rw [HT.out, if_pos ⟨by rcases hlm with h | h; exact .inl (K.out.2.2.1.mpr h); exact .inr (K.out.2.2.2.mpr h), by decide⟩])
          clear HT K hn0
          cases bl <;> cases bm
          all_goals first
            | exact absurd hlm (by decide)
            | (clear hlm
               go_enter Tryd.func16, Tryd.ntmps16
               go_wp2_with fail
               refine (HK.out _).mono ?_
               rintro e1 w1 ⟨rfl, hw1⟩
               rw [hw1]
               clear hw1
               go_wp2_with fail
               go_ret
               exact ⟨ret_int HE.out.symm, (Below.refl _ _).alloc (Nat.le_refl _) _⟩)
        · have hbl : bl = false := by cases bl; rfl; exact absurd (.inl rfl) hlm
          have hbm : bm = false := by cases bm; rfl; exact absurd (.inr rfl) hlm
          subst hbl hbm
          rw [if_neg (by rintro ⟨h | h, _⟩; exact absurd (K.out.2.2.1.mp h) (by decide); exact absurd (K.out.2.2.2.mp h) (by decide))] at HT
          clear hlm K
          by_cases h20 : 20 < n
          · have HE : Hid (typeE 3 l least most = 4) := Lib.hid (by rw [HT.out, if_pos h20])
            have p2 : (20 : Int) < n := by omega
            clear HT h20 hn0
            go_enter Tryd.func16, Tryd.ntmps16
            go_wp2_with fail
            refine (HK.out _).mono ?_
            rintro e1 w1 ⟨rfl, hw1⟩
            rw [hw1]
            clear hw1
            go_wp2_with fail
            go_ret
            exact ⟨ret_int HE.out.symm, (Below.refl _ _).alloc (Nat.le_refl _) _⟩
          · rw [if_neg h20] at HT
            have p2 : ¬ (20 : Int) < n := by omega
            clear h20 hn0
            go_enter Tryd.func16, Tryd.ntmps16
            go_wp2_with fail
            refine (HK.out _).mono ?_
            rintro e1 w1 ⟨rfl, hw1⟩
            rw [hw1]
            clear hw1
            go_wp2_with fail
            go_loopw [43] (fun iv wx => ∃ j : Nat, iv = .int .i64 j ∧ Hid (TyRow w l A n c least most j wx)) (fun iv _ => n - (intOf iv).toNat)
            case atStart =>
              refine ⟨0, rfl, Lib.hid ⟨Nat.zero_le _, rfl, (Below.refl _ _).alloc (Nat.le_refl _) _, ?_, ?_, ?_⟩⟩
              · exact cell_of_row _ w.heap.size 3 _ _ (0, 0) (heap_alloc_new w _)
              · exact cell_of_row _ w.heap.size 4 _ _ (0, 0) (heap_alloc_new w _)
              · exact cell_of_row _ w.heap.size 5 _ _ (0, 0) (heap_alloc_new w _)
            case round =>
              obtain ⟨j, rfl, HR⟩ := hrel
              have hjl : j ≤ n := by have := HR.out.le; rw [HN.out]; exact this
              by_cases hj : j < n
              · have hj2 : j < l.length := by rw [← HN.out]; exact hj
                have p3 : (j : Int) < n := by omega
                have p4 : (j : Int) ≤ c := by omega
                have p5 : j ≤ c := by omega
                have hlen : (l.take j).length = j := by rw [List.length_take]; omega
                have hst := StSl.take (by rw [← HN.out]; exact HSL.out) (Nat.le_of_lt hj2)
                obtain ⟨x, hx⟩ : ∃ x, x = l[j] := ⟨_, rfl⟩
                have HC := Lib.hid (fun W (hW : Below w.heap.size w W) => strContains_any (l.take j) x A c w.heap.size W (hst.below hW (Nat.le_refl _)))
                rw [hlen] at HC
                obtain ⟨b, off, rfl, hlt, gj⟩ : ∃ b off, A = some ⟨b, off, none⟩ ∧ b < w.heap.size ∧ w.cell? ⟨b, off + j, none⟩ = some (.string x) := by
                  obtain ⟨A', c', e, h1, h2, h3⟩ := HSL.out
                  injection e with e1 e2 e3
                  subst e1
                  rcases h3 with h3 | ⟨b, off, rfl, h3⟩
                  · rw [h3] at hj2; exact absurd hj2 (by simp)
                  · exact ⟨b, off, rfl, (SRow.get l b off j h3 hj2).1, by rw [hx]; exact (SRow.get l b off j h3 hj2).2.1⟩
                replace gj := (HR.out.bel.cell (p := ⟨b, off + j, none⟩) hlt).trans gj
                have g3 := HR.out.k3
                clear hst hlen
                by_cases hx20 : 2000 < x.size
                · have HC4 := Lib.hid (choices_large hj2 HR.out.bad (by rw [← hx]; exact hx20))
                  have HE : Hid (typeE 3 l least most = 4) := Lib.hid (by rw [HT.out, if_pos (by rw [HC4.out]; decide), HC4.out])
                  have p6 : (2000 : Int) < x.size := by omega
                  have HB := Lib.hid HR.out.bel
                  clear hx HR hx20 HC
                  go_wp2_with fail
                  go_ret
                  exact ⟨ret_int HE.out.symm, HB.out⟩
                · have p6 : ¬ (2000 : Int) < x.size := by omega
                  rcases hh : hasS (l.take j) x with _ | _
                  · have HNX := Lib.hid (choices_at hj2 HR.out.bad (by rw [← hx]; exact hx20) (by rw [← hx]; exact hh))
                    rw [hh] at HC
                    clear hx hx20 hh
                    go_wp2_with fail
                    refine (HC.out _ HR.out.bel).mono ?_
                    rintro e6 w6 ⟨rfl, hw6⟩
                    rw [hw6]
                    clear hw6
                    go_wp2_with fail
                    go_roundw
                    case rel => exact ⟨j + 1, by go_num, Lib.hid ⟨hj2, HNX.out, HR.out.bel, HR.out.k3, HR.out.k4, HR.out.k5⟩⟩
                    case measure => simp [intOf]; omega
                  · have HC4 := Lib.hid (choices_twice hj2 HR.out.bad (by rw [← hx]; exact hx20) (by rw [← hx]; exact hh))
                    have HE : Hid (typeE 3 l least most = 6) := Lib.hid (by rw [HT.out, if_pos (by rw [HC4.out]; decide), HC4.out])
                    rw [hh] at HC
                    clear hx hx20 hh
                    go_wp2_with fail
                    refine (HC.out _ HR.out.bel).mono ?_
                    rintro e6 w6 ⟨rfl, hw6⟩
                    rw [hw6]
                    clear hw6
                    go_wp2_with fail
                    go_ret
                    exact ⟨ret_int HE.out.symm, HR.out.bel⟩
              · have p3 : ¬ (j : Int) < n := by omega
                have HC4 := Lib.hid (choices_end (by rw [← HN.out]; omega) HR.out.bad)
                have HB := Lib.hid HR.out.bel
                have g4 := HR.out.k4
                have g5 := HR.out.k5
                clear HR
                by_cases hml : most < least
                · have HE : Hid (typeE 3 l least most = 5) := Lib.hid (by rw [HT.out, if_neg (by rw [HC4.out]; simp), if_pos hml])
                  go_wp2_with fail
                  go_ret
                  exact ⟨ret_int HE.out.symm, HB.out⟩
                · have HE : Hid (typeE 3 l least most = 0) := Lib.hid (by rw [HT.out, if_neg (by rw [HC4.out]; simp), if_neg hml])
                  go_wp2_with fail
                  go_ret
                  exact ⟨ret_int HE.out.symm, HB.out⟩
      · have HE : Hid (typeE k l least most = 1) := Lib.hid (by rw [HT.out, if_pos ⟨hn0, K.out.1.mpr rfl⟩])
        clear HT K hn0
        go_enter Tryd.func16, Tryd.ntmps16
        go_wp2_with fail
        refine (HK.out _).mono ?_
        rintro e1 w1 ⟨rfl, hw1⟩
        rw [hw1]
        clear hw1
        go_wp2_with fail
        go_ret
        exact ⟨ret_int HE.out.symm, (Below.refl _ _).alloc (Nat.le_refl _) _⟩
    · obtain rfl : n = 0 := by omega
      rw [if_neg (by simp)] at HT
      have hnil : l = [] := List.eq_nil_of_length_eq_zero HN.out.symm
      have HC0 : Hid (choicesFrom [] l = 0) := Lib.hid (by rw [hnil]; rfl)
      clear hnil hn0
      by_cases hlm : (bl = true ∨ bm = true) ∧ b2 = true
      · have HE : Hid (typeE k l least most = 1) := Lib.hid (by rw [HT.out, if_pos ⟨by rcases hlm.1 with h | h; exact .inl (K.out.2.2.1.mpr h); exact .inr (K.out.2.2.2.mpr h), K.out.2.1.mpr hlm.2⟩])
        clear HT K
        cases b3 <;> cases b2 <;> cases bl <;> cases bm
        all_goals first
          | exact absurd hlm (by decide)
          | (clear hlm
             go_enter Tryd.func16, Tryd.ntmps16
             go_wp2_with fail
             refine (HK.out _).mono ?_
             rintro e1 w1 ⟨rfl, hw1⟩
             rw [hw1]
             clear hw1
             go_wp2_with fail
             go_ret
             exact ⟨ret_int HE.out.symm, (Below.refl _ _).alloc (Nat.le_refl _) _⟩)
      · rw [if_neg (by rintro ⟨h, h'⟩; exact hlm ⟨by rcases h with h | h; exact .inl (K.out.2.2.1.mp h); exact .inr (K.out.2.2.2.mp h), K.out.2.1.mp h'⟩), if_neg (by omega), if_neg (by rw [HC0.out]; simp)] at HT
        have HQ : Hid (∃ r : Int, typeE k l least most = r ∧ ((most < least ∧ r = 5) ∨ (¬ most < least ∧ r = 0))) := Lib.hid (by
          by_cases h : most < least
          · exact ⟨5, by rw [HT.out, if_pos h], .inl ⟨h, rfl⟩⟩
          · exact ⟨0, by rw [HT.out, if_neg h], .inr ⟨h, rfl⟩⟩)
        clear HT K
        cases b3 <;> cases b2 <;> cases bl <;> cases bm
        all_goals first
          | exact absurd (by decide) hlm
          | (clear hlm
             go_enter Tryd.func16, Tryd.ntmps16
             go_wp2_with fail
             refine (HK.out _).mono ?_
             rintro e1 w1 ⟨rfl, hw1⟩
             rw [hw1]
             clear hw1
             go_wp2_with fail
             go_loopw [43] (fun iv wx => iv = .int .i64 0 ∧ Hid (TyRow w l A 0 c least most 0 wx)) (fun _ _ => 0)
             case atStart =>
               refine ⟨rfl, Lib.hid ⟨Nat.zero_le _, rfl, (Below.refl _ _).alloc (Nat.le_refl _) _, ?_, ?_, ?_⟩⟩
               · exact cell_of_row _ w.heap.size 3 _ _ (0, 0) (heap_alloc_new w _)
               · exact cell_of_row _ w.heap.size 4 _ _ (0, 0) (heap_alloc_new w _)
               · exact cell_of_row _ w.heap.size 5 _ _ (0, 0) (heap_alloc_new w _)
             case round =>
               obtain ⟨rfl, HR⟩ := hrel
               have HB := Lib.hid HR.out.bel
               have g4 := HR.out.k4
               have g5 := HR.out.k5
               clear HR
               obtain ⟨r, hr, h | h⟩ := HQ.out
               · obtain ⟨hml, rfl⟩ := h
                 have HE := Lib.hid hr
                 clear hr
                 go_wp2_with fail
                 go_ret
                 exact ⟨ret_int HE.out.symm, HB.out⟩
               · obtain ⟨hml, rfl⟩ := h
                 have HE := Lib.hid hr
                 clear hr
                 go_wp2_with fail
                 go_ret
                 exact ⟨ret_int HE.out.symm, HB.out⟩)
  · have HE : Hid (typeE k l least most = 10) := Lib.hid (by rw [HT.out, if_pos hk])
    clear HT
    by_cases hk0 : k = 0
    · subst hk0
      rw [show inR 0 0 7 = true from rfl] at HK
      clear hk
      go_enter Tryd.func16, Tryd.ntmps16
      go_wp2_with fail
      refine (HK.out _).mono ?_
      rintro e1 w1 ⟨rfl, hw1⟩
      rw [hw1]
      clear hw1
      go_wp2_with fail
      go_ret
      exact ⟨ret_int HE.out.symm, (Below.refl _ _).alloc (Nat.le_refl _) _⟩
    · rw [show inR k 0 7 = false from decide_eq_false (by omega)] at HK
      clear hk hk0
      go_enter Tryd.func16, Tryd.ntmps16
      go_wp2_with fail
      refine (HK.out _).mono ?_
      rintro e1 w1 ⟨rfl, hw1⟩
      rw [hw1]
      clear hw1
      go_wp2_with fail
      go_ret
      exact ⟨ret_int HE.out.symm, (Below.refl _ _).alloc (Nat.le_refl _) _⟩
end Go.Proofs.YtggnocajpnmemaaDoor
