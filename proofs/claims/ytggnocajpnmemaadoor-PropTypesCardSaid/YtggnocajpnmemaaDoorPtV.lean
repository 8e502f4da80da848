/- Properties: the reference's TypesFault. -/
import Derived.Test.YtggnocajpnmemaaDoorPtU
namespace Go.Proofs.YtggnocajpnmemaaDoor
open Go.RowKit Go.Shelf

set_option maxRecDepth 100000 in
set_option maxHeartbeats 20000000 in
theorem typesFault_any (l : List TV) (A : Option Addr) (c : Nat) (w : World) (hl : TySl w w.heap.size l (.slice A l.length c)) :
    Calls Tryd.prog 8 #[.slice A l.length c] w (Quiet w (.int .i64 (typesE l))) := by
  have hnc : l.length ≤ 140737488355328 ∧ l.length ≤ c := by obtain ⟨_, _, e, h1, h2, _⟩ := hl; injection e with _ _ e; subst e; exact ⟨h1, h2⟩
  obtain ⟨hn, hcap⟩ := hnc
  have HSL := Lib.hid hl
  have hpe : typesE l = if 40 < l.length then 4 else typesFrom [] l := rfl
  rw [hpe]
  clear hpe
  obtain ⟨n, hnn⟩ : ∃ n, n = l.length := ⟨_, rfl⟩
  rw [← hnn] at hn hcap HSL ⊢
  have HN := Lib.hid hnn
  clear hl hnn
  by_cases h40 : 40 < n
  · rw [if_pos h40]
    have p1 : (40 : Int) < n := by omega
    clear h40
    go_enter Tryd.func8, Tryd.ntmps8
    go_wp2_with fail
    go_ret
    exact ⟨rfl, Below.refl _ _⟩
  · rw [if_neg h40]
    have p1 : ¬ (40 : Int) < n := by omega
    have hn20 : n ≤ 40 := by omega
    clear h40 hn
    go_enter Tryd.func8, Tryd.ntmps8
    go_wp2_with fail
    go_loopw [12] (fun iv wx => ∃ j : Nat, iv = .int .i64 j ∧ Hid (TlRow l w j wx)) (fun iv _ => n - (intOf iv).toNat)
    case atStart => exact ⟨0, rfl, Lib.hid ⟨Nat.zero_le _, rfl, Below.refl _ _⟩⟩
    case round =>
      obtain ⟨j, rfl, HR⟩ := hrel
      have hjl : j ≤ n := by have := HR.out.le; rw [HN.out]; exact this
      by_cases hj : j < n
      · have hj2 : j < l.length := by rw [← HN.out]; exact hj
        have p2 : (j : Int) < n := by omega
        have p4 : (j : Int) ≤ c := by omega
        have p5 : j ≤ c := by omega
        have hlen : (l.take j).length = j := by rw [List.length_take]; omega
        have hst := TySl.take (by rw [← HN.out]; exact HSL.out) (Nat.le_of_lt hj2)
        obtain ⟨b, off, nm, kd, nd, cs, le, mo, Ac, cc, rfl, hx, hlt, gn, g1, g2, g3, g4, g5, hnz, gs⟩ := type_item (by rw [← HN.out]; exact HSL.out) hj2
        have hbel := HR.out.bel
        replace gn := (hbel.cell (p := ⟨b, off + j * 6, none⟩) hlt).trans gn
        replace g1 := (hbel.cell (p := ⟨b, off + j * 6 + 1, none⟩) hlt).trans g1
        replace g2 := (hbel.cell (p := ⟨b, off + j * 6 + 2, none⟩) hlt).trans g2
        replace g3 := (hbel.cell (p := ⟨b, off + j * 6 + 3, none⟩) hlt).trans g3
        replace g4 := (hbel.cell (p := ⟨b, off + j * 6 + 4, none⟩) hlt).trans g4
        replace g5 := (hbel.cell (p := ⟨b, off + j * 6 + 5, none⟩) hlt).trans g5
        have HBL := Lib.hid hbel
        have hszw := HBL.out.size
        have HNM := Lib.hid (fun W => isName_any nm W (by omega))
        have HC1 := Lib.hid (fun (W : World) (b' : Nat) (hW : Below w.heap.size w W) (ha : Asks 19 #[.pointer (some ⟨b', 0, none⟩)] nm W) => typeContains_any (l.take j) nm _ _ (some ⟨b, off, none⟩) c W ((hst.below hW (Nat.le_refl _)).up hW.size) ha)
        rw [hlen] at HC1
        obtain ⟨r, hr⟩ : ∃ r, r = typeE kd cs le mo := ⟨_, rfl⟩
        have hie : itemT (l.take j) l[j] = if nameOk nm = false then 3 else if hasT (l.take j) nm = true then 6 else r := by rw [hx, hr]; rfl
        obtain ⟨m, hm⟩ : ∃ m, m = cs.length := ⟨_, rfl⟩
        have hmc : m ≤ cc := by obtain ⟨_, _, e, h1, h2, _⟩ := gs; injection e with _ _ e; subst e; omega
        have HGS := Lib.hid gs
        rw [← hm] at g3 HGS
        have HM := Lib.hid hm
        have HT : Hid (r = if ¬ (1 ≤ kd ∧ kd ≤ 7) then 10 else if 0 < m ∧ kd ≠ 3 then 1 else if (le ≠ 0 ∨ mo ≠ 0) ∧ kd ≠ 2 then 1 else if 20 < m then 4 else if choicesFrom [] cs ≠ 0 then choicesFrom [] cs else if mo < le then 5 else 0) := Lib.hid (by rw [hr, hm]; rfl)
        have HIE := Lib.hid hie
        have HBAD := Lib.hid HR.out.bad
        clear hx gs hm hie hr hst hlen hbel HR
        rcases hnm : nameOk nm with _ | _
        · rw [hnm, if_pos rfl] at HIE
          have HE2 := Lib.hid (types_hit hj2 HBAD.out (by rw [HIE.out]; decide))
          rw [HIE.out] at HE2
          rw [hnm] at HNM
          clear hnm HIE HT HC1
          go_wp2_with fail
          refine (HNM.out _).mono ?_
          rintro e5 w5 ⟨rfl, hb5⟩
          have HB5 := Lib.hid ((HBL.out.alloc hszw _).trans (hb5.mono (by simp; omega)))
          clear hb5
          go_wp2_with fail
          go_ret
          exact ⟨ret_int HE2.out.symm, HB5.out⟩
        · rw [hnm, if_neg (by simp)] at HIE
          rw [hnm] at HNM
          clear hnm
          rcases hh : hasT (l.take j) nm with _ | _
          · rw [hh, if_neg (by simp)] at HIE
            rw [hh] at HC1
            clear hh
            by_cases hk : 1 ≤ kd ∧ kd ≤ 7
            · have q1 : ¬ kd < 1 := by omega
              have q7 : ¬ 7 < kd := by omega
              obtain ⟨b3, h3⟩ : ∃ b, (kd != 3) = b := ⟨_, rfl⟩
              obtain ⟨b2, h2⟩ : ∃ b, (kd != 2) = b := ⟨_, rfl⟩
              obtain ⟨bl, h4⟩ : ∃ b, (le != 0) = b := ⟨_, rfl⟩
              obtain ⟨bm, h5⟩ : ∃ b, (mo != 0) = b := ⟨_, rfl⟩
              have k3 : kd ≠ 3 ↔ b3 = true := by rw [← h3]; simp
              have k2 : kd ≠ 2 ↔ b2 = true := by rw [← h2]; simp
              have kl : le ≠ 0 ↔ bl = true := by rw [← h4]; simp
              have km : mo ≠ 0 ↔ bm = true := by rw [← h5]; simp
              have K := Lib.hid (And.intro k3 (And.intro k2 (And.intro kl km)))
              clear k3 k2 kl km
              rw [if_neg (by omega)] at HT
              clear hk
              by_cases hn0 : 0 < m
              · have p6 : (0 : Int) < m := by omega
                cases b3
                · have hk3 : kd = 3 := by have := K.out.1; simpa using this
                  rw [if_neg (by rw [hk3]; simp)] at HT
                  obtain rfl : b2 = true := by rw [← h2, hk3]; rfl
                  clear hk3
                  by_cases hlm : bl = true ∨ bm = true
                  · have hrx : r = 1 := by rw [HT.out, if_pos ⟨by rcases hlm with h | h; exact .inl (K.out.2.2.1.mpr h); exact .inr (K.out.2.2.2.mpr h), K.out.2.1.mpr rfl⟩]
                    have HE2 := Lib.hid ((types_hit hj2 HBAD.out (by rw [HIE.out, hrx]; decide)).trans (by rw [HIE.out, hrx]))
                    clear hrx
                    clear HT K hn0
                    cases bl <;> cases bm
                    all_goals first
                      | exact absurd hlm (by decide)
                      | (clear hlm
                         go_wp2_with fail
                         refine (HNM.out _).mono ?_
                         rintro e5 w5 ⟨rfl, hb5⟩
                         obtain ⟨hb5, hblk⟩ := keep_box hb5
                         have hB5 := HBL.out.trans (hb5.mono hszw)
                         have hsz5 := lt_of_blk' hblk
                         have d0 := cell_of_row w5 _ 0 _ _ (0, 0) hblk
                         have HK5 := Lib.hid (And.intro hb5 (And.intro hblk (And.intro hB5 (And.intro hsz5 d0))))
                         clear hb5 hblk hB5 hsz5
                         go_wp2_with fail
                         refine (HC1.out _ _ HK5.out.2.2.1 (refAsks nm _ _ HK5.out.2.2.2.2 HK5.out.2.2.2.1)).mono ?_
                         rintro e6 w6 ⟨rfl, hb6⟩
                         have hblk := (hb6.block _ HK5.out.2.2.2.1).trans HK5.out.2.1
                         have HR6 := Lib.hid (HK5.out.1.trans (hb6.mono HK5.out.1.size))
                         have HB6 := Lib.hid (HBL.out.trans (HR6.out.mono hszw))
                         clear hb6 d0
                         have c0 := cell_of_row w6 _ 0 _ _ (0, 0) hblk
                         have c1 := cell_of_row w6 _ 1 _ _ (0, 0) hblk
                         have c2 := cell_of_row w6 _ 2 _ _ (0, 0) hblk
                         have c3 := cell_of_row w6 _ 3 _ _ (0, 0) hblk
                         have c4 := cell_of_row w6 _ 4 _ _ (0, 0) hblk
                         have c5 := cell_of_row w6 _ 5 _ _ (0, 0) hblk
                         clear hblk
                         go_wp2_with fail
                         go_ret
                         exact ⟨ret_int HE2.out.symm, HB6.out⟩)
                  · have hbl : bl = false := by cases bl; rfl; exact absurd (.inl rfl) hlm
                    have hbm : bm = false := by cases bm; rfl; exact absurd (.inr rfl) hlm
                    subst hbl hbm
                    rw [if_neg (by rintro ⟨h | h, _⟩; exact absurd (K.out.2.2.1.mp h) (by decide); exact absurd (K.out.2.2.2.mp h) (by decide))] at HT
                    clear hlm K
                    by_cases h20 : 20 < m
                    · have hrx : r = 4 := by rw [HT.out, if_pos h20]
                      have HE2 := Lib.hid ((types_hit hj2 HBAD.out (by rw [HIE.out, hrx]; decide)).trans (by rw [HIE.out, hrx]))
                      clear hrx
                      have p7 : (20 : Int) < m := by omega
                      clear HT h20 hn0
                      go_wp2_with fail
                      refine (HNM.out _).mono ?_
                      rintro e5 w5 ⟨rfl, hb5⟩
                      obtain ⟨hb5, hblk⟩ := keep_box hb5
                      have hB5 := HBL.out.trans (hb5.mono hszw)
                      have hsz5 := lt_of_blk' hblk
                      have d0 := cell_of_row w5 _ 0 _ _ (0, 0) hblk
                      have HK5 := Lib.hid (And.intro hb5 (And.intro hblk (And.intro hB5 (And.intro hsz5 d0))))
                      clear hb5 hblk hB5 hsz5
                      go_wp2_with fail
                      refine (HC1.out _ _ HK5.out.2.2.1 (refAsks nm _ _ HK5.out.2.2.2.2 HK5.out.2.2.2.1)).mono ?_
                      rintro e6 w6 ⟨rfl, hb6⟩
                      have hblk := (hb6.block _ HK5.out.2.2.2.1).trans HK5.out.2.1
                      have HR6 := Lib.hid (HK5.out.1.trans (hb6.mono HK5.out.1.size))
                      have HB6 := Lib.hid (HBL.out.trans (HR6.out.mono hszw))
                      clear hb6 d0
                      have c0 := cell_of_row w6 _ 0 _ _ (0, 0) hblk
                      have c1 := cell_of_row w6 _ 1 _ _ (0, 0) hblk
                      have c2 := cell_of_row w6 _ 2 _ _ (0, 0) hblk
                      have c3 := cell_of_row w6 _ 3 _ _ (0, 0) hblk
                      have c4 := cell_of_row w6 _ 4 _ _ (0, 0) hblk
                      have c5 := cell_of_row w6 _ 5 _ _ (0, 0) hblk
                      clear hblk
                      go_wp2_with fail
                      go_ret
                      exact ⟨ret_int HE2.out.symm, HB6.out⟩
                    · rw [if_neg h20] at HT
                      have p7 : ¬ (20 : Int) < m := by omega
                      have hm20 : m ≤ 20 := by omega
                      clear h20 hn0
                      go_wp2_with fail
                      refine (HNM.out _).mono ?_
                      rintro e5 w5 ⟨rfl, hb5⟩
                      obtain ⟨hb5, hblk⟩ := keep_box hb5
                      have hB5 := HBL.out.trans (hb5.mono hszw)
                      have hsz5 := lt_of_blk' hblk
                      have d0 := cell_of_row w5 _ 0 _ _ (0, 0) hblk
                      have HK5 := Lib.hid (And.intro hb5 (And.intro hblk (And.intro hB5 (And.intro hsz5 d0))))
                      clear hb5 hblk hB5 hsz5
                      go_wp2_with fail
                      refine (HC1.out _ _ HK5.out.2.2.1 (refAsks nm _ _ HK5.out.2.2.2.2 HK5.out.2.2.2.1)).mono ?_
                      rintro e6 w6 ⟨rfl, hb6⟩
                      have hblk := (hb6.block _ HK5.out.2.2.2.1).trans HK5.out.2.1
                      have HR6 := Lib.hid (HK5.out.1.trans (hb6.mono HK5.out.1.size))
                      have HB6 := Lib.hid (HBL.out.trans (HR6.out.mono hszw))
                      clear hb6 d0
                      have c0 := cell_of_row w6 _ 0 _ _ (0, 0) hblk
                      have c1 := cell_of_row w6 _ 1 _ _ (0, 0) hblk
                      have c2 := cell_of_row w6 _ 2 _ _ (0, 0) hblk
                      have c3 := cell_of_row w6 _ 3 _ _ (0, 0) hblk
                      have c4 := cell_of_row w6 _ 4 _ _ (0, 0) hblk
                      have c5 := cell_of_row w6 _ 5 _ _ (0, 0) hblk
                      clear hblk
                      go_wp2_with fail
                      have HSZ := Lib.hid hszw
                      obtain ⟨wo, rfl⟩ : ∃ wo : World, wo = wr := ⟨_, rfl⟩
                      go_loopw [68] (fun iv wx => ∃ i : Nat, iv = .int .i64 i ∧ Hid (TyRow wo cs Ac m cc le mo i wx)) (fun iv _ => m - (intOf iv).toNat)
                      case atStart => exact ⟨0, rfl, Lib.hid ⟨Nat.zero_le _, rfl, HR6.out, c3, c4, c5⟩⟩
                      case round =>
                        clear c0 c1 c2 c3 c4 c5
                        obtain ⟨i, rfl, HQ⟩ := hrel
                        have hil : i ≤ m := by have := HQ.out.le; rw [HM.out]; exact this
                        have hbw := HBL.out.trans (HQ.out.bel.mono HSZ.out)
                        have HBW := Lib.hid hbw
                        by_cases hi : i < m
                        · have hi2 : i < cs.length := by rw [← HM.out]; exact hi
                          have v3 : (i : Int) < m := by omega
                          have v4 : (i : Int) ≤ cc := by omega
                          have v5 : i ≤ cc := by omega
                          have hlen : (cs.take i).length = i := by rw [List.length_take]; omega
                          have hst := StSl.take (by rw [← HM.out]; exact HGS.out) (Nat.le_of_lt hi2)
                          obtain ⟨x, hx⟩ : ∃ x, x = cs[i] := ⟨_, rfl⟩
                          have HC3 := Lib.hid (fun W (hW : Below w.heap.size w W) => strContains_any (cs.take i) x Ac cc w.heap.size W (hst.below hW (Nat.le_refl _)))
                          rw [hlen] at HC3
                          obtain ⟨b', off', rfl, hlt', gx⟩ : ∃ b off, Ac = some ⟨b, off, none⟩ ∧ b < w.heap.size ∧ w.cell? ⟨b, off + i, none⟩ = some (.string x) := by
                            obtain ⟨A', c', e, h1, h2, h3⟩ := HGS.out
                            injection e with e1 e2 e3
                            subst e1
                            rcases h3 with h3 | ⟨b, off, rfl, h3⟩
                            · rw [h3] at hi2; exact absurd hi2 (by simp)
                            · exact ⟨b, off, rfl, (SRow.get cs b off i h3 hi2).1, by rw [hx]; exact (SRow.get cs b off i h3 hi2).2.1⟩
                          replace gx := (hbw.cell (p := ⟨b', off' + i, none⟩) hlt').trans gx
                          have g3' := HQ.out.k3
                          clear hst hlen hbw
                          by_cases hx20 : 2000 < x.size
                          · have HC4 := Lib.hid (choices_large hi2 HQ.out.bad (by rw [← hx]; exact hx20))
                            have hrx : r = 4 := by rw [HT.out, if_pos (by rw [HC4.out]; decide), HC4.out]
                            have HE2 := Lib.hid ((types_hit hj2 HBAD.out (by rw [HIE.out, hrx]; decide)).trans (by rw [HIE.out, hrx]))
                            clear hrx
                            have p8 : (2000 : Int) < x.size := by omega
                            clear hx hx20 HC3 HQ
                            go_wp2_with fail
                            go_ret
                            exact ⟨ret_int HE2.out.symm, HBW.out⟩
                          · have p8 : ¬ (2000 : Int) < x.size := by omega
                            rcases hh : hasS (cs.take i) x with _ | _
                            · have HNX := Lib.hid (choices_at hi2 HQ.out.bad (by rw [← hx]; exact hx20) (by rw [← hx]; exact hh))
                              rw [hh] at HC3
                              clear hx hx20 hh
                              go_wp2_with fail
                              refine (HC3.out _ HBW.out).mono ?_
                              rintro e8 w8 ⟨rfl, hw8⟩
                              rw [hw8]
                              clear hw8
                              go_wp2_with fail
                              go_roundw
                              case rel => exact ⟨i + 1, by go_num, Lib.hid ⟨hi2, HNX.out, HQ.out.bel, HQ.out.k3, HQ.out.k4, HQ.out.k5⟩⟩
                              case measure => simp [intOf]; omega
                            · have HC4 := Lib.hid (choices_twice hi2 HQ.out.bad (by rw [← hx]; exact hx20) (by rw [← hx]; exact hh))
                              have hrx : r = 6 := by rw [HT.out, if_pos (by rw [HC4.out]; decide), HC4.out]
                              have HE2 := Lib.hid ((types_hit hj2 HBAD.out (by rw [HIE.out, hrx]; decide)).trans (by rw [HIE.out, hrx]))
                              clear hrx
                              rw [hh] at HC3
                              clear hx hx20 hh
                              go_wp2_with fail
                              refine (HC3.out _ HBW.out).mono ?_
                              rintro e8 w8 ⟨rfl, hw8⟩
                              rw [hw8]
                              clear hw8
                              go_wp2_with fail
                              go_ret
                              exact ⟨ret_int HE2.out.symm, HBW.out⟩
                        · have v3 : ¬ (i : Int) < m := by omega
                          have HC4 := Lib.hid (choices_end (by rw [← HM.out]; omega) HQ.out.bad)
                          have g4' := HQ.out.k4
                          have g5' := HQ.out.k5
                          clear HQ hbw
                          by_cases hml : mo < le
                          · have hrx : r = 5 := by rw [HT.out, if_neg (by rw [HC4.out]; simp), if_pos hml]
                            have HE2 := Lib.hid ((types_hit hj2 HBAD.out (by rw [HIE.out, hrx]; decide)).trans (by rw [HIE.out, hrx]))
                            clear hrx
                            go_wp2_with fail
                            go_ret
                            exact ⟨ret_int HE2.out.symm, HBW.out⟩
                          · have hr0 : r = 0 := by rw [HT.out, if_neg (by rw [HC4.out]; simp), if_neg hml]
                            have HNX := Lib.hid (types_at hj2 HBAD.out (by rw [HIE.out, hr0]))
                            clear hr0
                            go_wp2_with fail
                            go_roundw
                            case rel => exact ⟨j + 1, by go_num, Lib.hid ⟨hj2, HNX.out, HBW.out⟩⟩
                            case measure => simp [intOf]; omega
                · have hrx : r = 1 := by rw [HT.out, if_pos ⟨hn0, K.out.1.mpr rfl⟩]
                  have HE2 := Lib.hid ((types_hit hj2 HBAD.out (by rw [HIE.out, hrx]; decide)).trans (by rw [HIE.out, hrx]))
                  clear hrx
                  clear HT K hn0
                  go_wp2_with fail
                  refine (HNM.out _).mono ?_
                  rintro e5 w5 ⟨rfl, hb5⟩
                  obtain ⟨hb5, hblk⟩ := keep_box hb5
                  have hB5 := HBL.out.trans (hb5.mono hszw)
                  have hsz5 := lt_of_blk' hblk
                  have d0 := cell_of_row w5 _ 0 _ _ (0, 0) hblk
                  have HK5 := Lib.hid (And.intro hb5 (And.intro hblk (And.intro hB5 (And.intro hsz5 d0))))
                  clear hb5 hblk hB5 hsz5
                  go_wp2_with fail
                  refine (HC1.out _ _ HK5.out.2.2.1 (refAsks nm _ _ HK5.out.2.2.2.2 HK5.out.2.2.2.1)).mono ?_
                  rintro e6 w6 ⟨rfl, hb6⟩
                  have hblk := (hb6.block _ HK5.out.2.2.2.1).trans HK5.out.2.1
                  have HR6 := Lib.hid (HK5.out.1.trans (hb6.mono HK5.out.1.size))
                  have HB6 := Lib.hid (HBL.out.trans (HR6.out.mono hszw))
                  clear hb6 d0
                  have c0 := cell_of_row w6 _ 0 _ _ (0, 0) hblk
                  have c1 := cell_of_row w6 _ 1 _ _ (0, 0) hblk
                  have c2 := cell_of_row w6 _ 2 _ _ (0, 0) hblk
                  have c3 := cell_of_row w6 _ 3 _ _ (0, 0) hblk
                  have c4 := cell_of_row w6 _ 4 _ _ (0, 0) hblk
                  have c5 := cell_of_row w6 _ 5 _ _ (0, 0) hblk
                  clear hblk
                  go_wp2_with fail
                  go_ret
                  exact ⟨ret_int HE2.out.symm, HB6.out⟩
              · obtain rfl : m = 0 := by omega
                rw [if_neg (by simp)] at HT
                have hnil : cs = [] := List.eq_nil_of_length_eq_zero HM.out.symm
                have HC0 : Hid (choicesFrom [] cs = 0) := Lib.hid (by rw [hnil]; rfl)
                clear hnil hn0
                by_cases hlm : (bl = true ∨ bm = true) ∧ b2 = true
                · have hrx : r = 1 := by rw [HT.out, if_pos ⟨by rcases hlm.1 with h | h; exact .inl (K.out.2.2.1.mpr h); exact .inr (K.out.2.2.2.mpr h), K.out.2.1.mpr hlm.2⟩]
                  have HE2 := Lib.hid ((types_hit hj2 HBAD.out (by rw [HIE.out, hrx]; decide)).trans (by rw [HIE.out, hrx]))
                  clear hrx
                  clear HT K
                  cases b3 <;> cases b2 <;> cases bl <;> cases bm
                  all_goals first
                    | exact absurd hlm (by decide)
                    | (clear hlm
                       go_wp2_with fail
                       refine (HNM.out _).mono ?_
                       rintro e5 w5 ⟨rfl, hb5⟩
                       obtain ⟨hb5, hblk⟩ := keep_box hb5
                       have hB5 := HBL.out.trans (hb5.mono hszw)
                       have hsz5 := lt_of_blk' hblk
                       have d0 := cell_of_row w5 _ 0 _ _ (0, 0) hblk
                       have HK5 := Lib.hid (And.intro hb5 (And.intro hblk (And.intro hB5 (And.intro hsz5 d0))))
                       clear hb5 hblk hB5 hsz5
                       go_wp2_with fail
                       refine (HC1.out _ _ HK5.out.2.2.1 (refAsks nm _ _ HK5.out.2.2.2.2 HK5.out.2.2.2.1)).mono ?_
                       rintro e6 w6 ⟨rfl, hb6⟩
                       have hblk := (hb6.block _ HK5.out.2.2.2.1).trans HK5.out.2.1
                       have HR6 := Lib.hid (HK5.out.1.trans (hb6.mono HK5.out.1.size))
                       have HB6 := Lib.hid (HBL.out.trans (HR6.out.mono hszw))
                       clear hb6 d0
                       have c0 := cell_of_row w6 _ 0 _ _ (0, 0) hblk
                       have c1 := cell_of_row w6 _ 1 _ _ (0, 0) hblk
                       have c2 := cell_of_row w6 _ 2 _ _ (0, 0) hblk
                       have c3 := cell_of_row w6 _ 3 _ _ (0, 0) hblk
                       have c4 := cell_of_row w6 _ 4 _ _ (0, 0) hblk
                       have c5 := cell_of_row w6 _ 5 _ _ (0, 0) hblk
                       clear hblk
                       go_wp2_with fail
                       go_ret
                       exact ⟨ret_int HE2.out.symm, HB6.out⟩)
                · rw [if_neg (by rintro ⟨h, h'⟩; exact hlm ⟨by rcases h with h | h; exact .inl (K.out.2.2.1.mp h); exact .inr (K.out.2.2.2.mp h), K.out.2.1.mp h'⟩), if_neg (by omega), if_neg (by rw [HC0.out]; simp)] at HT
                  clear K
                  cases b3 <;> cases b2 <;> cases bl <;> cases bm
                  all_goals first
                    | exact absurd (by decide) hlm
                    | (clear hlm
                       go_wp2_with fail
                       refine (HNM.out _).mono ?_
                       rintro e5 w5 ⟨rfl, hb5⟩
                       obtain ⟨hb5, hblk⟩ := keep_box hb5
                       have hB5 := HBL.out.trans (hb5.mono hszw)
                       have hsz5 := lt_of_blk' hblk
                       have d0 := cell_of_row w5 _ 0 _ _ (0, 0) hblk
                       have HK5 := Lib.hid (And.intro hb5 (And.intro hblk (And.intro hB5 (And.intro hsz5 d0))))
                       clear hb5 hblk hB5 hsz5
                       go_wp2_with fail
                       refine (HC1.out _ _ HK5.out.2.2.1 (refAsks nm _ _ HK5.out.2.2.2.2 HK5.out.2.2.2.1)).mono ?_
                       rintro e6 w6 ⟨rfl, hb6⟩
                       have hblk := (hb6.block _ HK5.out.2.2.2.1).trans HK5.out.2.1
                       have HR6 := Lib.hid (HK5.out.1.trans (hb6.mono HK5.out.1.size))
                       have HB6 := Lib.hid (HBL.out.trans (HR6.out.mono hszw))
                       clear hb6 d0
                       have c0 := cell_of_row w6 _ 0 _ _ (0, 0) hblk
                       have c1 := cell_of_row w6 _ 1 _ _ (0, 0) hblk
                       have c2 := cell_of_row w6 _ 2 _ _ (0, 0) hblk
                       have c3 := cell_of_row w6 _ 3 _ _ (0, 0) hblk
                       have c4 := cell_of_row w6 _ 4 _ _ (0, 0) hblk
                       have c5 := cell_of_row w6 _ 5 _ _ (0, 0) hblk
                       clear hblk
                       go_wp2_with fail
                       have HSZ := Lib.hid hszw
                       obtain ⟨wo, rfl⟩ : ∃ wo : World, wo = wr := ⟨_, rfl⟩
                       go_loopw [68] (fun iv wx => iv = .int .i64 0 ∧ Hid (TyRow wo cs Ac 0 cc le mo 0 wx)) (fun _ _ => 0)
                       case atStart => exact ⟨rfl, Lib.hid ⟨Nat.zero_le _, rfl, HR6.out, c3, c4, c5⟩⟩
                       case round =>
                         clear c0 c1 c2 c3 c4 c5
                         obtain ⟨rfl, HQ⟩ := hrel
                         have HBW := Lib.hid (HBL.out.trans (HQ.out.bel.mono HSZ.out))
                         have g4' := HQ.out.k4
                         have g5' := HQ.out.k5
                         clear HQ
                         by_cases hml : mo < le
                         · have hrx : r = 5 := by rw [HT.out, if_pos hml]
                           have HE2 := Lib.hid ((types_hit hj2 HBAD.out (by rw [HIE.out, hrx]; decide)).trans (by rw [HIE.out, hrx]))
                           clear hrx
                           go_wp2_with fail
                           go_ret
                           exact ⟨ret_int HE2.out.symm, HBW.out⟩
                         · have hr0 : r = 0 := by rw [HT.out, if_neg hml]
                           have HNX := Lib.hid (types_at hj2 HBAD.out (by rw [HIE.out, hr0]))
                           clear hr0
                           go_wp2_with fail
                           go_roundw
                           case rel => exact ⟨j + 1, by go_num, Lib.hid ⟨hj2, HNX.out, HBW.out⟩⟩
                           case measure => simp [intOf]; omega)
            · have hrx : r = 10 := by rw [HT.out, if_pos hk]
              have HE2 := Lib.hid ((types_hit hj2 HBAD.out (by rw [HIE.out, hrx]; decide)).trans (by rw [HIE.out, hrx]))
              clear hrx
              clear HT
              by_cases hk1 : kd < 1
              · clear hk
                go_wp2_with fail
                refine (HNM.out _).mono ?_
                rintro e5 w5 ⟨rfl, hb5⟩
                obtain ⟨hb5, hblk⟩ := keep_box hb5
                have hB5 := HBL.out.trans (hb5.mono hszw)
                have hsz5 := lt_of_blk' hblk
                have d0 := cell_of_row w5 _ 0 _ _ (0, 0) hblk
                have HK5 := Lib.hid (And.intro hb5 (And.intro hblk (And.intro hB5 (And.intro hsz5 d0))))
                clear hb5 hblk hB5 hsz5
                go_wp2_with fail
                refine (HC1.out _ _ HK5.out.2.2.1 (refAsks nm _ _ HK5.out.2.2.2.2 HK5.out.2.2.2.1)).mono ?_
                rintro e6 w6 ⟨rfl, hb6⟩
                have hblk := (hb6.block _ HK5.out.2.2.2.1).trans HK5.out.2.1
                have HR6 := Lib.hid (HK5.out.1.trans (hb6.mono HK5.out.1.size))
                have HB6 := Lib.hid (HBL.out.trans (HR6.out.mono hszw))
                clear hb6 d0
                have c0 := cell_of_row w6 _ 0 _ _ (0, 0) hblk
                have c1 := cell_of_row w6 _ 1 _ _ (0, 0) hblk
                have c2 := cell_of_row w6 _ 2 _ _ (0, 0) hblk
                have c3 := cell_of_row w6 _ 3 _ _ (0, 0) hblk
                have c4 := cell_of_row w6 _ 4 _ _ (0, 0) hblk
                have c5 := cell_of_row w6 _ 5 _ _ (0, 0) hblk
                clear hblk
                go_wp2_with fail
                go_ret
                exact ⟨ret_int HE2.out.symm, HB6.out⟩
              · have q7 : 7 < kd := by omega
                clear hk
                go_wp2_with fail
                refine (HNM.out _).mono ?_
                rintro e5 w5 ⟨rfl, hb5⟩
                obtain ⟨hb5, hblk⟩ := keep_box hb5
                have hB5 := HBL.out.trans (hb5.mono hszw)
                have hsz5 := lt_of_blk' hblk
                have d0 := cell_of_row w5 _ 0 _ _ (0, 0) hblk
                have HK5 := Lib.hid (And.intro hb5 (And.intro hblk (And.intro hB5 (And.intro hsz5 d0))))
                clear hb5 hblk hB5 hsz5
                go_wp2_with fail
                refine (HC1.out _ _ HK5.out.2.2.1 (refAsks nm _ _ HK5.out.2.2.2.2 HK5.out.2.2.2.1)).mono ?_
                rintro e6 w6 ⟨rfl, hb6⟩
                have hblk := (hb6.block _ HK5.out.2.2.2.1).trans HK5.out.2.1
                have HR6 := Lib.hid (HK5.out.1.trans (hb6.mono HK5.out.1.size))
                have HB6 := Lib.hid (HBL.out.trans (HR6.out.mono hszw))
                clear hb6 d0
                have c0 := cell_of_row w6 _ 0 _ _ (0, 0) hblk
                have c1 := cell_of_row w6 _ 1 _ _ (0, 0) hblk
                have c2 := cell_of_row w6 _ 2 _ _ (0, 0) hblk
                have c3 := cell_of_row w6 _ 3 _ _ (0, 0) hblk
                have c4 := cell_of_row w6 _ 4 _ _ (0, 0) hblk
                have c5 := cell_of_row w6 _ 5 _ _ (0, 0) hblk
                clear hblk
                go_wp2_with fail
                go_ret
                exact ⟨ret_int HE2.out.symm, HB6.out⟩
          · rw [hh, if_pos rfl] at HIE
            have HE2 := Lib.hid (types_hit hj2 HBAD.out (by rw [HIE.out]; decide))
            rw [HIE.out] at HE2
            rw [hh] at HC1
            clear hh HIE HT
            go_wp2_with fail
            refine (HNM.out _).mono ?_
            rintro e5 w5 ⟨rfl, hb5⟩
            obtain ⟨hb5, hblk⟩ := keep_box hb5
            have hB5 := HBL.out.trans (hb5.mono hszw)
            have hsz5 := lt_of_blk' hblk
            have d0 := cell_of_row w5 _ 0 _ _ (0, 0) hblk
            have HK5 := Lib.hid (And.intro hb5 (And.intro hblk (And.intro hB5 (And.intro hsz5 d0))))
            clear hb5 hblk hB5 hsz5
            go_wp2_with fail
            refine (HC1.out _ _ HK5.out.2.2.1 (refAsks nm _ _ HK5.out.2.2.2.2 HK5.out.2.2.2.1)).mono ?_
            rintro e6 w6 ⟨rfl, hb6⟩
            have hblk := (hb6.block _ HK5.out.2.2.2.1).trans HK5.out.2.1
            have HR6 := Lib.hid (HK5.out.1.trans (hb6.mono HK5.out.1.size))
            have HB6 := Lib.hid (HBL.out.trans (HR6.out.mono hszw))
            clear hb6 d0
            have c0 := cell_of_row w6 _ 0 _ _ (0, 0) hblk
            have c1 := cell_of_row w6 _ 1 _ _ (0, 0) hblk
            have c2 := cell_of_row w6 _ 2 _ _ (0, 0) hblk
            have c3 := cell_of_row w6 _ 3 _ _ (0, 0) hblk
            have c4 := cell_of_row w6 _ 4 _ _ (0, 0) hblk
            have c5 := cell_of_row w6 _ 5 _ _ (0, 0) hblk
            clear hblk
            go_wp2_with fail
            go_ret
            exact ⟨ret_int HE2.out.symm, HB6.out⟩
      · have p2 : ¬ (j : Int) < n := by omega
        have HEND := Lib.hid (types_end (by rw [← HN.out]; omega) HR.out.bad)
        have HBL := Lib.hid HR.out.bel
        clear HR
        go_wp2_with fail
        go_ret
        exact ⟨ret_int HEND.out.symm, HBL.out⟩
end Go.Proofs.YtggnocajpnmemaaDoor
