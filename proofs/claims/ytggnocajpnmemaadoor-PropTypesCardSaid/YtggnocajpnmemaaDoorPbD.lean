/- Properties: the reference's FaultsOf. -/
import Derived.Test.YtggnocajpnmemaaDoorPbC
namespace Go.Proofs.YtggnocajpnmemaaDoor
open Go.RowKit Go.Shelf

theorem faultE_none {t : TV} {l : List PV} (h : getV l t.nm = none) : faultE t l = if t.need = true then 7 else 0 := by unfold faultE; rw [h]
theorem faultE_some {t : TV} {l : List PV} {v : V} (h : getV l t.nm = some v) : faultE t l = if v.kind ≠ t.kind then 10 else if 0 < t.cs.length ∧ hasS t.cs v.text = false then 3 else if t.least ≠ 0 ∨ t.most ≠ 0 then rangeE v.int t.least t.most else 0 := by unfold faultE; rw [h]

set_option maxRecDepth 100000 in
set_option maxHeartbeats 20000000 in
theorem faultsOf_any (ts : List TV) (l : List PV) (At A : Option Addr) (ct c : Nat) (w : World) (ht : TySl w w.heap.size ts (.slice At ts.length ct)) (hl : PSl w w.heap.size l (.slice A l.length c)) :
    Calls Tryd.prog 5 #[.slice At ts.length ct, .slice A l.length c] w (GivesFaults (fsL ts l) (fsE ts l) w) := by
  have hnt : ts.length ≤ 140737488355328 := by obtain ⟨_, _, e, h1, _⟩ := ht; exact h1
  have HTS := Lib.hid ht
  have HCT := Lib.hid (fun W (hW : Below w.heap.size w W) => typesFault_any ts At ct W ((ht.below hW (Nat.le_refl _)).up hW.size))
  have HCP := Lib.hid (fun W (hW : Below w.heap.size w W) => propsFault_any l A c W ((hl.below hW (Nat.le_refl _)).up hW.size))
  by_cases h1 : typesE ts = 0
  · rw [h1] at HCT
    by_cases h2 : propsE l = 0
    · rw [h2] at HCP
      have HG : Hid (∀ v w', FsRow ts l w v ts.length w' → GivesFaults (fsL ts l) (fsE ts l) w (.returned (.tuple #[v, .int .i64 0])) w') := Lib.hid (fun v w' h => gives_fine h1 h2 h)
      have HOK := Lib.hid (fun t ht => typeE_ok (typesE_ok h1 t ht))
      have HGO := Lib.hid (fun W (hW : Below w.heap.size w W) nm => getOf_any l nm A c W ((hl.below hW (Nat.le_refl _)).up hW.size))
      have hnt4 : ts.length ≤ 40 := by
        unfold typesE at h1
        split at h1
        · exact absurd h1 (by decide)
        · omega
      clear hnt
      obtain ⟨i0, hi, hz0, hz1, hz2⟩ := info_parts infoFv
      obtain ⟨n, hnn⟩ : ∃ n, n = ts.length := ⟨_, rfl⟩
      obtain ⟨m, hmm⟩ : ∃ m, m = l.length := ⟨_, rfl⟩
      have HN := Lib.hid hnn
      rw [← hnn] at hnt4 HCT HG
      rw [show (Value.slice A l.length c) = Value.slice A m c by rw [hmm]] at HGO
      rw [← hmm] at HCP
      rw [show (Value.slice At ts.length ct) = Value.slice At n ct by rw [hnn], show (Value.slice A l.length c) = Value.slice A m c by rw [hmm]]
      clear ht hl h1 h2 hnn hmm
      go_enter Tryd.func5, Tryd.ntmps5
      go_wp2_with fail
      have X := HCT.out w (Below.refl _ _)
      refine X.mono ?_
      rintro e1 w1 ⟨rfl, hb1⟩
      have HB1 := Lib.hid hb1
      clear hb1
      go_wp2_with fail
      refine (HCP.out _ HB1.out).mono ?_
      rintro e2 w2 ⟨rfl, hb2⟩
      have HB2 := Lib.hid (HB1.out.trans (hb2.mono HB1.out.size))
      clear hb2
      go_wp2_with fail
      go_loopw [8, 26] (fun fv iv wx => ∃ j : Nat, iv = .int .i64 j ∧ Hid (FsRow ts l w fv j wx)) (fun _ iv _ => n - (intOf iv).toNat)
      case atStart => exact ⟨0, rfl, Lib.hid ⟨Nat.zero_le _, World.ownsRow_nil _ _ _ _, HB2.out⟩⟩
      case round =>
        obtain ⟨j, rfl, HR⟩ := hrel
        have hjn : j ≤ n := by have := HR.out.le; rw [HN.out]; exact this
        by_cases hj : j < n
        · have hj2 : j < ts.length := by rw [← HN.out]; exact hj
          have p2 : (j : Int) < n := by omega
          obtain ⟨b, off, nm, kd, nd, cs, le, mo, Ac, cc, rfl, hx, hlt, gn, g1, g2, g3, g4, g5, hnz, gs⟩ := type_item HTS.out hj2
          have hbel := HR.out.bel
          replace gn := (hbel.cell (p := ⟨b, off + j * 6, none⟩) hlt).trans gn
          replace g1 := (hbel.cell (p := ⟨b, off + j * 6 + 1, none⟩) hlt).trans g1
          replace g2 := (hbel.cell (p := ⟨b, off + j * 6 + 2, none⟩) hlt).trans g2
          replace g3 := (hbel.cell (p := ⟨b, off + j * 6 + 3, none⟩) hlt).trans g3
          replace g4 := (hbel.cell (p := ⟨b, off + j * 6 + 4, none⟩) hlt).trans g4
          replace g5 := (hbel.cell (p := ⟨b, off + j * 6 + 5, none⟩) hlt).trans g5
          have HBL := Lib.hid hbel
          have hszw := hbel.size
          have HS := Lib.hid (fun W (hW : Below w.heap.size w W) v => strContains_any cs v Ac cc w.heap.size W (gs.below hW (Nat.le_refl _)))
          have HK := HOK.out ts[j] (List.getElem_mem hj2)
          rw [hx] at HK
          obtain ⟨HK3, HK2⟩ := HK
          have hne : ts[j].nm = nm := by rw [hx]
          have HFN : Hid (getV l nm = none → faultE ts[j] l = if nd = true then 7 else 0) := Lib.hid (fun h => by rw [hx]; exact faultE_none h)
          have HFS : Hid (∀ v, getV l nm = some v → faultE ts[j] l = if v.kind ≠ kd then 10 else if 0 < cs.length ∧ hasS cs v.text = false then 3 else if le ≠ 0 ∨ mo ≠ 0 then rangeE v.int le mo else 0) := Lib.hid (fun v h => by rw [hx]; exact faultE_some h)
          have HH3 := Lib.hid HK3
          have HH2 := Lib.hid HK2
          obtain ⟨q, hq⟩ : ∃ q, q = cs.length := ⟨_, rfl⟩
          simp only at HK3 HK2
          have HQ3 : Hid (0 < q → kd = 3) := Lib.hid (by rw [hq]; exact HK3)
          have HQ2 : Hid (le ≠ 0 ∨ mo ≠ 0 → kd = 2) := Lib.hid HK2
          rw [← hq] at g3 HS HFS
          have HOWN := Lib.hid HR.out.own
          obtain ⟨A0, c0, rfl, -⟩ := own_slice HR.out.own
          have hfl : (faultsL (ts.take j) l).length ≤ n := by
            have := faultsL_len (ts.take j) l
            rw [List.length_take] at this; omega
          have HZ : Hid (faultE ts[j] l = 0 → ∀ wx, wx.ownsRow w.heap.size 30 2 (.slice A0 (faultsL (ts.take j) l).length c0) (faultsL (ts.take j) l).length ((faultsL (ts.take j) l).flatMap FV.cells) → Below w.heap.size w wx → FsRow ts l w (.slice A0 (faultsL (ts.take j) l).length c0) (j + 1) wx) := Lib.hid (fun h0 wx ho hb => ⟨hj2, by rw [faults_snoc_no hj2 h0]; exact ho, hb⟩)
          have HFR : Hid (∀ r, faultE ts[j] l = r → r ≠ 0 → ∀ v wx, wx.ownsRow w.heap.size 30 2 v ((faultsL (ts.take j) l).length + 1) ((faultsL (ts.take j) l).flatMap FV.cells ++ FV.cells ⟨nm, r⟩) → Below w.heap.size w wx → FsRow ts l w v (j + 1) wx) := Lib.hid (fun r hr h0 v wx ho hb => ⟨hj2, by rw [faults_snoc_yes hj2 (by rw [hr]; exact h0), hr, hne, fv_snoc, List.length_append]; exact ho, hb⟩)
          generalize (faultsL (ts.take j) l).flatMap FV.cells = fx at HOWN HFR HZ
          generalize (faultsL (ts.take j) l).length = fl at hfl HOWN HFR HZ ⊢
          generalize faultE ts[j] l = R at HFN HFS HFR HZ
          clear gs hx hq HR hbel HK3 HK2 HH3 HH2 hne hj2
          go_wp2_with fail
          refine (HGO.out _ (HBL.out.alloc hszw _) nm).mono ?_
          rintro e3 w3 ⟨hres, hb3⟩
          have HB3 := Lib.hid ((HBL.out.alloc hszw _).trans (hb3.mono (by simp; omega)))
          have HO3 := Lib.hid (own_keepB (HOWN.out.alloc _) hb3 (Nat.le_refl _))
          obtain ⟨-, hblk⟩ := keep_box hb3
          have d0 := cell_of_row w3 wr.heap.size 0 _ _ (0, 0) hblk
          have d1 := cell_of_row w3 wr.heap.size 1 _ _ (0, 0) hblk
          have d2 := cell_of_row w3 wr.heap.size 2 _ _ (0, 0) hblk
          have d3 := cell_of_row w3 wr.heap.size 3 _ _ (0, 0) hblk
          have d4 := cell_of_row w3 wr.heap.size 4 _ _ (0, 0) hblk
          have d5 := cell_of_row w3 wr.heap.size 5 _ _ (0, 0) hblk
          have hszb := lt_of_blk' hblk
          have hsz3 := HB3.out.size
          clear hb3 hblk HOWN HBL
          rcases hres with ⟨jj, hjj, g, h1, h2, h3, rfl⟩ | ⟨h1, rfl⟩
          · have hg := getV_at hjj h1 h2
            rcases hv : l[jj].val with ⟨kx, ix, tx, sx, lx⟩
            rw [hv] at h3 hg
            obtain ⟨Ax, nx, cx, rfl⟩ := h3
            have HE0 := Lib.hid (HFS.out _ hg)
            clear h1 h2 hg hv
            by_cases hk : kx = kd
            · subst hk
              have HE1 : Hid (R = if 0 < q ∧ hasS cs sx = false then 3 else if le ≠ 0 ∨ mo ≠ 0 then rangeE ix le mo else 0) := Lib.hid (HE0.out.trans (if_neg (by simp [V.kind])))
              clear HE0
              by_cases hq0 : 0 < q
              · have hk3 := HQ3.out hq0
                have hlm : ¬ (le ≠ 0 ∨ mo ≠ 0) := fun h => by have := HQ2.out h; omega
                have q3 : (kx == 3) = true := by simpa using hk3
                have q2 : (kx == 2) = false := by simp; omega
                have p5 : (0 : Int) < q := by omega
                replace HS := Lib.hid (fun W hW => HS.out W hW sx)
                rcases hh : hasS cs sx with _ | _
                · have HE : Hid (R = 3) := Lib.hid (HE1.out.trans (if_pos ⟨hq0, hh⟩))
                  rw [hh] at HS
                  clear hh HE1 hk3 hlm hq0
                  clear HFN HFS HQ2 HQ3 HGO HOK
                  go_wp2_with fail
                  refine (HS.out _ (HB3.out.alloc hsz3 _)).mono ?_
                  rintro e4 w4 ⟨rfl, hw4⟩
                  rw [hw4]
                  clear hw4
                  have HNEWS : Hid (∀ q u, (FV.cells ⟨nm, 3⟩)[q]? = some u → ((w3.alloc (.cells #[.int .i64 kx, .int .i64 ix, .int .i64 tx, .string sx, .slice Ax nx cx] 40)).alloc (.cells #[.string nm, .int .i64 3] 30)).cell? ((⟨w3.heap.size + 1, 0, none⟩ : Addr).add q) = some u) := Lib.hid (by
                    have := fv_news (w3.alloc (.cells #[.int .i64 kx, .int .i64 ix, .int .i64 tx, .string sx, .slice Ax nx cx] 40)) ⟨nm, 3⟩ 30
                    simpa only [World.size_alloc] using this)
                  go_wp2_with (at_builtin; refine wpList_append_own _ rfl _ _ 24 rfl w.heap.size 30 i0 _ 2 24 Tryd.underlying24 hi hz0 hz1 hz2 rfl (by omega) _ _ _ rfl ((HO3.out.alloc _).alloc _) ⟨w3.heap.size + 1, 0, none⟩ 1 1 (FV.cells ⟨nm, 3⟩) rfl rfl HNEWS.out (fv_one ⟨nm, 3⟩) (by unfold maxLen; omega) (by omega) (by simp; omega) ?_)
                  intro v' w5 hown5 hgrow5 _
                  have hbel5 : Below w.heap.size w w5 := ((HB3.out.alloc hsz3 _).alloc (by simp; omega) _).grown hgrow5 (by simp; omega) (fun k hk => (HO3.out.lt k hk).1)
                  have HFR5 := Lib.hid (HFR.out 3 HE.out (by decide) v' w5 hown5 hbel5)
                  clear hown5 hgrow5 hbel5 HFR
                  go_wp2_with fail
                  go_roundw
                  case rel => exact ⟨j + 1, by go_num, HFR5⟩
                  case measure => simp [intOf]; omega
                · have HE : Hid (R = 0) := Lib.hid (HE1.out.trans ((if_neg (by rintro ⟨_, h⟩; rw [hh] at h; cases h)).trans (if_neg hlm)))
                  rw [hh] at HS
                  clear hh HE1 hk3 hlm hq0
                  clear HFN HFS HQ2 HQ3 HGO HOK
                  go_wp2_with fail
                  refine (HS.out _ (HB3.out.alloc hsz3 _)).mono ?_
                  rintro e4 w4 ⟨rfl, hw4⟩
                  rw [hw4]
                  clear hw4
                  go_wp2_with fail
                  go_roundw
                  case rel => exact ⟨j + 1, by go_num, Lib.hid (HZ.out HE.out _ (HO3.out.alloc _) (HB3.out.alloc hsz3 _))⟩
                  case measure => simp [intOf]; omega
              · obtain rfl : q = 0 := by omega
                replace HE1 : Hid (R = if le ≠ 0 ∨ mo ≠ 0 then rangeE ix le mo else 0) := Lib.hid (HE1.out.trans (if_neg (by rintro ⟨h, _⟩; exact absurd h (by decide))))
                clear hq0
                by_cases hk3 : kx = 3
                · have hlm : ¬ (le ≠ 0 ∨ mo ≠ 0) := fun h => by have := HQ2.out h; omega
                  have HE : Hid (R = 0) := Lib.hid (HE1.out.trans (if_neg hlm))
                  have q3 : (kx == 3) = true := by simpa using hk3
                  have q2 : (kx == 2) = false := by simp; omega
                  clear hk3 hlm HE1
                  clear HFN HFS HQ2 HQ3 HGO HOK
                  go_wp2_with fail
                  go_roundw
                  case rel => exact ⟨j + 1, by go_num, Lib.hid (HZ.out HE.out _ (HO3.out.alloc _) (HB3.out.alloc hsz3 _))⟩
                  case measure => simp [intOf]; omega
                · have q3 : (kx == 3) = false := by simpa using hk3
                  by_cases hk2 : kx = 2
                  · have q2 : (kx == 2) = true := by simpa using hk2
                    obtain ⟨bl, h4⟩ : ∃ b, (le != 0) = b := ⟨_, rfl⟩
                    obtain ⟨bm, h5⟩ : ∃ b, (mo != 0) = b := ⟨_, rfl⟩
                    have kl : le ≠ 0 ↔ bl = true := by rw [← h4]; simp
                    have km : mo ≠ 0 ↔ bm = true := by rw [← h5]; simp
                    by_cases hlm : le ≠ 0 ∨ mo ≠ 0
                    · replace HE1 := Lib.hid (HE1.out.trans (if_pos hlm))
                      rw [kl, km] at hlm
                      by_cases ha : ix < le
                      · have HE : Hid (R = 2) := Lib.hid (HE1.out.trans (rangeE_out (by omega)))
                        clear HE1 hk3 hk2 kl km
                        cases bl <;> cases bm
                        all_goals first
                          | exact absurd hlm (by decide)
                          | (clear hlm
                             clear HFN HFS HQ2 HQ3 HGO HOK
                             have HNEWS : Hid (∀ q u, (FV.cells ⟨nm, 2⟩)[q]? = some u → ((w3.alloc (.cells #[.int .i64 kx, .int .i64 ix, .int .i64 tx, .string sx, .slice Ax nx cx] 40)).alloc (.cells #[.string nm, .int .i64 2] 30)).cell? ((⟨w3.heap.size + 1, 0, none⟩ : Addr).add q) = some u) := Lib.hid (by
                               have := fv_news (w3.alloc (.cells #[.int .i64 kx, .int .i64 ix, .int .i64 tx, .string sx, .slice Ax nx cx] 40)) ⟨nm, 2⟩ 30
                               simpa only [World.size_alloc] using this)
                             go_wp2_with (at_builtin; refine wpList_append_own _ rfl _ _ 24 rfl w.heap.size 30 i0 _ 2 24 Tryd.underlying24 hi hz0 hz1 hz2 rfl (by omega) _ _ _ rfl ((HO3.out.alloc _).alloc _) ⟨w3.heap.size + 1, 0, none⟩ 1 1 (FV.cells ⟨nm, 2⟩) rfl rfl HNEWS.out (fv_one ⟨nm, 2⟩) (by unfold maxLen; omega) (by omega) (by simp; omega) ?_)
                             intro v' w5 hown5 hgrow5 _
                             have hbel5 : Below w.heap.size w w5 := ((HB3.out.alloc hsz3 _).alloc (by simp; omega) _).grown hgrow5 (by simp; omega) (fun k hk => (HO3.out.lt k hk).1)
                             have HFR5 := Lib.hid (HFR.out 2 HE.out (by decide) v' w5 hown5 hbel5)
                             clear hown5 hgrow5 hbel5 HFR
                             go_wp2_with fail
                             go_roundw
                             case rel => exact ⟨j + 1, by go_num, HFR5⟩
                             case measure => simp [intOf]; omega)
                      · by_cases hb : mo < ix
                        · have HE : Hid (R = 2) := Lib.hid (HE1.out.trans (rangeE_out (by omega)))
                          clear HE1 hk3 hk2 kl km
                          cases bl <;> cases bm
                          all_goals first
                            | exact absurd hlm (by decide)
                            | (clear hlm
                               clear HFN HFS HQ2 HQ3 HGO HOK
                               have HNEWS : Hid (∀ q u, (FV.cells ⟨nm, 2⟩)[q]? = some u → ((w3.alloc (.cells #[.int .i64 kx, .int .i64 ix, .int .i64 tx, .string sx, .slice Ax nx cx] 40)).alloc (.cells #[.string nm, .int .i64 2] 30)).cell? ((⟨w3.heap.size + 1, 0, none⟩ : Addr).add q) = some u) := Lib.hid (by
                                 have := fv_news (w3.alloc (.cells #[.int .i64 kx, .int .i64 ix, .int .i64 tx, .string sx, .slice Ax nx cx] 40)) ⟨nm, 2⟩ 30
                                 simpa only [World.size_alloc] using this)
                               go_wp2_with (at_builtin; refine wpList_append_own _ rfl _ _ 24 rfl w.heap.size 30 i0 _ 2 24 Tryd.underlying24 hi hz0 hz1 hz2 rfl (by omega) _ _ _ rfl ((HO3.out.alloc _).alloc _) ⟨w3.heap.size + 1, 0, none⟩ 1 1 (FV.cells ⟨nm, 2⟩) rfl rfl HNEWS.out (fv_one ⟨nm, 2⟩) (by unfold maxLen; omega) (by omega) (by simp; omega) ?_)
                               intro v' w5 hown5 hgrow5 _
                               have hbel5 : Below w.heap.size w w5 := ((HB3.out.alloc hsz3 _).alloc (by simp; omega) _).grown hgrow5 (by simp; omega) (fun k hk => (HO3.out.lt k hk).1)
                               have HFR5 := Lib.hid (HFR.out 2 HE.out (by decide) v' w5 hown5 hbel5)
                               clear hown5 hgrow5 hbel5 HFR
                               go_wp2_with fail
                               go_roundw
                               case rel => exact ⟨j + 1, by go_num, HFR5⟩
                               case measure => simp [intOf]; omega)
                        · have HE : Hid (R = 0) := Lib.hid (HE1.out.trans (rangeE_in (by omega)))
                          clear HE1 hk3 hk2 kl km
                          cases bl <;> cases bm
                          all_goals first
                            | exact absurd hlm (by decide)
                            | (clear hlm
                               clear HFN HFS HQ2 HQ3 HGO HOK
                               go_wp2_with fail
                               go_roundw
                               case rel => exact ⟨j + 1, by go_num, Lib.hid (HZ.out HE.out _ (HO3.out.alloc _) (HB3.out.alloc hsz3 _))⟩
                               case measure => simp [intOf]; omega)
                    · have HE : Hid (R = 0) := Lib.hid (HE1.out.trans (if_neg hlm))
                      have hbl : bl = false := by cases bl; rfl; exact absurd (.inl (kl.2 rfl)) hlm
                      have hbm : bm = false := by cases bm; rfl; exact absurd (.inr (km.2 rfl)) hlm
                      subst hbl hbm
                      clear HE1 hk3 hk2 kl km hlm
                      clear HFN HFS HQ2 HQ3 HGO HOK
                      go_wp2_with fail
                      go_roundw
                      case rel => exact ⟨j + 1, by go_num, Lib.hid (HZ.out HE.out _ (HO3.out.alloc _) (HB3.out.alloc hsz3 _))⟩
                      case measure => simp [intOf]; omega
                  · have hlm : ¬ (le ≠ 0 ∨ mo ≠ 0) := fun h => hk2 (HQ2.out h)
                    have HE : Hid (R = 0) := Lib.hid (HE1.out.trans (if_neg hlm))
                    have q2 : (kx == 2) = false := by simpa using hk2
                    clear HE1 hk3 hk2 hlm
                    clear HFN HFS HQ2 HQ3 HGO HOK
                    go_wp2_with fail
                    go_roundw
                    case rel => exact ⟨j + 1, by go_num, Lib.hid (HZ.out HE.out _ (HO3.out.alloc _) (HB3.out.alloc hsz3 _))⟩
                    case measure => simp [intOf]; omega
            · have HE : Hid (R = 10) := Lib.hid (HE0.out.trans (if_pos hk))
              have q1 : (kx != kd) = true := by simpa using hk
              clear HE0 hk
              clear HFN HFS HQ2 HQ3 HGO HOK
              have HNEWS : Hid (∀ q u, (FV.cells ⟨nm, 10⟩)[q]? = some u → ((w3.alloc (.cells #[.int .i64 kx, .int .i64 ix, .int .i64 tx, .string sx, .slice Ax nx cx] 40)).alloc (.cells #[.string nm, .int .i64 10] 30)).cell? ((⟨w3.heap.size + 1, 0, none⟩ : Addr).add q) = some u) := Lib.hid (by
                have := fv_news (w3.alloc (.cells #[.int .i64 kx, .int .i64 ix, .int .i64 tx, .string sx, .slice Ax nx cx] 40)) ⟨nm, 10⟩ 30
                simpa only [World.size_alloc] using this)
              go_wp2_with (at_builtin; refine wpList_append_own _ rfl _ _ 24 rfl w.heap.size 30 i0 _ 2 24 Tryd.underlying24 hi hz0 hz1 hz2 rfl (by omega) _ _ _ rfl ((HO3.out.alloc _).alloc _) ⟨w3.heap.size + 1, 0, none⟩ 1 1 (FV.cells ⟨nm, 10⟩) rfl rfl HNEWS.out (fv_one ⟨nm, 10⟩) (by unfold maxLen; omega) (by omega) (by simp; omega) ?_)
              intro v' w5 hown5 hgrow5 _
              have hbel5 : Below w.heap.size w w5 := ((HB3.out.alloc hsz3 _).alloc (by simp; omega) _).grown hgrow5 (by simp; omega) (fun k hk => (HO3.out.lt k hk).1)
              have HFR5 := Lib.hid (HFR.out 10 HE.out (by decide) v' w5 hown5 hbel5)
              clear hown5 hgrow5 hbel5 HFR
              go_wp2_with fail
              go_roundw
              case rel => exact ⟨j + 1, by go_num, HFR5⟩
              case measure => simp [intOf]; omega
          · have HE0 := Lib.hid (HFN.out (getV_none h1))
            clear h1
            cases nd
            · have HE : Hid (R = 0) := Lib.hid HE0.out
              clear HE0
              clear HFN HFS HQ2 HQ3 HGO HOK
              go_wp2_with fail
              go_roundw
              case rel => exact ⟨j + 1, by go_num, Lib.hid (HZ.out HE.out _ (HO3.out.alloc _) (HB3.out.alloc hsz3 _))⟩
              case measure => simp [intOf]; omega
            · have HE : Hid (R = 7) := Lib.hid HE0.out
              clear HE0
              clear HFN HFS HQ2 HQ3 HGO HOK
              have HNEWS : Hid (∀ q u, (FV.cells ⟨nm, 7⟩)[q]? = some u → ((w3.alloc (.cells #[.int .i64 0, .int .i64 0, .int .i64 0, .string ⟨#[]⟩, .slice none 0 0] 40)).alloc (.cells #[.string nm, .int .i64 7] 30)).cell? ((⟨w3.heap.size + 1, 0, none⟩ : Addr).add q) = some u) := Lib.hid (by
                have := fv_news (w3.alloc (.cells #[.int .i64 0, .int .i64 0, .int .i64 0, .string ⟨#[]⟩, .slice none 0 0] 40)) ⟨nm, 7⟩ 30
                simpa only [World.size_alloc] using this)
              go_wp2_with (at_builtin; refine wpList_append_own _ rfl _ _ 24 rfl w.heap.size 30 i0 _ 2 24 Tryd.underlying24 hi hz0 hz1 hz2 rfl (by omega) _ _ _ rfl ((HO3.out.alloc _).alloc _) ⟨w3.heap.size + 1, 0, none⟩ 1 1 (FV.cells ⟨nm, 7⟩) rfl rfl HNEWS.out (fv_one ⟨nm, 7⟩) (by unfold maxLen; omega) (by omega) (by simp; omega) ?_)
              intro v' w5 hown5 hgrow5 _
              have hbel5 : Below w.heap.size w w5 := ((HB3.out.alloc hsz3 _).alloc (by simp; omega) _).grown hgrow5 (by simp; omega) (fun k hk => (HO3.out.lt k hk).1)
              have HFR5 := Lib.hid (HFR.out 7 HE.out (by decide) v' w5 hown5 hbel5)
              clear hown5 hgrow5 hbel5 HFR
              go_wp2_with fail
              go_roundw
              case rel => exact ⟨j + 1, by go_num, HFR5⟩
              case measure => simp [intOf]; omega
        · obtain rfl : j = n := by omega
          have p2 : ¬ (j : Int) < j := by omega
          have HGG := Lib.hid (HG.out _ _ HR.out)
          obtain ⟨A0, c0, rfl, -⟩ := own_slice HR.out.own
          clear HR
          go_wp2_with fail
          go_ret2
          exact HGG.out
    · have HG : Hid (∀ w', Below w.heap.size w w' → GivesFaults (fsL ts l) (fsE ts l) w (.returned (.tuple #[.slice none 0 0, .int .i64 (propsE l)])) w') := Lib.hid (fun w' hb => gives_bad (by unfold fsE; rw [if_neg (by rw [h1]; simp)]) h2 hb)
      have q0 : (propsE l != 0) = true := by simpa using h2
      obtain ⟨n, hnn⟩ : ∃ n, n = ts.length := ⟨_, rfl⟩
      obtain ⟨m, hmm⟩ : ∃ m, m = l.length := ⟨_, rfl⟩
      rw [← hnn] at HCT
      rw [← hmm] at HCP
      rw [show (Value.slice At ts.length ct) = Value.slice At n ct by rw [hnn], show (Value.slice A l.length c) = Value.slice A m c by rw [hmm]]
      generalize propsE l = r at HCP HG q0
      clear ht hl h1 h2 hnn hmm HTS
      go_enter Tryd.func5, Tryd.ntmps5
      go_wp2_with fail
      have X := HCT.out w (Below.refl _ _)
      refine X.mono ?_
      rintro e1 w1 ⟨rfl, hb1⟩
      have HB1 := Lib.hid hb1
      clear hb1
      go_wp2_with fail
      refine (HCP.out _ HB1.out).mono ?_
      rintro e2 w2 ⟨rfl, hb2⟩
      have HB2 := Lib.hid (HB1.out.trans (hb2.mono HB1.out.size))
      clear hb2
      go_wp2_with fail
      go_ret2
      exact HG.out _ HB2.out
  · have HG : Hid (∀ w', Below w.heap.size w w' → GivesFaults (fsL ts l) (fsE ts l) w (.returned (.tuple #[.slice none 0 0, .int .i64 (typesE ts)])) w') := Lib.hid (fun w' hb => gives_bad (by unfold fsE; rw [if_pos h1]) h1 hb)
    have q0 : (typesE ts != 0) = true := by simpa using h1
    obtain ⟨n, hnn⟩ : ∃ n, n = ts.length := ⟨_, rfl⟩
    rw [← hnn] at HCT
    rw [show (Value.slice At ts.length ct) = Value.slice At n ct by rw [hnn]]
    generalize typesE ts = r at HCT HG q0
    generalize l.length = m at *
    clear ht h1 hnn HTS
    go_enter Tryd.func5, Tryd.ntmps5
    go_wp2_with fail
    have X := HCT.out w (Below.refl _ _)
    refine X.mono ?_
    rintro e1 w1 ⟨rfl, hb1⟩
    have HB1 := Lib.hid hb1
    clear hb1
    go_wp2_with fail
    go_ret2
    exact HG.out _ HB1.out
end Go.Proofs.YtggnocajpnmemaaDoor
