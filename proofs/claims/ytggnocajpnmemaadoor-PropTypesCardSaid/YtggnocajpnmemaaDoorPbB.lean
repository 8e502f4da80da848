/- Properties: what is at fault with a type: the program's faultOf. -/
import Derived.Test.YtggnocajpnmemaaDoorPbA
namespace Go.Proofs.YtggnocajpnmemaaDoor
open Go.RowKit Go.Shelf

set_option maxRecDepth 100000 in
set_option maxHeartbeats 8000000 in
theorem faultOf_any (nm : ByteArray) (k : Int) (nd : Bool) (cs : List ByteArray) (le mo : Int) (Ac : Option Addr) (cc : Nat) (l : List PV) (A : Option Addr) (c : Nat) (w : World)
    (hl : PSl w w.heap.size l (.slice A l.length c)) (hs : StSl w w.heap.size cs (.slice Ac cs.length cc)) (hr : l.Pairwise (fun a b => a.nm.toList < b.nm.toList)) :
    Calls Tryd.prog 10 #[.agg #[.string nm, .int .i64 k, .bool nd, .slice Ac cs.length cc, .int .i64 le, .int .i64 mo], .slice A l.length c] w (Quiet w (.int .i64 (faultE ⟨nm, k, nd, cs, le, mo⟩ l))) := by
  have hn : l.length ≤ 140737488355328 := by obtain ⟨_, _, e, h1, _⟩ := hl; exact h1
  have HSL := Lib.hid hl
  have HR := Lib.hid hr
  have HP := Lib.hid (fun W (hW : Below w.heap.size w W) => position_any l nm A c W ((hl.below hW (Nat.le_refl _)).up hW.size) (mono_of hr nm))
  have HS := Lib.hid (fun W (hW : Below w.heap.size w W) v => strContains_any cs v Ac cc w.heap.size W (hs.below hW (Nat.le_refl _)))
  have HE : Hid (faultE ⟨nm, k, nd, cs, le, mo⟩ l = match getV l nm with | none => if nd = true then 7 else 0 | some v => if v.kind ≠ k then 10 else if 0 < cs.length ∧ hasS cs v.text = false then 3 else if le ≠ 0 ∨ mo ≠ 0 then rangeE v.int le mo else 0) := Lib.hid rfl
  have hnn' : ∃ n, n = l.length := ⟨_, rfl⟩
  obtain ⟨n, hnn⟩ := hnn'
  obtain ⟨m, hmm⟩ : ∃ m, m = cs.length := ⟨_, rfl⟩
  have HN := Lib.hid hnn
  rw [← hnn] at HP hn
  rw [← hmm] at HS HE
  rw [show (Value.slice A l.length c) = Value.slice A n c by rw [hnn], show (Value.slice Ac cs.length cc) = Value.slice Ac m cc by rw [hmm]]
  clear hl hs hr hnn hmm
  go_enter Tryd.func10, Tryd.ntmps10
  go_wp2_with fail
  refine (HP.out _ ((Below.refl _ _).alloc (Nat.le_refl _) _)).mono ?_
  rintro e1 w1 ⟨⟨r, b, h0, h1, h2, hb, rfl⟩, hw1⟩
  obtain ⟨hb1, hblk⟩ := keep_box hw1
  have c0 := cell_of_row w1 w.heap.size 0 _ _ (0, 0) hblk
  have c1 := cell_of_row w1 w.heap.size 1 _ _ (0, 0) hblk
  have c2 := cell_of_row w1 w.heap.size 2 _ _ (0, 0) hblk
  have c3 := cell_of_row w1 w.heap.size 3 _ _ (0, 0) hblk
  have c4 := cell_of_row w1 w.heap.size 4 _ _ (0, 0) hblk
  have c5 := cell_of_row w1 w.heap.size 5 _ _ (0, 0) hblk
  have hszw := hb1.size
  have hszb := lt_of_blk' hblk
  have HB := Lib.hid hb1
  clear hw1 hblk hb1
  cases b
  · have hg : getV l nm = none := found_none HR.out h1 h2 (fun h => absurd (hb.2 h) (by decide))
    rw [hg] at HE
    clear h1 h2 hb hg h0
    cases nd
    · go_wp2_with fail
      go_ret
      exact ⟨ret_int HE.out.symm, HB.out⟩
    · go_wp2_with fail
      go_ret
      exact ⟨ret_int HE.out.symm, HB.out⟩
  · obtain ⟨hrl, hz⟩ := hb.1 rfl
    have hg := found_some h1 hrl hz
    obtain ⟨bb, off, nx, kx, ix, tx, sx, lx, Ax, cx, rfl, hx, hlt, gn, g0, g1, g2, g3, g4, hnz, gz, gl, gs, hpv⟩ := prop_item HSL.out hrl
    rw [hx] at hg
    rw [hg] at HE
    have hrn : r < n := by rw [HN.out]; exact hrl
    replace g0 := (HB.out.cell (p := ⟨bb, off + r * 6 + 1, none⟩) hlt).trans g0
    replace g1 := (HB.out.cell (p := ⟨bb, off + r * 6 + 2, none⟩) hlt).trans g1
    replace g2 := (HB.out.cell (p := ⟨bb, off + r * 6 + 3, none⟩) hlt).trans g2
    replace g3 := (HB.out.cell (p := ⟨bb, off + r * 6 + 4, none⟩) hlt).trans g3
    replace g4 := (HB.out.cell (p := ⟨bb, off + r * 6 + 5, none⟩) hlt).trans g4
    obtain ⟨q, hq⟩ : ∃ q, q = lx.length := ⟨_, rfl⟩
    rw [← hq] at g4
    clear h0 h1 h2 hb hz hg hx gn hnz gz gl gs hpv hq
    replace HE : Hid (faultE ⟨nm, k, nd, cs, le, mo⟩ l = if kx ≠ k then 10 else if 0 < m ∧ hasS cs sx = false then 3 else if le ≠ 0 ∨ mo ≠ 0 then rangeE ix le mo else 0) := Lib.hid HE.out
    by_cases hk : kx = k
    · subst hk
      rw [if_neg (by simp)] at HE
      obtain ⟨bl, h4⟩ : ∃ b, (le != 0) = b := ⟨_, rfl⟩
      obtain ⟨bm, h5⟩ : ∃ b, (mo != 0) = b := ⟨_, rfl⟩
      have kl : le ≠ 0 ↔ bl = true := by rw [← h4]; simp
      have km : mo ≠ 0 ↔ bm = true := by rw [← h5]; simp
      have K := Lib.hid (And.intro kl km)
      clear kl km
      by_cases hm0 : 0 < m
      · have p1 : (0 : Int) < m := by omega
        replace HS := Lib.hid (fun W hW => HS.out W hW sx)
        rcases hh : hasS cs sx with _ | _
        · rw [if_pos ⟨hm0, hh⟩] at HE
          rw [hh] at HS
          clear hh hm0 K
          go_wp2_with fail
          refine (HS.out _ (HB.out.alloc hszw _)).mono ?_
          rintro e2 w2 ⟨rfl, hw2⟩
          rw [hw2]
          clear hw2
          go_wp2_with fail
          go_ret
          exact ⟨ret_int HE.out.symm, HB.out.alloc hszw _⟩
        · rw [if_neg (by rintro ⟨_, h⟩; rw [hh] at h; cases h)] at HE
          rw [hh] at HS
          clear hh hm0
          by_cases hlm : bl = true ∨ bm = true
          · rw [if_pos (by rcases hlm with h | h; exact .inl (K.out.1.2 h); exact .inr (K.out.2.2 h))] at HE
            clear K
            cases bl <;> cases bm
            all_goals first
              | exact absurd hlm (by decide)
              | (clear hlm
                 go_wp2_with fail
                 refine (HS.out _ (HB.out.alloc hszw _)).mono ?_
                 rintro e2 w2 ⟨rfl, hw2⟩
                 rw [hw2]
                 clear hw2
                 go_wp2_with fail
                 refine (checkRange_any ix le mo _).mono ?_
                 rintro e3 w3 ⟨rfl, hw3⟩
                 rw [hw3]
                 clear hw3
                 go_wp2_with fail
                 go_ret
                 exact ⟨ret_int HE.out.symm, HB.out.alloc hszw _⟩)
          · rw [if_neg (by rintro (h | h); exact hlm (.inl (K.out.1.1 h)); exact hlm (.inr (K.out.2.1 h)))] at HE
            have hbl : bl = false := by cases bl; rfl; exact absurd (.inl rfl) hlm
            have hbm : bm = false := by cases bm; rfl; exact absurd (.inr rfl) hlm
            subst hbl hbm
            clear hlm K
            go_wp2_with fail
            refine (HS.out _ (HB.out.alloc hszw _)).mono ?_
            rintro e2 w2 ⟨rfl, hw2⟩
            rw [hw2]
            clear hw2
            go_wp2_with fail
            go_ret
            exact ⟨ret_int HE.out.symm, HB.out.alloc hszw _⟩
      · obtain rfl : m = 0 := by omega
        rw [if_neg (by rintro ⟨h, _⟩; exact absurd h (by decide))] at HE
        clear hm0
        by_cases hlm : bl = true ∨ bm = true
        · rw [if_pos (by rcases hlm with h | h; exact .inl (K.out.1.2 h); exact .inr (K.out.2.2 h))] at HE
          clear K
          cases bl <;> cases bm
          all_goals first
            | exact absurd hlm (by decide)
            | (clear hlm
               go_wp2_with fail
               refine (checkRange_any ix le mo _).mono ?_
               rintro e3 w3 ⟨rfl, hw3⟩
               rw [hw3]
               clear hw3
               go_wp2_with fail
               go_ret
               exact ⟨ret_int HE.out.symm, HB.out.alloc hszw _⟩)
        · rw [if_neg (by rintro (h | h); exact hlm (.inl (K.out.1.1 h)); exact hlm (.inr (K.out.2.1 h)))] at HE
          have hbl : bl = false := by cases bl; rfl; exact absurd (.inl rfl) hlm
          have hbm : bm = false := by cases bm; rfl; exact absurd (.inr rfl) hlm
          subst hbl hbm
          clear hlm K
          go_wp2_with fail
          go_ret
          exact ⟨ret_int HE.out.symm, HB.out.alloc hszw _⟩
    · rw [if_pos hk] at HE
      have hk2 : (kx != k) = true := by simpa using hk
      clear hk
      go_wp2_with fail
      go_ret
      exact ⟨ret_int HE.out.symm, HB.out.alloc hszw _⟩
end Go.Proofs.YtggnocajpnmemaaDoor
