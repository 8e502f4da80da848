/- Cards: Chances and ChancesOf. -/
import Derived.Test.YtnellkdiafglgaaDoorCdK
import Derived.Lib.SmallJoins
namespace Go.Proofs.YtnellkdiafglgaaDoor
open Go.RowKit Go.Shelf Go.Joins

theorem infoInt : (Tryd.prog.info? 3).map (fun i => (i.zero, i.size, i.bytes)) = some (some (.int .i64 0), 1, 8) := by kernel_rfl
def ints (l : List Int) : List Value := l.map (Value.int .i64)
theorem ints_len (l : List Int) : (ints l).length = l.length := by simp [ints]
theorem ints_app (a b : List Int) : ints (a ++ b) = ints a ++ ints b := by simp [ints]
theorem addr_plus (b off j : Nat) : (⟨b, off, none⟩ : Addr).add j = ⟨b, off + j, none⟩ := by simp [Addr.add]
theorem own_less {w : World} {B B' : Nat} {e : TypeId} {size n : Nat} {v : Value} {xs : List Value} (h : w.ownsRow B e size v n xs) (hb : B' ≤ B) : w.ownsRow B' e size v n xs := by
  refine ⟨h.1, ?_⟩
  rcases h.2 with h | ⟨g, cap, cur, hv, hg, h2⟩
  · exact .inl h
  · exact .inr ⟨g, cap, cur, hv, Nat.le_trans hb hg, h2⟩
/-- A list of numbers and an error are handed back. -/
def GivesInts (L : List Int) (er : Int) (w : World) (e : Ending) (w' : World) : Prop :=
  ∃ v, e = .returned (.tuple #[v, .int .i64 er]) ∧ w'.ownsRow w.heap.size 3 1 v L.length (ints L) ∧ Below w.heap.size w w'
theorem gives_none {er : Int} {w w' : World} (h : Below w.heap.size w w') : GivesInts [] er w (.returned (.tuple #[.slice none 0 0, .int .i64 er])) w' := ⟨_, rfl, World.ownsRow_nil _ _ _ _, h⟩
def duesL (x : StV) (d : Int) (n : Nat) : List Int := (List.range n).map fun i : Nat => (gradedV x ((i : Int) + 1) d).du
theorem duesL_len (x : StV) (d : Int) (n : Nat) : (duesL x d n).length = n := by simp [duesL]
theorem duesL_succ (x : StV) (d : Int) (n : Nat) : duesL x d (n + 1) = duesL x d n ++ [(gradedV x ((n : Int) + 1) d).du] := by
  unfold duesL
  rw [List.range_succ, List.map_append]
  rfl
def chE (x : StV) (d : Int) : Int := gradeE x 1 d
def chL (x : StV) (d : Int) : List Int := if chE x d = 0 then duesL x d 4 else []
theorem gradeE_any {x : StV} {g d : Int} (h1 : 1 ≤ g) (h4 : g ≤ 4) : gradeE x g d = chE x d := by
  unfold chE gradeE
  split
  · rfl
  · rw [if_neg (by omega : ¬ (g < 1 ∨ 4 < g)), if_neg (by omega : ¬ ((1 : Int) < 1 ∨ (4 : Int) < 1))]
theorem own_below {w w' : World} {B e size n : Nat} {v : Value} {xs : List Value} (h : w.ownsRow B e size v n xs) (hb : Below w.heap.size w w') : w'.ownsRow B e size v n xs := by
  refine ⟨h.1, ?_⟩
  rcases h.2 with h2 | ⟨g, cap, cur, h3, hg, h4, h5⟩
  · exact .inl h2
  · exact .inr ⟨g, cap, cur, h3, hg, (hb.block g (lt_of_block h4)).trans h4, h5⟩
/-- The rounds so far. -/
structure ChRow (w : World) (cs : Array Value) (x : StV) (d : Int) (k : Nat) (v : Value) (wr : World) : Prop where
  own : wr.ownsRow (w.heap.size + 1) 3 1 v k (ints (duesL x d k))
  bel : Below w.heap.size w wr
  box : wr.heap[w.heap.size]? = some (.cells cs 23 (0, 0))
set_option maxRecDepth 100000 in
set_option maxHeartbeats 8000000 in
theorem chances_any (x : StV) (d : Int) (w : World) (ht : TabG w) :
    Calls Tryd.prog 20 #[x.v, .int .i64 d] w (GivesInts (chL x d) (chE x d) w) := by
  obtain ⟨i0, hi, hz0, hz1, hz2⟩ := info_parts infoInt
  have HG := Lib.hid (fun g W hW => grade_any x g d W hW)
  have HT := Lib.hid ht
  have HE := Lib.hid (fun g (h1 : 1 ≤ g) (h4 : g ≤ 4) => gradeE_any (x := x) (d := d) h1 h4)
  by_cases h : chE x d = 0
  case neg =>
    have hL : chL x d = [] := by unfold chL; rw [if_neg h]
    rw [hL]
    have h' : (chE x d != 0) = true := bne_iff_ne.2 h
    have G1 := HE.out 1 (by omega) (by omega)
    have hV : gradeV x 1 d = StV.zero := gradeV_bad (by rw [G1]; exact h)
    have HG1 := Lib.hid (HG.out 1)
    rw [hV, G1, zero_v] at HG1
    generalize chE x d = E at *
    clear hL hV G1 h HE HG
    obtain ⟨b, n, s, ea, du, la, ti, lp, bu⟩ := x
    unfold StV.v StV.cells at *
    dsimp only at *
    have HB := Lib.hid ((Below.refl w.heap.size w).alloc (Nat.le_refl _) (.cells #[.int .i64 b, .int .i64 n, .int .i64 s, .int .i64 ea, .int .i64 du, .int .i64 la, .int .i64 ti, .int .i64 lp, .int .i64 bu] 23))
    go_enter Tryd.func20, Tryd.ntmps20
    go_wp2_with fail
    go_loopw [6, 7] (fun v i wr => v = .slice none 0 0 ∧ i = .int .i64 1 ∧ wr = w.alloc (.cells #[.int .i64 b, .int .i64 n, .int .i64 s, .int .i64 ea, .int .i64 du, .int .i64 la, .int .i64 ti, .int .i64 lp, .int .i64 bu] 23)) (fun _ _ _ => 0)
    case atStart => exact ⟨rfl, rfl, rfl⟩
    case round =>
      obtain ⟨rfl, rfl, rfl⟩ := hrel
      go_wp2_with fail
      refine (HG1.out _ (HT.out.below HB.out)).mono ?_
      rintro e1 w1 ⟨rfl, hb1⟩
      have HB1 := Lib.hid ((HB.out.trans (hb1.mono HB.out.size)).alloc (Nat.le_trans HB.out.size hb1.size) (.cells #[.int .i64 0, .int .i64 0, .int .i64 0, .int .i64 0, .int .i64 0, .int .i64 0, .int .i64 0, .int .i64 0, .int .i64 0] 23))
      clear hb1
      go_wp2_with fail
      go_ret2
      exact gives_none HB1.out
  case pos =>
    have hL : chL x d = duesL x d 4 := by unfold chL; rw [if_pos h]
    rw [hL, h]
    have HGG : Hid (∀ (k : Nat) (W : World), k < 4 → TabG W → Calls Tryd.prog 18 #[x.v, .int .i64 ((k : Int) + 1), .int .i64 d] W fun e w' => e = .returned (.tuple #[(gradedV x ((k : Int) + 1) d).v, .int .i64 0]) ∧ Below W.heap.size W w') := Lib.hid (fun k W hk hW => by
      have g0 : gradeE x ((k : Int) + 1) d = 0 := by rw [HE.out _ (by omega) (by omega), h]
      have := HG.out ((k : Int) + 1) W hW
      rw [gradeV_good g0, g0] at this
      exact this)
    have HS := Lib.hid (fun k => duesL_succ x d k)
    have HLN := Lib.hid (duesL_len x d 4)
    clear hL h HE HG
    obtain ⟨Y, hY⟩ : ∃ Y, Y = x := ⟨_, rfl⟩
    rw [← hY]
    have HY := Lib.hid hY
    clear hY
    obtain ⟨b, n, s, ea, du, la, ti, lp, bu⟩ := x
    rw [← HY.out] at HGG HS HLN
    have HYV : Hid (Y.v = .agg #[.int .i64 b, .int .i64 n, .int .i64 s, .int .i64 ea, .int .i64 du, .int .i64 la, .int .i64 ti, .int .i64 lp, .int .i64 bu]) := Lib.hid (by rw [HY.out]; rfl)
    rw [HYV.out] at HGG ⊢
    clear HY
    go_enter Tryd.func20, Tryd.ntmps20
    go_wp2_with fail
    go_loopw [6, 7] (fun v i wr => ∃ (k : Nat) (V : Value), V = v ∧ k ≤ 4 ∧ i = .int .i64 ((k : Int) + 1) ∧ Hid (ChRow w #[.int .i64 b, .int .i64 n, .int .i64 s, .int .i64 ea, .int .i64 du, .int .i64 la, .int .i64 ti, .int .i64 lp, .int .i64 bu] Y d k V wr)) (fun _ i _ => 5 - (intOf i).toNat)
    case atStart => exact ⟨0, _, rfl, by omega, rfl, Lib.hid ⟨World.ownsRow_nil _ _ _ _, (Below.refl _ _).alloc (Nat.le_refl _) _, heap_alloc_new w _⟩⟩
    case round =>
      obtain ⟨k, v, hv, hk, rfl, HR⟩ := hrel
      subst hv
      have HB := Lib.hid HR.out.bel
      have hlt := lt_of_block HR.out.box
      by_cases hk4 : k < 4
      · have p1 : (k : Int) < 4 := by omega
        obtain ⟨y0, y1, y2, y3, y4, y5, y6, y7, y8⟩ := st_nine HR.out.box
        go_wp2_with fail
        refine (HGG.out k _ hk4 (HT.out.below HB.out)).mono ?_
        rintro e1 w1 ⟨rfl, hb1⟩
        rw [gradedV_v]
        have HSK := Lib.hid (HS.out k)
        generalize (gradedV Y ((k : Int) + 1) d).st = S' at *
        generalize (gradedV Y ((k : Int) + 1) d).ea = E' at *
        generalize (gradedV Y ((k : Int) + 1) d).du = D' at *
        generalize (gradedV Y ((k : Int) + 1) d).ti = T' at *
        generalize (gradedV Y ((k : Int) + 1) d).lp = L' at *
        have HB1 := Lib.hid (HB.out.trans (hb1.mono HB.out.size))
        have HX1 := Lib.hid ((hb1.block _ hlt).trans HR.out.box)
        have HO1 := Lib.hid (own_below HR.out.own hb1)
        have hsz : w.heap.size + 1 ≤ w1.heap.size := by have := hb1.size; omega
        clear hb1 y0 y1 y2 y3 y4 y5 y6 y7 y8
        obtain ⟨W3, hW3⟩ : ∃ W3, W3 = (w1.alloc (.cells #[.int .i64 Y.bl, .int .i64 Y.no, .int .i64 S', .int .i64 E', .int .i64 D', .int .i64 d, .int .i64 T', .int .i64 L', .int .i64 (-1)] 23)).alloc (.cells #[.int .i64 D'] 3) := ⟨_, rfl⟩
        have hnews : ∀ j u, [Value.int .i64 D'][j]? = some u → W3.cell? ((⟨w1.heap.size + 1, 0, none⟩ : Addr).add j) = some u := by
          intro j u hj
          have h := heap_alloc_new (w1.alloc (.cells #[.int .i64 Y.bl, .int .i64 Y.no, .int .i64 S', .int .i64 E', .int .i64 D', .int .i64 d, .int .i64 T', .int .i64 L', .int .i64 (-1)] 23)) (.cells #[.int .i64 D'] 3)
          rw [hW3, addr_plus, Nat.zero_add, cell_of_row _ (w1.heap.size + 1) j _ _ (0, 0) (by simpa using h)]
          simpa using hj
        have HO3 : Hid (W3.ownsRow (w.heap.size + 1) 3 1 v k (ints (duesL Y d k))) := Lib.hid (by rw [hW3]; exact (HO1.out.alloc _).alloc _)
        have HB3 : Hid (Below w.heap.size w W3) := Lib.hid (by rw [hW3]; exact (HB1.out.alloc HB1.out.size _).alloc (by have := HB1.out.size; simp; omega) _)
        have HX3 : Hid (W3.heap[w.heap.size]? = some (.cells #[.int .i64 b, .int .i64 n, .int .i64 s, .int .i64 ea, .int .i64 du, .int .i64 la, .int .i64 ti, .int .i64 lp, .int .i64 bu] 23 (0, 0))) := Lib.hid (by
          rw [hW3]
          exact (Below.heap_alloc _ _ _ (by simp; omega)).trans ((Below.heap_alloc _ _ _ (by omega)).trans HX1.out))
        have HNEWS := Lib.hid hnews
        have hs3 : w.heap.size + 1 ≤ W3.heap.size := by rw [hW3]; simp; omega
        have HW3 := Lib.hid hW3
        clear hnews hW3
        go_wp2_with (at_builtin; rw [← HW3.out]; refine wpList_append_own _ rfl _ _ 34 rfl (w.heap.size + 1) 3 i0 _ 1 8 Tryd.underlying34 hi hz0 hz1 hz2 rfl (by omega) _ _ _ rfl HO3.out ⟨w1.heap.size + 1, 0, none⟩ 1 1 [.int .i64 D'] rfl rfl HNEWS.out (by intro u hu; simp at hu; rw [hu]; rfl) (by unfold maxLen; omega) (by omega) hs3 ?_)
        intro v' w4 hown4 hgrow4 _
        have HC4 : Hid (ChRow w #[.int .i64 b, .int .i64 n, .int .i64 s, .int .i64 ea, .int .i64 du, .int .i64 la, .int .i64 ti, .int .i64 lp, .int .i64 bu] Y d (k + 1) v' w4) := Lib.hid ⟨by rw [HSK.out, ints_app]; exact hown4, HB3.out.grown hgrow4 (by omega) (fun q hq => by have := (HO3.out.lt q hq).1; omega), (hgrow4.block _ (by omega) (fun e => by have := (HO3.out.lt _ e.symm).1; omega)).trans HX3.out⟩
        clear hown4 hgrow4
        go_wp2_with fail
        go_roundw
        case rel => exact ⟨k + 1, _, rfl, by omega, by go_num, HC4⟩
        case measure => simp [intOf]; omega
      · have p1 : ¬ (k : Int) < 4 := by omega
        obtain rfl : k = 4 := by omega
        have HO := Lib.hid HR.out.own
        go_wp2_with fail
        go_ret2
        exact ⟨_, rfl, by rw [HLN.out]; exact own_less HO.out (by omega), HB.out⟩
set_option maxRecDepth 100000 in
set_option maxHeartbeats 8000000 in
theorem chancesOf_any (x : StV) (d : Int) (w : World) :
    Calls Tryd.prog 21 #[x.v, .int .i64 d] w (GivesInts (chL x d) (chE x d) w) := by
  obtain ⟨i0, hi, hz0, hz1, hz2⟩ := info_parts infoInt
  have HG := Lib.hid (fun g W => gradeOf_any x g d W)
  skip
  have HE := Lib.hid (fun g (h1 : 1 ≤ g) (h4 : g ≤ 4) => gradeE_any (x := x) (d := d) h1 h4)
  by_cases h : chE x d = 0
  case neg =>
    have hL : chL x d = [] := by unfold chL; rw [if_neg h]
    rw [hL]
    have h' : (chE x d != 0) = true := bne_iff_ne.2 h
    have G1 := HE.out 1 (by omega) (by omega)
    have hV : gradeV x 1 d = StV.zero := gradeV_bad (by rw [G1]; exact h)
    have HG1 := Lib.hid (HG.out 1)
    rw [hV, G1, zero_v] at HG1
    generalize chE x d = E at *
    clear hL hV G1 h HE HG
    obtain ⟨b, n, s, ea, du, la, ti, lp, bu⟩ := x
    unfold StV.v StV.cells at *
    dsimp only at *
    have HB := Lib.hid ((Below.refl w.heap.size w).alloc (Nat.le_refl _) (.cells #[.int .i64 b, .int .i64 n, .int .i64 s, .int .i64 ea, .int .i64 du, .int .i64 la, .int .i64 ti, .int .i64 lp, .int .i64 bu] 23))
    go_enter Tryd.func21, Tryd.ntmps21
    go_wp2_with fail
    go_loopw [6, 7] (fun v i wr => v = .slice none 0 0 ∧ i = .int .i64 1 ∧ wr = w.alloc (.cells #[.int .i64 b, .int .i64 n, .int .i64 s, .int .i64 ea, .int .i64 du, .int .i64 la, .int .i64 ti, .int .i64 lp, .int .i64 bu] 23)) (fun _ _ _ => 0)
    case atStart => exact ⟨rfl, rfl, rfl⟩
    case round =>
      obtain ⟨rfl, rfl, rfl⟩ := hrel
      go_wp2_with fail
      refine (HG1.out _).mono ?_
      rintro e1 w1 ⟨rfl, hb1⟩
      have HB1 := Lib.hid ((HB.out.trans (hb1.mono HB.out.size)).alloc (Nat.le_trans HB.out.size hb1.size) (.cells #[.int .i64 0, .int .i64 0, .int .i64 0, .int .i64 0, .int .i64 0, .int .i64 0, .int .i64 0, .int .i64 0, .int .i64 0] 23))
      clear hb1
      go_wp2_with fail
      go_ret2
      exact gives_none HB1.out
  case pos =>
    have hL : chL x d = duesL x d 4 := by unfold chL; rw [if_pos h]
    rw [hL, h]
    have HGG : Hid (∀ (k : Nat) (W : World), k < 4 → Calls Tryd.prog 19 #[x.v, .int .i64 ((k : Int) + 1), .int .i64 d] W fun e w' => e = .returned (.tuple #[(gradedV x ((k : Int) + 1) d).v, .int .i64 0]) ∧ Below W.heap.size W w') := Lib.hid (fun k W hk => by
      have g0 : gradeE x ((k : Int) + 1) d = 0 := by rw [HE.out _ (by omega) (by omega), h]
      have := HG.out ((k : Int) + 1) W
      rw [gradeV_good g0, g0] at this
      exact this)
    have HS := Lib.hid (fun k => duesL_succ x d k)
    have HLN := Lib.hid (duesL_len x d 4)
    clear hL h HE HG
    obtain ⟨Y, hY⟩ : ∃ Y, Y = x := ⟨_, rfl⟩
    rw [← hY]
    have HY := Lib.hid hY
    clear hY
    obtain ⟨b, n, s, ea, du, la, ti, lp, bu⟩ := x
    rw [← HY.out] at HGG HS HLN
    have HYV : Hid (Y.v = .agg #[.int .i64 b, .int .i64 n, .int .i64 s, .int .i64 ea, .int .i64 du, .int .i64 la, .int .i64 ti, .int .i64 lp, .int .i64 bu]) := Lib.hid (by rw [HY.out]; rfl)
    rw [HYV.out] at HGG ⊢
    clear HY
    go_enter Tryd.func21, Tryd.ntmps21
    go_wp2_with fail
    go_loopw [6, 7] (fun v i wr => ∃ (k : Nat) (V : Value), V = v ∧ k ≤ 4 ∧ i = .int .i64 ((k : Int) + 1) ∧ Hid (ChRow w #[.int .i64 b, .int .i64 n, .int .i64 s, .int .i64 ea, .int .i64 du, .int .i64 la, .int .i64 ti, .int .i64 lp, .int .i64 bu] Y d k V wr)) (fun _ i _ => 5 - (intOf i).toNat)
    case atStart => exact ⟨0, _, rfl, by omega, rfl, Lib.hid ⟨World.ownsRow_nil _ _ _ _, (Below.refl _ _).alloc (Nat.le_refl _) _, heap_alloc_new w _⟩⟩
    case round =>
      obtain ⟨k, v, hv, hk, rfl, HR⟩ := hrel
      subst hv
      have HB := Lib.hid HR.out.bel
      have hlt := lt_of_block HR.out.box
      by_cases hk4 : k < 4
      · have p1 : (k : Int) < 4 := by omega
        obtain ⟨y0, y1, y2, y3, y4, y5, y6, y7, y8⟩ := st_nine HR.out.box
        go_wp2_with fail
        refine (HGG.out k _ hk4).mono ?_
        rintro e1 w1 ⟨rfl, hb1⟩
        rw [gradedV_v]
        have HSK := Lib.hid (HS.out k)
        generalize (gradedV Y ((k : Int) + 1) d).st = S' at *
        generalize (gradedV Y ((k : Int) + 1) d).ea = E' at *
        generalize (gradedV Y ((k : Int) + 1) d).du = D' at *
        generalize (gradedV Y ((k : Int) + 1) d).ti = T' at *
        generalize (gradedV Y ((k : Int) + 1) d).lp = L' at *
        have HB1 := Lib.hid (HB.out.trans (hb1.mono HB.out.size))
        have HX1 := Lib.hid ((hb1.block _ hlt).trans HR.out.box)
        have HO1 := Lib.hid (own_below HR.out.own hb1)
        have hsz : w.heap.size + 1 ≤ w1.heap.size := by have := hb1.size; omega
        clear hb1 y0 y1 y2 y3 y4 y5 y6 y7 y8
        obtain ⟨W3, hW3⟩ : ∃ W3, W3 = (w1.alloc (.cells #[.int .i64 Y.bl, .int .i64 Y.no, .int .i64 S', .int .i64 E', .int .i64 D', .int .i64 d, .int .i64 T', .int .i64 L', .int .i64 (-1)] 23)).alloc (.cells #[.int .i64 D'] 3) := ⟨_, rfl⟩
        have hnews : ∀ j u, [Value.int .i64 D'][j]? = some u → W3.cell? ((⟨w1.heap.size + 1, 0, none⟩ : Addr).add j) = some u := by
          intro j u hj
          have h := heap_alloc_new (w1.alloc (.cells #[.int .i64 Y.bl, .int .i64 Y.no, .int .i64 S', .int .i64 E', .int .i64 D', .int .i64 d, .int .i64 T', .int .i64 L', .int .i64 (-1)] 23)) (.cells #[.int .i64 D'] 3)
          rw [hW3, addr_plus, Nat.zero_add, cell_of_row _ (w1.heap.size + 1) j _ _ (0, 0) (by simpa using h)]
          simpa using hj
        have HO3 : Hid (W3.ownsRow (w.heap.size + 1) 3 1 v k (ints (duesL Y d k))) := Lib.hid (by rw [hW3]; exact (HO1.out.alloc _).alloc _)
        have HB3 : Hid (Below w.heap.size w W3) := Lib.hid (by rw [hW3]; exact (HB1.out.alloc HB1.out.size _).alloc (by have := HB1.out.size; simp; omega) _)
        have HX3 : Hid (W3.heap[w.heap.size]? = some (.cells #[.int .i64 b, .int .i64 n, .int .i64 s, .int .i64 ea, .int .i64 du, .int .i64 la, .int .i64 ti, .int .i64 lp, .int .i64 bu] 23 (0, 0))) := Lib.hid (by
          rw [hW3]
          exact (Below.heap_alloc _ _ _ (by simp; omega)).trans ((Below.heap_alloc _ _ _ (by omega)).trans HX1.out))
        have HNEWS := Lib.hid hnews
        have hs3 : w.heap.size + 1 ≤ W3.heap.size := by rw [hW3]; simp; omega
        have HW3 := Lib.hid hW3
        clear hnews hW3
        go_wp2_with (at_builtin; rw [← HW3.out]; refine wpList_append_own _ rfl _ _ 34 rfl (w.heap.size + 1) 3 i0 _ 1 8 Tryd.underlying34 hi hz0 hz1 hz2 rfl (by omega) _ _ _ rfl HO3.out ⟨w1.heap.size + 1, 0, none⟩ 1 1 [.int .i64 D'] rfl rfl HNEWS.out (by intro u hu; simp at hu; rw [hu]; rfl) (by unfold maxLen; omega) (by omega) hs3 ?_)
        intro v' w4 hown4 hgrow4 _
        have HC4 : Hid (ChRow w #[.int .i64 b, .int .i64 n, .int .i64 s, .int .i64 ea, .int .i64 du, .int .i64 la, .int .i64 ti, .int .i64 lp, .int .i64 bu] Y d (k + 1) v' w4) := Lib.hid ⟨by rw [HSK.out, ints_app]; exact hown4, HB3.out.grown hgrow4 (by omega) (fun q hq => by have := (HO3.out.lt q hq).1; omega), (hgrow4.block _ (by omega) (fun e => by have := (HO3.out.lt _ e.symm).1; omega)).trans HX3.out⟩
        clear hown4 hgrow4
        go_wp2_with fail
        go_roundw
        case rel => exact ⟨k + 1, _, rfl, by omega, by go_num, HC4⟩
        case measure => simp [intOf]; omega
      · have p1 : ¬ (k : Int) < 4 := by omega
        obtain rfl : k = 4 := by omega
        have HO := Lib.hid HR.out.own
        go_wp2_with fail
        go_ret2
        exact ⟨_, rfl, by rw [HLN.out]; exact own_less HO.out (by omega), HB.out⟩
end Go.Proofs.YtnellkdiafglgaaDoor
