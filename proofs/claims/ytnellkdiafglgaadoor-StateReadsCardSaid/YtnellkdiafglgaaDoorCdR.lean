/- Cards: Replay. -/
import Derived.Test.YtnellkdiafglgaaDoorCdQ
import Derived.Deep.RegionHeld3
import Derived.WalkSmall
namespace Go.Proofs.YtnellkdiafglgaaDoor
open Go.RowKit Go.Shelf

theorem bcell {W w1 : World} (hb : Below W.heap.size W w1) : (∀ b o, b < W.heap.size → w1.cell? ⟨b, o, none⟩ = W.cell? ⟨b, o, none⟩) ∧ (∀ b o, b < W.heap.size → w1.frozen? ⟨b, o, none⟩ = W.frozen? ⟨b, o, none⟩) :=
  ⟨fun b o h => hb.cell (p := ⟨b, o, none⟩) h, fun b o h => hb.frozen (p := ⟨b, o, none⟩) h⟩
theorem st_ninev {w : World} {k : Nat} {x : StV} {t : TypeId} {fr : Nat × Nat} (h : w.heap[k]? = some (.cells x.cells t fr)) :
    w.cell? ⟨k, 0, none⟩ = some (.int .i64 x.bl) ∧ w.cell? ⟨k, 1, none⟩ = some (.int .i64 x.no) ∧ w.cell? ⟨k, 2, none⟩ = some (.int .i64 x.st) ∧ w.cell? ⟨k, 3, none⟩ = some (.int .i64 x.ea) ∧ w.cell? ⟨k, 4, none⟩ = some (.int .i64 x.du) ∧ w.cell? ⟨k, 5, none⟩ = some (.int .i64 x.la) ∧ w.cell? ⟨k, 6, none⟩ = some (.int .i64 x.ti) ∧ w.cell? ⟨k, 7, none⟩ = some (.int .i64 x.lp) ∧ w.cell? ⟨k, 8, none⟩ = some (.int .i64 x.bu) := st_nine h
/-- A state stored whole, field by field. -/
def putSt (w : World) (k : Nat) (x : StV) : World :=
  ((((((((w.setCell ⟨k, 0, none⟩ (.int .i64 x.bl)).setCell ⟨k, 1, none⟩ (.int .i64 x.no)).setCell ⟨k, 2, none⟩ (.int .i64 x.st)).setCell ⟨k, 3, none⟩ (.int .i64 x.ea)).setCell ⟨k, 4, none⟩ (.int .i64 x.du)).setCell ⟨k, 5, none⟩ (.int .i64 x.la)).setCell ⟨k, 6, none⟩ (.int .i64 x.ti)).setCell ⟨k, 7, none⟩ (.int .i64 x.lp)).setCell ⟨k, 8, none⟩ (.int .i64 x.bu)
theorem putSt_row {w : World} {k : Nat} {y : StV} {t : TypeId} (h : w.heap[k]? = some (.cells y.cells t (0, 0))) (x : StV) : (putSt w k x).heap[k]? = some (.cells x.cells t (0, 0)) :=
  st_set8 _ (st_set7 _ (st_set6 _ (st_set5 _ (st_set4 _ (st_set3 _ (st_set2 _ (st_set1 _ (st_set0 _ h))))))))
theorem putSt_other (w : World) (k : Nat) (x : StV) (j : Nat) (h : j ≠ k) : (putSt w k x).heap[j]? = w.heap[j]? := by
  unfold putSt
  simp only [heap_setCell_other _ _ _ _ (show j ≠ (⟨k, _, none⟩ : Addr).block from h)]
theorem putSt_size (w : World) (k : Nat) (x : StV) : (putSt w k x).heap.size = w.heap.size := by
  unfold putSt
  simp
theorem putSt_below {B : Nat} {a w : World} (h : Below B a w) (k : Nat) (x : StV) (hk : B ≤ k) : Below B a (putSt w k x) := by
  unfold putSt
  exact ((((((((h.setCell hk _).setCell hk _).setCell hk _).setCell hk _).setCell hk _).setCell hk _).setCell hk _).setCell hk _).setCell hk _
theorem keep13 {W w' : World} {X P : Nat} {x : StV} {rb rn rg rd : Int} (h : W.cell? ⟨X, 0, none⟩ = some (.int .i64 x.bl) ∧ W.cell? ⟨X, 1, none⟩ = some (.int .i64 x.no) ∧ W.cell? ⟨X, 2, none⟩ = some (.int .i64 x.st) ∧ W.cell? ⟨X, 3, none⟩ = some (.int .i64 x.ea) ∧ W.cell? ⟨X, 4, none⟩ = some (.int .i64 x.du) ∧ W.cell? ⟨X, 5, none⟩ = some (.int .i64 x.la) ∧ W.cell? ⟨X, 6, none⟩ = some (.int .i64 x.ti) ∧ W.cell? ⟨X, 7, none⟩ = some (.int .i64 x.lp) ∧ W.cell? ⟨X, 8, none⟩ = some (.int .i64 x.bu) ∧ W.cell? ⟨P, 0, none⟩ = some (.int .i64 rb) ∧ W.cell? ⟨P, 1, none⟩ = some (.int .i64 rn) ∧ W.cell? ⟨P, 2, none⟩ = some (.int .i64 rg) ∧ W.cell? ⟨P, 3, none⟩ = some (.int .i64 rd)) (hb : Below W.heap.size W w') :
    w'.cell? ⟨X, 0, none⟩ = some (.int .i64 x.bl) ∧ w'.cell? ⟨X, 1, none⟩ = some (.int .i64 x.no) ∧ w'.cell? ⟨X, 2, none⟩ = some (.int .i64 x.st) ∧ w'.cell? ⟨X, 3, none⟩ = some (.int .i64 x.ea) ∧ w'.cell? ⟨X, 4, none⟩ = some (.int .i64 x.du) ∧ w'.cell? ⟨X, 5, none⟩ = some (.int .i64 x.la) ∧ w'.cell? ⟨X, 6, none⟩ = some (.int .i64 x.ti) ∧ w'.cell? ⟨X, 7, none⟩ = some (.int .i64 x.lp) ∧ w'.cell? ⟨X, 8, none⟩ = some (.int .i64 x.bu) ∧ w'.cell? ⟨P, 0, none⟩ = some (.int .i64 rb) ∧ w'.cell? ⟨P, 1, none⟩ = some (.int .i64 rn) ∧ w'.cell? ⟨P, 2, none⟩ = some (.int .i64 rg) ∧ w'.cell? ⟨P, 3, none⟩ = some (.int .i64 rd) := by
  obtain ⟨a0, a1, a2, a3, a4, a5, a6, a7, a8, a9, a10, a11, a12⟩ := h
  exact ⟨(hb.cell (p := ⟨_, _, none⟩) (World.block_lt_of_cell? W _ a0)).trans a0, (hb.cell (p := ⟨_, _, none⟩) (World.block_lt_of_cell? W _ a1)).trans a1, (hb.cell (p := ⟨_, _, none⟩) (World.block_lt_of_cell? W _ a2)).trans a2, (hb.cell (p := ⟨_, _, none⟩) (World.block_lt_of_cell? W _ a3)).trans a3, (hb.cell (p := ⟨_, _, none⟩) (World.block_lt_of_cell? W _ a4)).trans a4, (hb.cell (p := ⟨_, _, none⟩) (World.block_lt_of_cell? W _ a5)).trans a5, (hb.cell (p := ⟨_, _, none⟩) (World.block_lt_of_cell? W _ a6)).trans a6, (hb.cell (p := ⟨_, _, none⟩) (World.block_lt_of_cell? W _ a7)).trans a7, (hb.cell (p := ⟨_, _, none⟩) (World.block_lt_of_cell? W _ a8)).trans a8, (hb.cell (p := ⟨_, _, none⟩) (World.block_lt_of_cell? W _ a9)).trans a9, (hb.cell (p := ⟨_, _, none⟩) (World.block_lt_of_cell? W _ a10)).trans a10, (hb.cell (p := ⟨_, _, none⟩) (World.block_lt_of_cell? W _ a11)).trans a11, (hb.cell (p := ⟨_, _, none⟩) (World.block_lt_of_cell? W _ a12)).trans a12⟩
theorem rv_four {w : World} {k : Nat} {rb rn rg rd : Int} {t : TypeId} {fr : Nat × Nat} (h : w.heap[k]? = some (.cells #[.int .i64 rb, .int .i64 rn, .int .i64 rg, .int .i64 rd] t fr)) :
    w.cell? ⟨k, 0, none⟩ = some (.int .i64 rb) ∧ w.cell? ⟨k, 1, none⟩ = some (.int .i64 rn) ∧ w.cell? ⟨k, 2, none⟩ = some (.int .i64 rg) ∧ w.cell? ⟨k, 3, none⟩ = some (.int .i64 rd) :=
  ⟨cell_of_row w k 0 _ _ fr h, cell_of_row w k 1 _ _ fr h, cell_of_row w k 2 _ _ fr h, cell_of_row w k 3 _ _ fr h⟩
/-- The rounds of Replay so far: the state lies at X, the result at w.heap.size. -/
structure RpRow (w : World) (X : Nat) (b n : Int) (R : StV × Int × Int) (l : List RvV) (k : Nat) (x : StV) (wr : World) : Prop where
  bel : Below w.heap.size w wr
  box : wr.heap[X]? = some (.cells x.cells 23 (0, 0))
  res : wr.heap[w.heap.size]? = some (.cells StV.zero.cells 23 (0, 0))
  val : rep b n k x (l.drop k) = R
  bl : x.bl = b
  no : x.no = n
set_option maxRecDepth 100000 in
set_option maxHeartbeats 8000000 in
theorem replay_any (b n : Int) (l : List RvV) (A : Option Addr) (c : Nat) (w : World) (ht : TabG w) (hl : RvVsAt w w.heap.size A l) :
    Calls Tryd.prog 23 #[.int .i64 b, .int .i64 n, .slice A l.length c] w fun e w' => e = .returned (.tuple #[(replayV b n l).1.v, .int .i64 (replayV b n l).2.1, .int .i64 (replayV b n l).2.2]) ∧ Below w.heap.size w w' := by
  have HN := Lib.hid (fun W => new_any b n W)
  have HL := Lib.hid hl
  have HT := Lib.hid ht
  obtain ⟨R, hR⟩ : ∃ R, R = replayV b n l := ⟨_, rfl⟩
  rw [← hR]
  have HR : Hid (R = if stE (StV.fresh b n) ≠ 0 then (StV.zero, 0, stE (StV.fresh b n)) else if 20000 < l.length then (StV.zero, 0, 4) else rep b n 0 (StV.fresh b n) l) := Lib.hid hR
  have hnv : newV b n = if stE (StV.fresh b n) = 0 then StV.fresh b n else StV.zero := rfl
  obtain ⟨V, hV⟩ : ∃ V, V = newV b n := ⟨_, rfl⟩
  rw [← hV] at HN hnv
  have hvv : V.v = .agg #[.int .i64 V.bl, .int .i64 V.no, .int .i64 V.st, .int .i64 V.ea, .int .i64 V.du, .int .i64 V.la, .int .i64 V.ti, .int .i64 V.lp, .int .i64 V.bu] := rfl
  rw [hvv] at HN
  obtain ⟨E, hE⟩ : ∃ E, E = stE (StV.fresh b n) := ⟨_, rfl⟩
  rw [← hE] at HN HR hnv
  have HNV := Lib.hid hnv
  have HREND := Lib.hid (fun x => rep_end b n x l)
  have HRAT := Lib.hid (fun x k h => rep_at b n x l k h)
  clear hR hV hvv hE hnv hl ht
  obtain ⟨N, hN⟩ : ∃ N, N = l.length := ⟨_, rfl⟩
  rw [← hN] at HR HREND ⊢
  have HNL := Lib.hid hN
  clear hN
  have hb0 := (Below.refl w.heap.size w).alloc (Nat.le_refl _) (.cells #[.int .i64 0, .int .i64 0, .int .i64 0, .int .i64 0, .int .i64 0, .int .i64 0, .int .i64 0, .int .i64 0, .int .i64 0] 23)
  have HB0 := Lib.hid hb0
  have HR0 := Lib.hid (heap_alloc_new w (.cells #[.int .i64 0, .int .i64 0, .int .i64 0, .int .i64 0, .int .i64 0, .int .i64 0, .int .i64 0, .int .i64 0, .int .i64 0] 23))
  clear hb0
  go_enter Tryd.func23, Tryd.ntmps23
  go_wp2_with fail
  refine (HN.out _).mono ?_
  rintro e1 w1 ⟨rfl, hb1⟩
  have HB1 := Lib.hid (HB0.out.trans (hb1.mono HB0.out.size))
  have HR1 := Lib.hid ((hb1.block _ (lt_of_block HR0.out)).trans HR0.out)
  clear hb1 HN
  have hlt1 := lt_of_block HR1.out
  have HB2 := Lib.hid (HB1.out.alloc HB1.out.size (.cells #[.int .i64 V.bl, .int .i64 V.no, .int .i64 V.st, .int .i64 V.ea, .int .i64 V.du, .int .i64 V.la, .int .i64 V.ti, .int .i64 V.lp, .int .i64 V.bu] 23))
  have HX2 : Hid ((w1.alloc (.cells #[.int .i64 V.bl, .int .i64 V.no, .int .i64 V.st, .int .i64 V.ea, .int .i64 V.du, .int .i64 V.la, .int .i64 V.ti, .int .i64 V.lp, .int .i64 V.bu] 23)).heap[w1.heap.size]? = some (.cells V.cells 23 (0, 0))) := Lib.hid (heap_alloc_new w1 _)
  have HR2 : Hid ((w1.alloc (.cells #[.int .i64 V.bl, .int .i64 V.no, .int .i64 V.st, .int .i64 V.ea, .int .i64 V.du, .int .i64 V.la, .int .i64 V.ti, .int .i64 V.lp, .int .i64 V.bu] 23)).heap[w.heap.size]? = some (.cells StV.zero.cells 23 (0, 0))) := Lib.hid ((Below.heap_alloc w1 _ _ hlt1).trans HR1.out)
  obtain ⟨q0, q1, q2, q3, q4, q5, q6, q7, q8⟩ := st_nine HR1.out
  obtain ⟨g0, g1, g2, g3, g4, g5, g6, g7, g8⟩ := st_nofrost HR1.out
  by_cases hE : E = 0
  case neg =>
    have hE' : (E != 0) = true := bne_iff_ne.2 hE
    have HF : Hid (R = (StV.zero, 0, E)) := Lib.hid (by rw [HR.out, if_pos hE])
    clear hE HR
    go_wp2_with fail
    refine bodyPost_ret (v := .tuple #[.agg #[.int .i64 0, .int .i64 0, .int .i64 0, .int .i64 0, .int .i64 0, .int .i64 0, .int .i64 0, .int .i64 0, .int .i64 0], .int .i64 0, .int .i64 E]) ?_ rfl ⟨by rw [HF.out]; rfl, ?_⟩
    · simp only [results, Tryd.results23]
      go_simp
    · first
      | (with_reducible refine Below.alloc ?_ (by simp; omega) _
         repeat (with_reducible refine Below.setCell ?_ (by simp) _)
         exact HB1.out)
      | (repeat (with_reducible refine Below.setCell ?_ (by simp) _)
         exact HB2.out)
  case pos =>
    subst hE
    by_cases hbig : 20000 < N
    case pos =>
      have p1 : (20000 : Int) < N := by omega
      have HF : Hid (R = (StV.zero, 0, 4)) := Lib.hid (by rw [HR.out, if_neg (by simp), if_pos hbig])
      clear hbig HR
      go_wp2_with fail
      refine bodyPost_ret (v := .tuple #[.agg #[.int .i64 0, .int .i64 0, .int .i64 0, .int .i64 0, .int .i64 0, .int .i64 0, .int .i64 0, .int .i64 0, .int .i64 0], .int .i64 0, .int .i64 4]) ?_ rfl ⟨by rw [HF.out]; rfl, ?_⟩
      · simp only [results, Tryd.results23]
        go_simp
      · first
        | (with_reducible refine Below.alloc ?_ (by simp; omega) _
           repeat (with_reducible refine Below.setCell ?_ (by simp) _)
           exact HB1.out)
        | (repeat (with_reducible refine Below.setCell ?_ (by simp) _)
           exact HB2.out)
    case neg =>
      have p1 : ¬ (20000 : Int) < N := by omega
      have hNs : N ≤ 20000 := by omega
      have HS : Hid (RpRow w w1.heap.size b n R l 0 V (w1.alloc (.cells #[.int .i64 V.bl, .int .i64 V.no, .int .i64 V.st, .int .i64 V.ea, .int .i64 V.du, .int .i64 V.la, .int .i64 V.ti, .int .i64 V.lp, .int .i64 V.bu] 23))) := Lib.hid ⟨HB2.out, HX2.out, HR2.out, by
        have hv : V = StV.fresh b n := by rw [HNV.out, if_pos rfl]
        rw [HR.out, if_neg (by simp), if_neg hbig, hv, List.drop_zero], by rw [HNV.out, if_pos rfl]; rfl, by rw [HNV.out, if_pos rfl]; rfl⟩
      clear hbig HR HB2 HX2 HR2 q0 q1 q2 q3 q4 q5 q6 q7 q8 g0 g1 g2 g3 g4 g5 g6 g7 g8
      go_wp2_with fail
      go_loopw [29] (fun i wr => ∃ (k : Nat) (x : StV), i = .int .i64 k ∧ k ≤ N ∧ Hid (RpRow w w1.heap.size b n R l k x wr)) (fun i _ => N - (intOf i).toNat)
      case atStart => exact ⟨0, V, rfl, Nat.zero_le _, HS⟩
      case round =>
        clear HS
        obtain ⟨k, x, rfl, hk, HR⟩ := hrel
        have hltX := lt_of_block HR.out.box
        obtain ⟨y0, y1, y2, y3, y4, y5, y6, y7, y8⟩ := st_ninev HR.out.box
        by_cases hlt : k < N
        case neg =>
          obtain rfl : k = N := by omega
          have HF : Hid (R = (x, 0, 0)) := Lib.hid (by rw [← HR.out.val, HREND.out x])
          have p2 : ¬ (k : Int) < k := by omega
          obtain ⟨q0, q1, q2, q3, q4, q5, q6, q7, q8⟩ := st_nine HR.out.res
          obtain ⟨g0, g1, g2, g3, g4, g5, g6, g7, g8⟩ := st_nofrost HR.out.res
          have HB := Lib.hid HR.out.bel
          have hxv : x.v = .agg #[.int .i64 x.bl, .int .i64 x.no, .int .i64 x.st, .int .i64 x.ea, .int .i64 x.du, .int .i64 x.la, .int .i64 x.ti, .int .i64 x.lp, .int .i64 x.bu] := rfl
          go_wp2_with fail
          refine bodyPost_ret (v := .tuple #[.agg #[.int .i64 x.bl, .int .i64 x.no, .int .i64 x.st, .int .i64 x.ea, .int .i64 x.du, .int .i64 x.la, .int .i64 x.ti, .int .i64 x.lp, .int .i64 x.bu], .int .i64 0, .int .i64 0]) ?_ rfl ⟨by rw [HF.out]; rfl, ?_⟩
          · simp only [results, Tryd.results23]
            go_simp
          · repeat (with_reducible refine Below.setCell ?_ (by simp) _)
            exact HB.out
        case pos =>
          have hkl : k < l.length := by rw [← HNL.out]; exact hlt
          obtain ⟨b1, o1, rfl, hbl, c0, c1, c2, c3⟩ := HL.out.at_ HR.out.bel hkl
          have hat := HRAT.out x k hkl
          rw [HR.out.val] at hat
          obtain ⟨rb, rn, rg, rd, hrb, hrn, hrg, hrd⟩ : ∃ rb rn rg rd, l[k].bl = rb ∧ l[k].no = rn ∧ l[k].gr = rg ∧ l[k].dy = rd := ⟨_, _, _, _, rfl, rfl, rfl, rfl⟩
          rw [hrb, hrn, hrg, hrd] at hat
          rw [hrb] at c0
          rw [hrn] at c1
          rw [hrg] at c2
          rw [hrd] at c3
          clear hrb hrn hrg hrd
          have HAT := Lib.hid hat
          have HXB := Lib.hid HR.out.bl
          have HXN := Lib.hid HR.out.no
          clear hat
          have p2 : (k : Int) < N := by omega
          have hbx : b1 < wr.heap.size := Nat.lt_of_lt_of_le hbl HR.out.bel.size
          obtain ⟨W2, hW2⟩ : ∃ W2, W2 = wr.alloc (.cells #[.int .i64 rb, .int .i64 rn, .int .i64 rg, .int .i64 rd] 53) := ⟨_, rfl⟩
          have HW2 := Lib.hid hW2
          have HB2 : Hid (Below w.heap.size w W2) := Lib.hid (by rw [hW2]; exact HR.out.bel.alloc HR.out.bel.size _)
          have HX2 : Hid (W2.heap[w1.heap.size]? = some (.cells x.cells 23 (0, 0))) := Lib.hid (by rw [hW2]; exact (Below.heap_alloc wr _ _ hltX).trans HR.out.box)
          have HR2 : Hid (W2.heap[w.heap.size]? = some (.cells StV.zero.cells 23 (0, 0))) := Lib.hid (by rw [hW2]; exact (Below.heap_alloc wr _ _ (lt_of_block HR.out.res)).trans HR.out.res)
          have HV2 : Hid (W2.heap[wr.heap.size]? = some (.cells #[.int .i64 rb, .int .i64 rn, .int .i64 rg, .int .i64 rd] 53 (0, 0))) := Lib.hid (by rw [hW2]; exact heap_alloc_new wr _)
          clear hW2
          go_upto_region 9 with fail
          rw [← HW2.out]
          obtain ⟨z0, z1, z2, z3⟩ := rv_four HV2.out
          clear c0 c1 c2 c3 y0 y1 y2 y3 y4 y5 y6 y7 y8
          obtain ⟨y0, y1, y2, y3, y4, y5, y6, y7, y8⟩ := st_ninev HX2.out
          have HRV := Lib.hid (fun W => rvId_any ⟨rb, rn, rg, rd⟩ W)
          have HSI := Lib.hid (fun W => stId_any x W)
          unfold StV.v StV.cells at HSI
          dsimp only at HRV
          rcases (by omega : rb ≠ x.bl ∨ (rb = x.bl ∧ rn ≠ x.no) ∨ (rb = x.bl ∧ rn = x.no)) with h1 | ⟨h1, h2⟩ | ⟨h1, h2⟩
          · have h1' : (rb == x.bl) = false := beq_eq_false_iff_ne.2 h1
            go_cut [38] (fun v wx => v = .bool true ∧ Hid (Below W2.heap.size W2 wx))
            case first =>
              go_region_held3 (fun W => W.cell? ⟨w1.heap.size, 0, none⟩ = some (.int .i64 x.bl) ∧ W.cell? ⟨w1.heap.size, 1, none⟩ = some (.int .i64 x.no) ∧ W.cell? ⟨w1.heap.size, 2, none⟩ = some (.int .i64 x.st) ∧ W.cell? ⟨w1.heap.size, 3, none⟩ = some (.int .i64 x.ea) ∧ W.cell? ⟨w1.heap.size, 4, none⟩ = some (.int .i64 x.du) ∧ W.cell? ⟨w1.heap.size, 5, none⟩ = some (.int .i64 x.la) ∧ W.cell? ⟨w1.heap.size, 6, none⟩ = some (.int .i64 x.ti) ∧ W.cell? ⟨w1.heap.size, 7, none⟩ = some (.int .i64 x.lp) ∧ W.cell? ⟨w1.heap.size, 8, none⟩ = some (.int .i64 x.bu) ∧ W.cell? ⟨wr.heap.size, 0, none⟩ = some (.int .i64 rb) ∧ W.cell? ⟨wr.heap.size, 1, none⟩ = some (.int .i64 rn) ∧ W.cell? ⟨wr.heap.size, 2, none⟩ = some (.int .i64 rg) ∧ W.cell? ⟨wr.heap.size, 3, none⟩ = some (.int .i64 rd))
                (first | go_keep | exact keep13 (by assumption) hb4 | exact keep13 (by assumption) hb3)
                (first
                  | (go_at_call 51; refine (HRV.out _).mono ?_; rintro e3 w3 ⟨rfl, hb3⟩)
                  | (go_at_call 52; refine (HSI.out _).mono ?_; rintro e4 w4 ⟨rfl, hb4⟩))
              have HBX : Hid (Below W2.heap.size W2 w4) := Lib.hid (((Below.refl _ W2).drew.trans hb3).trans (hb4.mono hb3.size))
              clear hb3 hb4
              go_wp2_with fail
              go_meet
              exact ⟨rfl, HBX⟩
            case rest =>
              obtain ⟨rfl, HBX⟩ := hcut
              rename World => w5
              have HB5 := Lib.hid (HB2.out.trans (HBX.out.mono HB2.out.size))
              have HX5 := Lib.hid ((HBX.out.block _ (lt_of_block HX2.out)).trans HX2.out)
              have HR5 := Lib.hid ((HBX.out.block _ (lt_of_block HR2.out)).trans HR2.out)
              have HV5 := Lib.hid ((HBX.out.block _ (lt_of_block HV2.out)).trans HV2.out)
              clear y0 y1 y2 y3 y4 y5 y6 y7 y8 z0 z1 z2 z3
              have HN5 : Hid (RpRow w w1.heap.size b n R l (k + 1) x w5) := Lib.hid ⟨HB5.out, HX5.out, HR5.out, by rw [HAT.out, if_neg (fun hh => h1 (by rw [HXB.out]; exact hh.1))], HXB.out, HXN.out⟩
              go_wp2_with fail
              go_roundw
              case rel => exact ⟨k + 1, x, by go_num, by omega, HN5⟩
              case measure => simp [intOf]; omega
          · have h2' : (rn == x.no) = false := beq_eq_false_iff_ne.2 h2
            subst h1
            go_cut [38] (fun v wx => v = .bool true ∧ Hid (Below W2.heap.size W2 wx))
            case first =>
              go_region_held3 (fun W => W.cell? ⟨w1.heap.size, 0, none⟩ = some (.int .i64 x.bl) ∧ W.cell? ⟨w1.heap.size, 1, none⟩ = some (.int .i64 x.no) ∧ W.cell? ⟨w1.heap.size, 2, none⟩ = some (.int .i64 x.st) ∧ W.cell? ⟨w1.heap.size, 3, none⟩ = some (.int .i64 x.ea) ∧ W.cell? ⟨w1.heap.size, 4, none⟩ = some (.int .i64 x.du) ∧ W.cell? ⟨w1.heap.size, 5, none⟩ = some (.int .i64 x.la) ∧ W.cell? ⟨w1.heap.size, 6, none⟩ = some (.int .i64 x.ti) ∧ W.cell? ⟨w1.heap.size, 7, none⟩ = some (.int .i64 x.lp) ∧ W.cell? ⟨w1.heap.size, 8, none⟩ = some (.int .i64 x.bu) ∧ W.cell? ⟨wr.heap.size, 0, none⟩ = some (.int .i64 x.bl) ∧ W.cell? ⟨wr.heap.size, 1, none⟩ = some (.int .i64 rn) ∧ W.cell? ⟨wr.heap.size, 2, none⟩ = some (.int .i64 rg) ∧ W.cell? ⟨wr.heap.size, 3, none⟩ = some (.int .i64 rd))
                (first | go_keep | exact keep13 (by assumption) hb4 | exact keep13 (by assumption) hb3)
                (first
                  | (go_at_call 51; refine (HRV.out _).mono ?_; rintro e3 w3 ⟨rfl, hb3⟩)
                  | (go_at_call 52; refine (HSI.out _).mono ?_; rintro e4 w4 ⟨rfl, hb4⟩))
              have HBX : Hid (Below W2.heap.size W2 w4) := Lib.hid (((Below.refl _ W2).drew.trans hb3).trans (hb4.mono hb3.size))
              clear hb3 hb4
              go_wp2_with fail
              go_meet
              exact ⟨rfl, HBX⟩
            case rest =>
              obtain ⟨rfl, HBX⟩ := hcut
              rename World => w5
              have HB5 := Lib.hid (HB2.out.trans (HBX.out.mono HB2.out.size))
              have HX5 := Lib.hid ((HBX.out.block _ (lt_of_block HX2.out)).trans HX2.out)
              have HR5 := Lib.hid ((HBX.out.block _ (lt_of_block HR2.out)).trans HR2.out)
              have HV5 := Lib.hid ((HBX.out.block _ (lt_of_block HV2.out)).trans HV2.out)
              clear y0 y1 y2 y3 y4 y5 y6 y7 y8 z0 z1 z2 z3
              have HN5 : Hid (RpRow w w1.heap.size b n R l (k + 1) x w5) := Lib.hid ⟨HB5.out, HX5.out, HR5.out, by rw [HAT.out, if_neg (fun hh => h2 (by rw [HXN.out]; exact hh.2))], HXB.out, HXN.out⟩
              go_wp2_with fail
              go_roundw
              case rel => exact ⟨k + 1, x, by go_num, by omega, HN5⟩
              case measure => simp [intOf]; omega
          · have h3 := h1
            subst h1
            subst h2
            go_cut [38] (fun v wx => v = .bool false ∧ Hid (Below W2.heap.size W2 wx))
            case first =>
              go_region_held3 (fun W => W.cell? ⟨w1.heap.size, 0, none⟩ = some (.int .i64 x.bl) ∧ W.cell? ⟨w1.heap.size, 1, none⟩ = some (.int .i64 x.no) ∧ W.cell? ⟨w1.heap.size, 2, none⟩ = some (.int .i64 x.st) ∧ W.cell? ⟨w1.heap.size, 3, none⟩ = some (.int .i64 x.ea) ∧ W.cell? ⟨w1.heap.size, 4, none⟩ = some (.int .i64 x.du) ∧ W.cell? ⟨w1.heap.size, 5, none⟩ = some (.int .i64 x.la) ∧ W.cell? ⟨w1.heap.size, 6, none⟩ = some (.int .i64 x.ti) ∧ W.cell? ⟨w1.heap.size, 7, none⟩ = some (.int .i64 x.lp) ∧ W.cell? ⟨w1.heap.size, 8, none⟩ = some (.int .i64 x.bu) ∧ W.cell? ⟨wr.heap.size, 0, none⟩ = some (.int .i64 x.bl) ∧ W.cell? ⟨wr.heap.size, 1, none⟩ = some (.int .i64 x.no) ∧ W.cell? ⟨wr.heap.size, 2, none⟩ = some (.int .i64 rg) ∧ W.cell? ⟨wr.heap.size, 3, none⟩ = some (.int .i64 rd))
                (first | go_keep | exact keep13 (by assumption) hb4 | exact keep13 (by assumption) hb3)
                (first
                  | (go_at_call 51; refine (HRV.out _).mono ?_; rintro e3 w3 ⟨rfl, hb3⟩)
                  | (go_at_call 52; refine (HSI.out _).mono ?_; rintro e4 w4 ⟨rfl, hb4⟩))
              have HBX : Hid (Below W2.heap.size W2 w4) := Lib.hid (((Below.refl _ W2).drew.trans hb3).trans (hb4.mono hb3.size))
              clear hb3 hb4
              go_wp2_with fail
              go_meet
              exact ⟨rfl, HBX⟩
            case rest =>
              obtain ⟨rfl, HBX⟩ := hcut
              rename World => w5
              have HB5 := Lib.hid (HB2.out.trans (HBX.out.mono HB2.out.size))
              have HX5 := Lib.hid ((HBX.out.block _ (lt_of_block HX2.out)).trans HX2.out)
              have HR5 := Lib.hid ((HBX.out.block _ (lt_of_block HR2.out)).trans HR2.out)
              have HV5 := Lib.hid ((HBX.out.block _ (lt_of_block HV2.out)).trans HV2.out)
              clear y0 y1 y2 y3 y4 y5 y6 y7 y8 z0 z1 z2 z3
              have HG := Lib.hid (fun W hW => grade_any x rg rd W hW)
              obtain ⟨Y, hY⟩ : ∃ Y, Y = gradeV x rg rd := ⟨_, rfl⟩
              obtain ⟨E, hE⟩ : ∃ E, E = gradeE x rg rd := ⟨_, rfl⟩
              have HY : Hid (E = 0 → Y = gradedV x rg rd) := Lib.hid (fun h => by rw [hY, gradeV_good (by rw [← hE]; exact h)])
              rw [← hY, ← hE] at HG
              have hyv : Y.v = .agg #[.int .i64 Y.bl, .int .i64 Y.no, .int .i64 Y.st, .int .i64 Y.ea, .int .i64 Y.du, .int .i64 Y.la, .int .i64 Y.ti, .int .i64 Y.lp, .int .i64 Y.bu] := rfl
              have hxv : x.v = .agg #[.int .i64 x.bl, .int .i64 x.no, .int .i64 x.st, .int .i64 x.ea, .int .i64 x.du, .int .i64 x.la, .int .i64 x.ti, .int .i64 x.lp, .int .i64 x.bu] := rfl
              rw [hxv, hyv] at HG
              rw [← hE] at HAT
              have HXB2 := Lib.hid HXB.out
              have hat := HAT.out
              rw [if_pos ⟨HXB.out, HXN.out⟩] at hat
              have HAT2 := Lib.hid hat
              clear hY hE hyv hxv hat HAT
              obtain ⟨z0, z1, z2, z3⟩ := rv_four HV5.out
              obtain ⟨y0, y1, y2, y3, y4, y5, y6, y7, y8⟩ := st_ninev HX5.out
              go_wp2_with fail
              refine (HG.out _ (HT.out.below HB5.out)).mono ?_
              rintro e6 w6 ⟨rfl, hb6⟩
              have HB6 := Lib.hid (HB5.out.trans (hb6.mono HB5.out.size))
              have HX6 := Lib.hid ((hb6.block _ (lt_of_block HX5.out)).trans HX5.out)
              have HR6 := Lib.hid ((hb6.block _ (lt_of_block HR5.out)).trans HR5.out)
              clear hb6 y0 y1 y2 y3 y4 y5 y6 y7 y8 z0 z1 z2 z3
              obtain ⟨y0, y1, y2, y3, y4, y5, y6, y7, y8⟩ := st_ninev HX6.out
              obtain ⟨f0, f1, f2, f3, f4, f5, f6, f7, f8⟩ := st_nofrost HX6.out
              go_upto_region 11 with fail
              obtain ⟨W7, hW7⟩ : ∃ W7, W7 = putSt w6 w1.heap.size Y := ⟨_, rfl⟩
              have HB7 : Hid (Below w.heap.size w W7) := Lib.hid (by rw [hW7]; exact putSt_below HB6.out _ _ HB1.out.size)
              have HX7 : Hid (W7.heap[w1.heap.size]? = some (.cells Y.cells 23 (0, 0))) := Lib.hid (by rw [hW7]; exact putSt_row HX6.out Y)
              have HR7 : Hid (W7.heap[w.heap.size]? = some (.cells StV.zero.cells 23 (0, 0))) := Lib.hid (by rw [hW7, putSt_other _ _ _ _ (by omega)]; exact HR6.out)
              unfold putSt at hW7
              rw [← hW7]
              clear hW7 y0 y1 y2 y3 y4 y5 y6 y7 y8 f0 f1 f2 f3 f4 f5 f6 f7 f8
              by_cases hE : E = 0
              case neg =>
                have hE' : (E != 0) = true := bne_iff_ne.2 hE
                have HF : Hid (R = (StV.zero, (k : Int), E)) := Lib.hid (by rw [HAT2.out, if_neg hE])
                obtain ⟨q0, q1, q2, q3, q4, q5, q6, q7, q8⟩ := st_ninev HR7.out
                obtain ⟨g0, g1, g2, g3, g4, g5, g6, g7, g8⟩ := st_nofrost HR7.out
                clear hE
                go_wp2_with fail
                refine bodyPost_ret (v := .tuple #[.agg #[.int .i64 0, .int .i64 0, .int .i64 0, .int .i64 0, .int .i64 0, .int .i64 0, .int .i64 0, .int .i64 0, .int .i64 0], .int .i64 k, .int .i64 E]) ?_ rfl ⟨by rw [HF.out]; rfl, ?_⟩
                · simp only [results, Tryd.results23]
                  go_simp
                · repeat (with_reducible refine Below.setCell ?_ (by simp) _)
                  exact HB7.out
              case pos =>
                have HN7 : Hid (RpRow w w1.heap.size b n R l (k + 1) Y W7) := Lib.hid ⟨HB7.out, HX7.out, HR7.out, by rw [HAT2.out, if_pos hE, HY.out hE], by rw [HY.out hE]; exact HXB.out, by rw [HY.out hE]; exact HXN.out⟩
                subst hE
                go_wp2_with fail
                go_roundw
                case rel => exact ⟨k + 1, Y, by go_num, by omega, HN7⟩
                case measure => simp [intOf]; omega
end Go.Proofs.YtnellkdiafglgaaDoor
