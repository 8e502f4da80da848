/- Cards: the law TopCards. -/
import Derived.Test.YtnellkdiafglgaaDoorCdZ
import Derived.Deep.Cut
import Derived.Deep.CutBlock
import Derived.Deep.DeepCutAuto
import Derived.Deep.RegionHeld3
namespace Go.Proofs.YtnellkdiafglgaaDoor
open Go.RowKit Go.Shelf Go.Joins

/-- The state's box stands, and all that was there. -/
structure TcW (w : World) (x : StV) (wx : World) : Prop where
  bel : Below w.heap.size w wx
  box : wx.heap[w.heap.size]? = some (.cells x.cells 23 (0, 0))
theorem TcW.next {w w1 w2 : World} {x : StV} (h : TcW w x w1) (hb : Below w1.heap.size w1 w2) : TcW w x w2 := ⟨h.bel.trans (hb.mono h.bel.size), (hb.block _ (lt_of_block h.box)).trans h.box⟩
theorem TcW.alloc {w w1 : World} {x : StV} (h : TcW w x w1) (o : Obj) : TcW w x (w1.alloc o) := h.next ((Below.refl _ _).alloc (Nat.le_refl _) o)
/-- The copy of the reviews: the first k bear b and n. -/
structure TcR (W : World) (A2 : Option Addr) (b n : Int) (l : List RvV) (k : Nat) (wr : World) : Prop where
  bel : Below W.heap.size W wr
  row : l = [] ∨ ∃ g, A2 = some ⟨g, 0, none⟩ ∧ RvOwn W W.heap.size g b n l k wr
theorem rvs_form {W w' : World} {b n : Int} {l : List RvV} {e : Ending} (h : GivesRvs W b n l e w') : ∃ A2 c2, e = .returned (.slice A2 l.length c2) ∧ TcR W A2 b n l 0 w' := by
  obtain ⟨hb, h⟩ := h
  rcases h with ⟨rfl, A, c, rfl⟩ | ⟨g, c, rfl, h⟩
  · exact ⟨A, c, rfl, hb, .inl rfl⟩
  · exact ⟨_, c, rfl, hb, .inr ⟨g, rfl, h⟩⟩
theorem TcR.done {W wr : World} {A2 : Option Addr} {b n : Int} {l : List RvV} (h : TcR W A2 b n l l.length wr) : RvVsAt wr wr.heap.size A2 (markL b n l) := by
  rcases h.row with rfl | ⟨g, rfl, h2⟩
  · intro k x hk
    simp [markL] at hk
  · exact RvOwn.done h2
/-- The rounds of the last loop. -/
structure Tc3 (w : World) (x : StV) (Y P : Nat) (A2 : Option Addr) (b n : Int) (l : List RvV) (R : StV × Int × Int) (k : Nat) (y : StV) (wr : World) : Prop where
  tc : TcW w x wr
  ybox : wr.heap[Y]? = some (.cells y.cells 23 (0, 0))
  zbox : wr.heap[P]? = some (.cells R.1.cells 23 (0, 0))
  revs : RvVsAt wr wr.heap.size A2 l
  val : rep b n k y (l.drop k) = R
  apart : l = [] ∨ ∃ g, A2 = some ⟨g, 0, none⟩ ∧ Y < g
theorem RvVsAt.put {w : World} {A2 : Option Addr} {l : List RvV} {Y : Nat} (h : RvVsAt w w.heap.size A2 l) (ha : l = [] ∨ ∃ g, A2 = some ⟨g, 0, none⟩ ∧ Y < g) (x : StV) : RvVsAt (putSt w Y x) (putSt w Y x).heap.size A2 l := by
  rcases ha with rfl | ⟨g, rfl, hg⟩
  · intro k x hk
    simp at hk
  · intro k r hk
    obtain ⟨b, o, hA, hB, c0, c1, c2, c3⟩ := h k r hk
    simp only [Option.some.injEq, Addr.mk.injEq, and_true] at hA
    obtain ⟨rfl, rfl⟩ := hA
    have hh := putSt_other w Y x g (by omega)
    exact ⟨g, 0, rfl, by rw [putSt_size]; exact hB, (World.cell?_of_block (w := w) (a := ⟨g, _, none⟩) hh).trans c0, (World.cell?_of_block (w := w) (a := ⟨g, _, none⟩) hh).trans c1, (World.cell?_of_block (w := w) (a := ⟨g, _, none⟩) hh).trans c2, (World.cell?_of_block (w := w) (a := ⟨g, _, none⟩) hh).trans c3⟩
theorem mark_at (b n : Int) (l : List RvV) (k : Nat) (h : k < (markL b n l).length) : (markL b n l)[k].bl = b ∧ (markL b n l)[k].no = n := by
  unfold markL at h ⊢
  simp
def GrI (i : Value) : Prop := ∃ g : Int, i = .int .i64 g ∧ 1 ≤ g ∧ g ≤ 5
/-- The four dues lie in a block. -/
def DuesAt (x : StV) (d : Int) (g : Nat) (wx : World) : Prop := wx.cell? ⟨g, 0, none⟩ = some (.int .i64 (gradedV x 1 d).du) ∧ wx.cell? ⟨g, 1, none⟩ = some (.int .i64 (gradedV x 2 d).du) ∧ wx.cell? ⟨g, 2, none⟩ = some (.int .i64 (gradedV x 3 d).du) ∧ wx.cell? ⟨g, 3, none⟩ = some (.int .i64 (gradedV x 4 d).du)
theorem keepC1 {W w' : World} {a : Addr} {v : Value} (h : W.cell? a = some v) (hb : Below W.heap.size W w') : w'.cell? a = some v := (hb.cell (p := a) (World.block_lt_of_cell? W _ h)).trans h
theorem DuesAt.next {x : StV} {d : Int} {g : Nat} {w1 w2 : World} (h : DuesAt x d g w1) (hb : Below w1.heap.size w1 w2) : DuesAt x d g w2 := ⟨keepC1 h.1 hb, keepC1 h.2.1 hb, keepC1 h.2.2.1 hb, keepC1 h.2.2.2 hb⟩
theorem dues_of {w : World} {B : Nat} {x : StV} {d : Int} {v : Value} (h : w.ownsRow B 3 1 v (duesL x d 4).length (ints (duesL x d 4))) : ∃ g c, v = .slice (some ⟨g, 0, none⟩) 4 c ∧ DuesAt x d g w := by
  rcases own_ints h with ⟨_, h0⟩ | ⟨g, c, hv, _, hc⟩
  · have := duesL_len x d 4
    rw [h0] at this
    simp at this
  · rw [duesL_len] at hv hc
    exact ⟨g, c, hv, hc 0 (by omega), hc 1 (by omega), hc 2 (by omega), hc 3 (by omega)⟩
set_option maxRecDepth 100000 in
set_option maxHeartbeats 16000000 in
theorem topCards_any (x : StV) (d : Int) (l : List RvV) (A : Option Addr) (c : Nat) (w : World) (ht : TabG w) (hl : RvVsAt w w.heap.size A l) :
    Calls Tryd.prog 9 #[x.v, .int .i64 d, .slice A l.length c] w (QuietG w (.bool true)) := by
  have HT := Lib.hid ht
  have HL := Lib.hid hl
  have HCH := Lib.hid (fun W hW => chances_any x d W hW)
  have hxv : x.v = .agg #[.int .i64 x.bl, .int .i64 x.no, .int .i64 x.st, .int .i64 x.ea, .int .i64 x.du, .int .i64 x.la, .int .i64 x.ti, .int .i64 x.lp, .int .i64 x.bu] := rfl
  rw [hxv] at HCH ⊢
  have HW0 : Hid (TcW w x (w.alloc (.cells #[.int .i64 x.bl, .int .i64 x.no, .int .i64 x.st, .int .i64 x.ea, .int .i64 x.du, .int .i64 x.la, .int .i64 x.ti, .int .i64 x.lp, .int .i64 x.bu] 23))) := Lib.hid ⟨(Below.refl _ _).alloc (Nat.le_refl _) _, heap_alloc_new w _⟩
  obtain ⟨N, hN⟩ : ∃ N, N = l.length := ⟨_, rfl⟩
  rw [← hN]
  have HNL := Lib.hid hN
  clear ht hl hN
  go_enter Tryd.func9, Tryd.ntmps9
  go_wp2_with fail
  refine (awakeCard_any _).mono ?_
  rintro e1 w1 ⟨rfl, hb1⟩
  have HW1 := Lib.hid (HW0.out.next hb1)
  clear hb1
  obtain ⟨y0, y1, y2, y3, y4, y5, y6, y7, y8⟩ := st_ninev HW1.out.box
  go_wp2_with fail
  refine (HCH.out _ (HT.out.below HW1.out.bel)).mono ?_
  rintro e2 w2 ⟨v2, rfl, ho2, hb2⟩
  have HW2 := Lib.hid (HW1.out.next hb2)
  have HO2 := Lib.hid ho2
  clear hb2 ho2 y0 y1 y2 y3 y4 y5 y6 y7 y8 HCH
  go_upto_if 28 with fail
  go_cut [9] (fun v wx => Hid (TcW w x wx))
  case first =>
    by_cases hE : chE x d = 0
    case neg =>
      have hE' : (chE x d == 0) = false := beq_eq_false_iff_ne.2 hE
      clear hE
      generalize chE x d = E at *
      go_wp2_with fail
      go_meet
      exact HW2
    case pos =>
      have h4 := (gradeE_ok (g := 1) hE).1
      have HM := Lib.hid (due_mono (d := d) (stE_ok h4).1)
      have hL : chL x d = duesL x d 4 := by unfold chL; rw [if_pos hE]
      have ho := HO2.out
      rw [hL] at ho
      obtain ⟨gc, cc, rfl, hd2⟩ := dues_of ho
      have HGG : Hid (∀ (g : Int) (W : World), 1 ≤ g → g ≤ 4 → TabG W → Calls Tryd.prog 18 #[.agg #[.int .i64 x.bl, .int .i64 x.no, .int .i64 x.st, .int .i64 x.ea, .int .i64 x.du, .int .i64 x.la, .int .i64 x.ti, .int .i64 x.lp, .int .i64 x.bu], .int .i64 g, .int .i64 d] W fun e w' => e = .returned (.tuple #[(gradedV x g d).v, .int .i64 0]) ∧ Below W.heap.size W w') := Lib.hid (fun g W h1 h2 hW => by
        have g0 : gradeE x g d = 0 := by rw [gradeE_any h1 h2, hE]
        have := grade_any x g d W hW
        rw [gradeV_good g0, g0] at this
        exact this)
      have HCK : Hid (∀ (g : Int) (W : World), 1 ≤ g → g ≤ 4 → Calls Tryd.prog 14 #[(gradedV x g d).v] W fun e w' => e = .returned (.int .i64 0) ∧ Below W.heap.size W w') := Lib.hid (fun g W h1 h2 => by
        have g0 : gradeE x g d = 0 := by rw [gradeE_any h1 h2, hE]
        have := checkState_any (gradedV x g d) W
        rw [graded_right g0] at this
        exact this)
      have HS := Lib.hid (sorted_four gc cc _ _ _ _ w2 HM.out.1 HM.out.2.1 HM.out.2.2 hd2.1 hd2.2.1 hd2.2.2.1 hd2.2.2.2)
      have HD2 := Lib.hid hd2
      clear hL ho hd2 h4 HO2 HM
      generalize chE x d = E at *
      subst hE
      go_wp2_with fail
      refine HS.out.mono ?_
      rintro e3 w3 ⟨rfl, q, hw3⟩
      have HR3 : Hid (TcW w x w3 ∧ DuesAt x d gc w3) := Lib.hid (by
        have hb : Below w2.heap.size w2 w3 := by rw [hw3]; exact below_drewN (Below.refl _ _) q
        exact ⟨HW2.out.next hb, HD2.out.next hb⟩)
      clear hw3 HS HD2 HW2
      go_wp2_with fail
      go_loopw [9] (fun i wr => Hid (GrI i) ∧ Hid (TcW w x wr ∧ DuesAt x d gc wr)) (fun i _ => (5 - intOf i).toNat)
      case atStart => exact ⟨Lib.hid ⟨1, rfl, by omega, by omega⟩, HR3⟩
      case round =>
      clear HR3
      obtain ⟨HGI, HR⟩ := hrel
      obtain ⟨g, rfl, hg1, hg5⟩ := HGI.out
      clear HGI
      rcases (by omega : g = 1 ∨ g = 2 ∨ g = 3 ∨ g = 4 ∨ g = 5) with rfl | rfl | rfl | rfl | rfl
      · obtain ⟨y0, y1, y2, y3, y4, y5, y6, y7, y8⟩ := st_ninev HR.out.1.box
        have HG : Hid (Calls Tryd.prog 18 #[.agg #[.int .i64 x.bl, .int .i64 x.no, .int .i64 x.st, .int .i64 x.ea, .int .i64 x.du, .int .i64 x.la, .int .i64 x.ti, .int .i64 x.lp, .int .i64 x.bu], .int .i64 1, .int .i64 d] wr fun e w' => e = .returned (.tuple #[(gradedV x 1 d).v, .int .i64 0]) ∧ Below wr.heap.size wr w') := Lib.hid (HGG.out 1 wr (by omega) (by omega) (HT.out.below HR.out.1.bel))
        have HK := Lib.hid (fun W => HCK.out 1 W (by omega) (by omega))
        have hdu := HR.out.2.1
        rw [gradedV_v] at HG HK
        generalize (gradedV x 1 d).st = S' at *
        generalize (gradedV x 1 d).ea = E' at *
        generalize (gradedV x 1 d).du = D' at *
        generalize (gradedV x 1 d).ti = T' at *
        generalize (gradedV x 1 d).lp = L' at *
        have hgc := World.block_lt_of_cell? wr _ hdu
        go_wp2_with fail
        refine HG.out.mono ?_
        rintro e3 w3 ⟨rfl, hb3⟩
        have HW3 := Lib.hid (HR.out.1.next hb3)
        have HD3 := Lib.hid (HR.out.2.next hb3)
        have hdu3 := keepC1 hdu hb3
        have hgc3 : gc < w3.heap.size := Nat.lt_of_lt_of_le hgc hb3.size
        clear hb3 hdu y0 y1 y2 y3 y4 y5 y6 y7 y8
        obtain ⟨W4, hW4⟩ : ∃ W4, W4 = w3.alloc (.cells #[.int .i64 x.bl, .int .i64 x.no, .int .i64 S', .int .i64 E', .int .i64 D', .int .i64 d, .int .i64 T', .int .i64 L', .int .i64 (-1)] 23) := ⟨_, rfl⟩
        have hx4 : W4.heap[w3.heap.size]? = some (.cells #[.int .i64 x.bl, .int .i64 x.no, .int .i64 S', .int .i64 E', .int .i64 D', .int .i64 d, .int .i64 T', .int .i64 L', .int .i64 (-1)] 23 (0, 0)) := by rw [hW4]; exact heap_alloc_new w3 _
        have HW4 : Hid (TcW w x W4) := Lib.hid (by rw [hW4]; exact HW3.out.alloc _)
        have HD4 : Hid (DuesAt x d gc W4) := Lib.hid (by rw [hW4]; exact HD3.out.next ((Below.refl _ _).alloc (Nat.le_refl _) _))
        have hdu4 : W4.cell? ⟨gc, 0, none⟩ = some (.int .i64 D') := by rw [hW4]; exact keepC1 hdu3 ((Below.refl _ _).alloc (Nat.le_refl _) _)
        have HWE := Lib.hid hW4
        clear hW4 hdu3
        obtain ⟨z0, z1, z2, z3, z4, z5, z6, z7, z8⟩ := st_nine hx4
        clear hx4
        have i1 : IntKind.i64.wrap (0 : Int) = 0 := by decide
        have i2 : (0 : Int) ≤ 0 := by decide
        have i3 : (0 : Int) < 4 := by decide
        go_upto_region 11 with fail
        rw [← HWE.out]
        go_region_held3 (fun W => W.cell? ⟨w3.heap.size, 0, none⟩ = some (.int .i64 x.bl) ∧ W.cell? ⟨w3.heap.size, 1, none⟩ = some (.int .i64 x.no) ∧ W.cell? ⟨w3.heap.size, 2, none⟩ = some (.int .i64 S') ∧ W.cell? ⟨w3.heap.size, 3, none⟩ = some (.int .i64 E') ∧ W.cell? ⟨w3.heap.size, 4, none⟩ = some (.int .i64 D') ∧ W.cell? ⟨w3.heap.size, 5, none⟩ = some (.int .i64 d) ∧ W.cell? ⟨w3.heap.size, 6, none⟩ = some (.int .i64 T') ∧ W.cell? ⟨w3.heap.size, 7, none⟩ = some (.int .i64 L') ∧ W.cell? ⟨w3.heap.size, 8, none⟩ = some (.int .i64 (-1)) ∧ W.cell? ⟨gc, 0, none⟩ = some (.int .i64 D'))
          (first | go_keep | (go_split_ands; refine ⟨?_, ?_, ?_, ?_, ?_, ?_, ?_, ?_, ?_, ?_⟩ <;> exact keepC1 (by assumption) hb6))
          (first | (go_at_call 14; refine (HK.out _).mono ?_; rintro e6 w6 ⟨rfl, hb6⟩))
        have HN : Hid (TcW w x w6 ∧ DuesAt x d gc w6) := Lib.hid ⟨HW4.out.next ((Below.refl _ W4).drew.trans hb6), HD4.out.next ((Below.refl _ W4).drew.trans hb6)⟩
        clear hb6
        go_wp2_with fail
        go_roundw
        case rel => exact ⟨Lib.hid ⟨2, by first | rfl | go_num, by omega, by omega⟩, HN⟩
        case measure => simp [intOf]
      · obtain ⟨y0, y1, y2, y3, y4, y5, y6, y7, y8⟩ := st_ninev HR.out.1.box
        have HG : Hid (Calls Tryd.prog 18 #[.agg #[.int .i64 x.bl, .int .i64 x.no, .int .i64 x.st, .int .i64 x.ea, .int .i64 x.du, .int .i64 x.la, .int .i64 x.ti, .int .i64 x.lp, .int .i64 x.bu], .int .i64 2, .int .i64 d] wr fun e w' => e = .returned (.tuple #[(gradedV x 2 d).v, .int .i64 0]) ∧ Below wr.heap.size wr w') := Lib.hid (HGG.out 2 wr (by omega) (by omega) (HT.out.below HR.out.1.bel))
        have HK := Lib.hid (fun W => HCK.out 2 W (by omega) (by omega))
        have hdu := HR.out.2.2.1
        rw [gradedV_v] at HG HK
        generalize (gradedV x 2 d).st = S' at *
        generalize (gradedV x 2 d).ea = E' at *
        generalize (gradedV x 2 d).du = D' at *
        generalize (gradedV x 2 d).ti = T' at *
        generalize (gradedV x 2 d).lp = L' at *
        have hgc := World.block_lt_of_cell? wr _ hdu
        go_wp2_with fail
        refine HG.out.mono ?_
        rintro e3 w3 ⟨rfl, hb3⟩
        have HW3 := Lib.hid (HR.out.1.next hb3)
        have HD3 := Lib.hid (HR.out.2.next hb3)
        have hdu3 := keepC1 hdu hb3
        have hgc3 : gc < w3.heap.size := Nat.lt_of_lt_of_le hgc hb3.size
        clear hb3 hdu y0 y1 y2 y3 y4 y5 y6 y7 y8
        obtain ⟨W4, hW4⟩ : ∃ W4, W4 = w3.alloc (.cells #[.int .i64 x.bl, .int .i64 x.no, .int .i64 S', .int .i64 E', .int .i64 D', .int .i64 d, .int .i64 T', .int .i64 L', .int .i64 (-1)] 23) := ⟨_, rfl⟩
        have hx4 : W4.heap[w3.heap.size]? = some (.cells #[.int .i64 x.bl, .int .i64 x.no, .int .i64 S', .int .i64 E', .int .i64 D', .int .i64 d, .int .i64 T', .int .i64 L', .int .i64 (-1)] 23 (0, 0)) := by rw [hW4]; exact heap_alloc_new w3 _
        have HW4 : Hid (TcW w x W4) := Lib.hid (by rw [hW4]; exact HW3.out.alloc _)
        have HD4 : Hid (DuesAt x d gc W4) := Lib.hid (by rw [hW4]; exact HD3.out.next ((Below.refl _ _).alloc (Nat.le_refl _) _))
        have hdu4 : W4.cell? ⟨gc, 1, none⟩ = some (.int .i64 D') := by rw [hW4]; exact keepC1 hdu3 ((Below.refl _ _).alloc (Nat.le_refl _) _)
        have HWE := Lib.hid hW4
        clear hW4 hdu3
        obtain ⟨z0, z1, z2, z3, z4, z5, z6, z7, z8⟩ := st_nine hx4
        clear hx4
        have i1 : IntKind.i64.wrap (1 : Int) = 1 := by decide
        have i2 : (0 : Int) ≤ 1 := by decide
        have i3 : (1 : Int) < 4 := by decide
        go_upto_region 11 with fail
        rw [← HWE.out]
        go_region_held3 (fun W => W.cell? ⟨w3.heap.size, 0, none⟩ = some (.int .i64 x.bl) ∧ W.cell? ⟨w3.heap.size, 1, none⟩ = some (.int .i64 x.no) ∧ W.cell? ⟨w3.heap.size, 2, none⟩ = some (.int .i64 S') ∧ W.cell? ⟨w3.heap.size, 3, none⟩ = some (.int .i64 E') ∧ W.cell? ⟨w3.heap.size, 4, none⟩ = some (.int .i64 D') ∧ W.cell? ⟨w3.heap.size, 5, none⟩ = some (.int .i64 d) ∧ W.cell? ⟨w3.heap.size, 6, none⟩ = some (.int .i64 T') ∧ W.cell? ⟨w3.heap.size, 7, none⟩ = some (.int .i64 L') ∧ W.cell? ⟨w3.heap.size, 8, none⟩ = some (.int .i64 (-1)) ∧ W.cell? ⟨gc, 1, none⟩ = some (.int .i64 D'))
          (first | go_keep | (go_split_ands; refine ⟨?_, ?_, ?_, ?_, ?_, ?_, ?_, ?_, ?_, ?_⟩ <;> exact keepC1 (by assumption) hb6))
          (first | (go_at_call 14; refine (HK.out _).mono ?_; rintro e6 w6 ⟨rfl, hb6⟩))
        have HN : Hid (TcW w x w6 ∧ DuesAt x d gc w6) := Lib.hid ⟨HW4.out.next ((Below.refl _ W4).drew.trans hb6), HD4.out.next ((Below.refl _ W4).drew.trans hb6)⟩
        clear hb6
        go_wp2_with fail
        go_roundw
        case rel => exact ⟨Lib.hid ⟨3, by first | rfl | go_num, by omega, by omega⟩, HN⟩
        case measure => simp [intOf]
      · obtain ⟨y0, y1, y2, y3, y4, y5, y6, y7, y8⟩ := st_ninev HR.out.1.box
        have HG : Hid (Calls Tryd.prog 18 #[.agg #[.int .i64 x.bl, .int .i64 x.no, .int .i64 x.st, .int .i64 x.ea, .int .i64 x.du, .int .i64 x.la, .int .i64 x.ti, .int .i64 x.lp, .int .i64 x.bu], .int .i64 3, .int .i64 d] wr fun e w' => e = .returned (.tuple #[(gradedV x 3 d).v, .int .i64 0]) ∧ Below wr.heap.size wr w') := Lib.hid (HGG.out 3 wr (by omega) (by omega) (HT.out.below HR.out.1.bel))
        have HK := Lib.hid (fun W => HCK.out 3 W (by omega) (by omega))
        have hdu := HR.out.2.2.2.1
        rw [gradedV_v] at HG HK
        generalize (gradedV x 3 d).st = S' at *
        generalize (gradedV x 3 d).ea = E' at *
        generalize (gradedV x 3 d).du = D' at *
        generalize (gradedV x 3 d).ti = T' at *
        generalize (gradedV x 3 d).lp = L' at *
        have hgc := World.block_lt_of_cell? wr _ hdu
        go_wp2_with fail
        refine HG.out.mono ?_
        rintro e3 w3 ⟨rfl, hb3⟩
        have HW3 := Lib.hid (HR.out.1.next hb3)
        have HD3 := Lib.hid (HR.out.2.next hb3)
        have hdu3 := keepC1 hdu hb3
        have hgc3 : gc < w3.heap.size := Nat.lt_of_lt_of_le hgc hb3.size
        clear hb3 hdu y0 y1 y2 y3 y4 y5 y6 y7 y8
        obtain ⟨W4, hW4⟩ : ∃ W4, W4 = w3.alloc (.cells #[.int .i64 x.bl, .int .i64 x.no, .int .i64 S', .int .i64 E', .int .i64 D', .int .i64 d, .int .i64 T', .int .i64 L', .int .i64 (-1)] 23) := ⟨_, rfl⟩
        have hx4 : W4.heap[w3.heap.size]? = some (.cells #[.int .i64 x.bl, .int .i64 x.no, .int .i64 S', .int .i64 E', .int .i64 D', .int .i64 d, .int .i64 T', .int .i64 L', .int .i64 (-1)] 23 (0, 0)) := by rw [hW4]; exact heap_alloc_new w3 _
        have HW4 : Hid (TcW w x W4) := Lib.hid (by rw [hW4]; exact HW3.out.alloc _)
        have HD4 : Hid (DuesAt x d gc W4) := Lib.hid (by rw [hW4]; exact HD3.out.next ((Below.refl _ _).alloc (Nat.le_refl _) _))
        have hdu4 : W4.cell? ⟨gc, 2, none⟩ = some (.int .i64 D') := by rw [hW4]; exact keepC1 hdu3 ((Below.refl _ _).alloc (Nat.le_refl _) _)
        have HWE := Lib.hid hW4
        clear hW4 hdu3
        obtain ⟨z0, z1, z2, z3, z4, z5, z6, z7, z8⟩ := st_nine hx4
        clear hx4
        have i1 : IntKind.i64.wrap (2 : Int) = 2 := by decide
        have i2 : (0 : Int) ≤ 2 := by decide
        have i3 : (2 : Int) < 4 := by decide
        go_upto_region 11 with fail
        rw [← HWE.out]
        go_region_held3 (fun W => W.cell? ⟨w3.heap.size, 0, none⟩ = some (.int .i64 x.bl) ∧ W.cell? ⟨w3.heap.size, 1, none⟩ = some (.int .i64 x.no) ∧ W.cell? ⟨w3.heap.size, 2, none⟩ = some (.int .i64 S') ∧ W.cell? ⟨w3.heap.size, 3, none⟩ = some (.int .i64 E') ∧ W.cell? ⟨w3.heap.size, 4, none⟩ = some (.int .i64 D') ∧ W.cell? ⟨w3.heap.size, 5, none⟩ = some (.int .i64 d) ∧ W.cell? ⟨w3.heap.size, 6, none⟩ = some (.int .i64 T') ∧ W.cell? ⟨w3.heap.size, 7, none⟩ = some (.int .i64 L') ∧ W.cell? ⟨w3.heap.size, 8, none⟩ = some (.int .i64 (-1)) ∧ W.cell? ⟨gc, 2, none⟩ = some (.int .i64 D'))
          (first | go_keep | (go_split_ands; refine ⟨?_, ?_, ?_, ?_, ?_, ?_, ?_, ?_, ?_, ?_⟩ <;> exact keepC1 (by assumption) hb6))
          (first | (go_at_call 14; refine (HK.out _).mono ?_; rintro e6 w6 ⟨rfl, hb6⟩))
        have HN : Hid (TcW w x w6 ∧ DuesAt x d gc w6) := Lib.hid ⟨HW4.out.next ((Below.refl _ W4).drew.trans hb6), HD4.out.next ((Below.refl _ W4).drew.trans hb6)⟩
        clear hb6
        go_wp2_with fail
        go_roundw
        case rel => exact ⟨Lib.hid ⟨4, by first | rfl | go_num, by omega, by omega⟩, HN⟩
        case measure => simp [intOf]
      · obtain ⟨y0, y1, y2, y3, y4, y5, y6, y7, y8⟩ := st_ninev HR.out.1.box
        have HG : Hid (Calls Tryd.prog 18 #[.agg #[.int .i64 x.bl, .int .i64 x.no, .int .i64 x.st, .int .i64 x.ea, .int .i64 x.du, .int .i64 x.la, .int .i64 x.ti, .int .i64 x.lp, .int .i64 x.bu], .int .i64 4, .int .i64 d] wr fun e w' => e = .returned (.tuple #[(gradedV x 4 d).v, .int .i64 0]) ∧ Below wr.heap.size wr w') := Lib.hid (HGG.out 4 wr (by omega) (by omega) (HT.out.below HR.out.1.bel))
        have HK := Lib.hid (fun W => HCK.out 4 W (by omega) (by omega))
        have hdu := HR.out.2.2.2.2
        rw [gradedV_v] at HG HK
        generalize (gradedV x 4 d).st = S' at *
        generalize (gradedV x 4 d).ea = E' at *
        generalize (gradedV x 4 d).du = D' at *
        generalize (gradedV x 4 d).ti = T' at *
        generalize (gradedV x 4 d).lp = L' at *
        have hgc := World.block_lt_of_cell? wr _ hdu
        go_wp2_with fail
        refine HG.out.mono ?_
        rintro e3 w3 ⟨rfl, hb3⟩
        have HW3 := Lib.hid (HR.out.1.next hb3)
        have HD3 := Lib.hid (HR.out.2.next hb3)
        have hdu3 := keepC1 hdu hb3
        have hgc3 : gc < w3.heap.size := Nat.lt_of_lt_of_le hgc hb3.size
        clear hb3 hdu y0 y1 y2 y3 y4 y5 y6 y7 y8
        obtain ⟨W4, hW4⟩ : ∃ W4, W4 = w3.alloc (.cells #[.int .i64 x.bl, .int .i64 x.no, .int .i64 S', .int .i64 E', .int .i64 D', .int .i64 d, .int .i64 T', .int .i64 L', .int .i64 (-1)] 23) := ⟨_, rfl⟩
        have hx4 : W4.heap[w3.heap.size]? = some (.cells #[.int .i64 x.bl, .int .i64 x.no, .int .i64 S', .int .i64 E', .int .i64 D', .int .i64 d, .int .i64 T', .int .i64 L', .int .i64 (-1)] 23 (0, 0)) := by rw [hW4]; exact heap_alloc_new w3 _
        have HW4 : Hid (TcW w x W4) := Lib.hid (by rw [hW4]; exact HW3.out.alloc _)
        have HD4 : Hid (DuesAt x d gc W4) := Lib.hid (by rw [hW4]; exact HD3.out.next ((Below.refl _ _).alloc (Nat.le_refl _) _))
        have hdu4 : W4.cell? ⟨gc, 3, none⟩ = some (.int .i64 D') := by rw [hW4]; exact keepC1 hdu3 ((Below.refl _ _).alloc (Nat.le_refl _) _)
        have HWE := Lib.hid hW4
        clear hW4 hdu3
        obtain ⟨z0, z1, z2, z3, z4, z5, z6, z7, z8⟩ := st_nine hx4
        clear hx4
        have i1 : IntKind.i64.wrap (3 : Int) = 3 := by decide
        have i2 : (0 : Int) ≤ 3 := by decide
        have i3 : (3 : Int) < 4 := by decide
        go_upto_region 11 with fail
        rw [← HWE.out]
        go_region_held3 (fun W => W.cell? ⟨w3.heap.size, 0, none⟩ = some (.int .i64 x.bl) ∧ W.cell? ⟨w3.heap.size, 1, none⟩ = some (.int .i64 x.no) ∧ W.cell? ⟨w3.heap.size, 2, none⟩ = some (.int .i64 S') ∧ W.cell? ⟨w3.heap.size, 3, none⟩ = some (.int .i64 E') ∧ W.cell? ⟨w3.heap.size, 4, none⟩ = some (.int .i64 D') ∧ W.cell? ⟨w3.heap.size, 5, none⟩ = some (.int .i64 d) ∧ W.cell? ⟨w3.heap.size, 6, none⟩ = some (.int .i64 T') ∧ W.cell? ⟨w3.heap.size, 7, none⟩ = some (.int .i64 L') ∧ W.cell? ⟨w3.heap.size, 8, none⟩ = some (.int .i64 (-1)) ∧ W.cell? ⟨gc, 3, none⟩ = some (.int .i64 D'))
          (first | go_keep | (go_split_ands; refine ⟨?_, ?_, ?_, ?_, ?_, ?_, ?_, ?_, ?_, ?_⟩ <;> exact keepC1 (by assumption) hb6))
          (first | (go_at_call 14; refine (HK.out _).mono ?_; rintro e6 w6 ⟨rfl, hb6⟩))
        have HN : Hid (TcW w x w6 ∧ DuesAt x d gc w6) := Lib.hid ⟨HW4.out.next ((Below.refl _ W4).drew.trans hb6), HD4.out.next ((Below.refl _ W4).drew.trans hb6)⟩
        clear hb6
        go_wp2_with fail
        go_roundw
        case rel => exact ⟨Lib.hid ⟨5, by first | rfl | go_num, by omega, by omega⟩, HN⟩
        case measure => simp [intOf]
      · have HF := Lib.hid HR.out.1
        go_wp2_with fail
        go_meet
        exact HF
  case rest =>
    have HW5 := hcut
    rename World => w5
    clear HO2 HW2 HW1
    have HNW := Lib.hid (fun W => new_any x.bl x.no W)
    have hnv : newV x.bl x.no = if stE (StV.fresh x.bl x.no) = 0 then StV.fresh x.bl x.no else StV.zero := rfl
    obtain ⟨V, hV⟩ : ∃ V, V = newV x.bl x.no := ⟨_, rfl⟩
    obtain ⟨EN, hEN⟩ : ∃ EN, EN = stE (StV.fresh x.bl x.no) := ⟨_, rfl⟩
    rw [← hV, ← hEN] at hnv HNW
    have hvv : V.v = .agg #[.int .i64 V.bl, .int .i64 V.no, .int .i64 V.st, .int .i64 V.ea, .int .i64 V.du, .int .i64 V.la, .int .i64 V.ti, .int .i64 V.lp, .int .i64 V.bu] := rfl
    rw [hvv] at HNW
    have HNV := Lib.hid hnv
    have HEN := Lib.hid hEN
    clear hnv hV hvv hEN
    obtain ⟨y0, y1, y2, y3, y4, y5, y6, y7, y8⟩ := st_ninev HW5.out.box
    go_wp2_with fail
    refine (HNW.out _).mono ?_
    rintro e6 w6 ⟨rfl, hb6⟩
    have HW6 := Lib.hid (HW5.out.next hb6)
    have HW6b := Lib.hid (HW6.out.alloc (.cells #[.int .i64 V.bl, .int .i64 V.no, .int .i64 V.st, .int .i64 V.ea, .int .i64 V.du, .int .i64 V.la, .int .i64 V.ti, .int .i64 V.lp, .int .i64 V.bu] 23))
    clear hb6 y0 y1 y2 y3 y4 y5 y6 y7 y8
    by_cases hE : EN = 0
    case neg =>
      have hE' : (EN != 0) = true := bne_iff_ne.2 hE
      clear hE
      go_wp2_with fail
      go_ret
      exact ⟨rfl, HW6b.out.bel⟩
    case pos =>
      subst hE
      by_cases hbig : 20000 < N
      case pos =>
        have p1 : (20000 : Int) < N := by omega
        clear hbig
        go_wp2_with fail
        go_ret
        exact ⟨rfl, HW6b.out.bel⟩
      case neg =>
        have p1 : ¬ (20000 : Int) < N := by omega
        have hNs : N ≤ 20000 := by omega
        have HCL := Lib.hid (fun W (hW : Below w.heap.size w W) => clone_any l A c x.bl x.no W (by have := HNL.out; omega) (HL.out.up hW))
        rw [← HNL.out] at HCL
        have HV6 := Lib.hid (heap_alloc_new w6 (.cells #[.int .i64 V.bl, .int .i64 V.no, .int .i64 V.st, .int .i64 V.ea, .int .i64 V.du, .int .i64 V.la, .int .i64 V.ti, .int .i64 V.lp, .int .i64 V.bu] 23))
        go_wp2_with fail
        refine (HCL.out _ HW6b.out.bel).mono ?_
        rintro e7 w7 he7
        obtain ⟨A2, c2, rfl, hr7⟩ := rvs_form he7
        rw [← HNL.out]
        obtain ⟨W6, hW6⟩ : ∃ W6, W6 = w6.alloc (.cells #[.int .i64 V.bl, .int .i64 V.no, .int .i64 V.st, .int .i64 V.ea, .int .i64 V.du, .int .i64 V.la, .int .i64 V.ti, .int .i64 V.lp, .int .i64 V.bu] 23) := ⟨_, rfl⟩
        rw [← hW6] at hr7 HW6b HV6
        have hw6 : w6.heap.size < W6.heap.size := by rw [hW6]; simp
        have hw0 : w.heap.size < w6.heap.size := lt_of_block HW6.out.box
        have HR7 := Lib.hid hr7
        clear he7 hr7 hW6 HCL HW6 HNW
        go_wp2_with fail
        go_loopw [88] (fun i wr => ∃ k : Nat, i = .int .i64 k ∧ k ≤ N ∧ Hid (TcR W6 A2 x.bl x.no l k wr)) (fun i _ => N - (intOf i).toNat)
        case atStart => exact ⟨0, rfl, Nat.zero_le _, HR7⟩
        case round =>
          clear HR7
          obtain ⟨k, rfl, hk, HR⟩ := hrel
          have HWR := Lib.hid (HW6b.out.next HR.out.bel)
          have hszr := HR.out.bel.size
          by_cases hlt : k < N
          case pos =>
            have p2 : (k : Int) < N := by omega
            have hkl : k < l.length := by rw [← HNL.out]; exact hlt
            obtain ⟨g, rfl, hown⟩ : ∃ g, A2 = some ⟨g, 0, none⟩ ∧ RvOwn W6 W6.heap.size g x.bl x.no l k wr := by
              rcases HR.out.row with h | h
              · rw [h] at hkl; simp at hkl
              · exact h
            obtain ⟨k0, k1, -, -⟩ := hown.cell k hkl
            have f0 := hown.warm (k * 4)
            have f1 := hown.warm (k * 4 + 1)
            have hglo := hown.lo
            have hgx : g ≠ w.heap.size := by omega
            have HN : Hid (TcR W6 (some ⟨g, 0, none⟩) x.bl x.no l (k + 1) ((wr.setCell ⟨g, k * 4, none⟩ (.int .i64 x.bl)).setCell ⟨g, k * 4 + 1, none⟩ (.int .i64 x.no)).drew) := Lib.hid ⟨((hown.step hglo hkl).drew).bel, .inr ⟨g, rfl, (hown.step hglo hkl).drew⟩⟩
            obtain ⟨y0, y1, -, -, -, -, -, -, -⟩ := st_ninev HWR.out.box
            clear hown
            go_wp2_with fail
            go_region
            go_wp2_with fail
            go_roundw
            case rel => exact ⟨k + 1, by go_num, by omega, HN⟩
            case measure => simp [intOf]; omega
          case neg =>
            have p2 : ¬ (k : Int) < N := by omega
            obtain rfl : k = N := by omega
            have HRV := Lib.hid (show RvVsAt wr wr.heap.size A2 (markL x.bl x.no l) from TcR.done (W := W6) (by rw [← HNL.out]; exact HR.out))
            have HML := Lib.hid (markL_len x.bl x.no l)
            have HAP : Hid (markL x.bl x.no l = [] ∨ ∃ g, A2 = some ⟨g, 0, none⟩ ∧ w6.heap.size < g) := Lib.hid (by
              rcases HR.out.row with h | ⟨g, h1, h2⟩
              · exact .inl (by rw [h]; rfl)
              · exact .inr ⟨g, h1, by have := h2.lo; omega⟩)
            have HMA := Lib.hid (mark_at x.bl x.no l)
            have HVR : Hid (wr.heap[w6.heap.size]? = some (.cells #[.int .i64 V.bl, .int .i64 V.no, .int .i64 V.st, .int .i64 V.ea, .int .i64 V.du, .int .i64 V.la, .int .i64 V.ti, .int .i64 V.lp, .int .i64 V.bu] 23 (0, 0))) := Lib.hid ((HR.out.bel.block _ hw6).trans HV6.out)
            have hVF : V = StV.fresh x.bl x.no := by rw [HNV.out]; simp
            have hrep : replayV x.bl x.no (markL x.bl x.no l) = rep x.bl x.no 0 V (markL x.bl x.no l) := by
              unfold replayV
              rw [if_neg (by rw [← HEN.out]; simp), if_neg (by rw [HML.out, ← HNL.out]; omega), hVF]
            have HRP := Lib.hid (replay_any x.bl x.no (markL x.bl x.no l) A2 c2 wr (HT.out.below HWR.out.bel) HRV.out)
            rw [HML.out, ← HNL.out] at HRP
            generalize markL x.bl x.no l = l2 at *
            have HREND := Lib.hid (fun y => rep_end x.bl x.no y l2)
            have HRAT := Lib.hid (fun y k h => rep_at x.bl x.no y l2 k h)
            obtain ⟨ZV, IV, EV, hRR⟩ : ∃ ZV IV EV, replayV x.bl x.no l2 = (ZV, IV, EV) := ⟨_, _, _, rfl⟩
            rw [hRR] at HRP hrep
            dsimp only at HRP
            have hzv : ZV.v = .agg #[.int .i64 ZV.bl, .int .i64 ZV.no, .int .i64 ZV.st, .int .i64 ZV.ea, .int .i64 ZV.du, .int .i64 ZV.la, .int .i64 ZV.ti, .int .i64 ZV.lp, .int .i64 ZV.bu] := rfl
            rw [hzv] at HRP
            have HREP := Lib.hid hrep.symm
            clear hRR hzv hrep hVF
            have HML2 : Hid (l2.length = k) := Lib.hid (by rw [HML.out]; exact HNL.out.symm)
            obtain ⟨y0, y1, y2, y3, y4, y5, y6, y7, y8⟩ := st_ninev HWR.out.box
            go_wp2_with fail
            refine HRP.out.mono ?_
            rintro e8 w8 ⟨rfl, hb8⟩
            have HW8 := Lib.hid (HWR.out.next hb8)
            have HV8 := Lib.hid ((hb8.block _ (lt_of_block HVR.out)).trans HVR.out)
            have HRV8 := Lib.hid (HRV.out.up hb8)
            have hl8 : w6.heap.size < w8.heap.size := lt_of_block HV8.out
            obtain ⟨W9, hW9⟩ : ∃ W9, W9 = w8.alloc (.cells #[.int .i64 ZV.bl, .int .i64 ZV.no, .int .i64 ZV.st, .int .i64 ZV.ea, .int .i64 ZV.du, .int .i64 ZV.la, .int .i64 ZV.ti, .int .i64 ZV.lp, .int .i64 ZV.bu] 23) := ⟨_, rfl⟩
            have HS : Hid (Tc3 w x w6.heap.size w8.heap.size A2 x.bl x.no l2 (ZV, IV, EV) 0 V W9) := Lib.hid (by
              rw [hW9]
              exact ⟨HW8.out.alloc _, (Below.heap_alloc _ _ _ hl8).trans HV8.out, heap_alloc_new w8 _, HRV8.out.up ((Below.refl _ _).alloc (Nat.le_refl _) _), by rw [List.drop_zero]; exact HREP.out, HAP.out⟩)
            have HWE := Lib.hid hW9
            clear hW9 hb8 y0 y1 y2 y3 y4 y5 y6 y7 y8 HR HWR HRV HRP HV8 HRV8 HW8 HVR HV6 HW6b HREP
            go_wp2_with fail
            rw [← HWE.out]
            go_loopw [116] (fun i wr => ∃ (j : Nat) (y : StV), i = .int .i64 j ∧ j ≤ k ∧ Hid (Tc3 w x w6.heap.size w8.heap.size A2 x.bl x.no l2 (ZV, IV, EV) j y wr)) (fun i _ => k - (intOf i).toNat)
            case atStart => exact ⟨0, V, rfl, Nat.zero_le _, HS⟩
            case round =>
              clear HS HWE
              obtain ⟨j, y, rfl, hj, HR⟩ := hrel
              rename World => wq
              have hltY := lt_of_block HR.out.ybox
              have hltZ := lt_of_block HR.out.zbox
              by_cases hlt : j < k
              case neg =>
                have p2 : ¬ (j : Int) < k := by omega
                obtain rfl : j = k := by omega
                have hv := HR.out.val
                have he := HREND.out y
                rw [HML2.out] at he
                rw [he] at hv
                simp only [Prod.mk.injEq] at hv
                obtain ⟨rfl, rfl, rfl⟩ := hv
                obtain ⟨y0, y1, y2, y3, y4, y5, y6, y7, y8⟩ := st_ninev HR.out.ybox
                obtain ⟨z0, z1, z2, z3, z4, z5, z6, z7, z8⟩ := st_ninev HR.out.zbox
                have HB := Lib.hid HR.out.tc.bel
                clear he
                go_wp2_with fail
                go_ret
                exact ⟨ret_boolR (by simp), HB.out⟩
              case pos =>
                have p2 : (j : Int) < k := by omega
                have hjl : j < l2.length := by rw [HML2.out]; exact hlt
                obtain ⟨b1, o1, hA2, hbl, c0, c1, c2', c3⟩ := HR.out.revs.at_ (Below.refl _ _) hjl
                have hat := HRAT.out y j hjl
                have hmk := HMA.out j hjl
                rw [HR.out.val, if_pos hmk] at hat
                obtain ⟨rb, rn, rg, rd, hrb, hrn, hrg, hrd⟩ : ∃ rb rn rg rd, l2[j].bl = rb ∧ l2[j].no = rn ∧ l2[j].gr = rg ∧ l2[j].dy = rd := ⟨_, _, _, _, rfl, rfl, rfl, rfl⟩
                rw [hrg, hrd] at hat
                rw [hrb] at c0
                rw [hrn] at c1
                rw [hrg] at c2'
                rw [hrd] at c3
                have HG := Lib.hid (fun W hW => grade_any y rg rd W hW)
                obtain ⟨Y, hY⟩ : ∃ Y, Y = gradeV y rg rd := ⟨_, rfl⟩
                obtain ⟨E, hE⟩ : ∃ E, E = gradeE y rg rd := ⟨_, rfl⟩
                have HY : Hid (E = 0 → Y = gradedV y rg rd) := Lib.hid (fun h => by rw [hY, gradeV_good (by rw [← hE]; exact h)])
                rw [← hY, ← hE] at HG
                rw [← hE] at hat
                have HAT := Lib.hid hat
                have hyv : Y.v = .agg #[.int .i64 Y.bl, .int .i64 Y.no, .int .i64 Y.st, .int .i64 Y.ea, .int .i64 Y.du, .int .i64 Y.la, .int .i64 Y.ti, .int .i64 Y.lp, .int .i64 Y.bu] := rfl
                have hxv2 : y.v = .agg #[.int .i64 y.bl, .int .i64 y.no, .int .i64 y.st, .int .i64 y.ea, .int .i64 y.du, .int .i64 y.la, .int .i64 y.ti, .int .i64 y.lp, .int .i64 y.bu] := rfl
                rw [hyv, hxv2] at HG
                subst hA2
                clear hrb hrn hrg hrd hmk hat hY hE hyv hxv2
                obtain ⟨W2, hW2⟩ : ∃ W2, W2 = wq.alloc (.cells #[.int .i64 rb, .int .i64 rn, .int .i64 rg, .int .i64 rd] 53) := ⟨_, rfl⟩
                have HWE2 := Lib.hid hW2
                have HT2 : Hid (TcW w x W2) := Lib.hid (by rw [hW2]; exact HR.out.tc.alloc _)
                have HX2 : Hid (W2.heap[w6.heap.size]? = some (.cells y.cells 23 (0, 0))) := Lib.hid (by rw [hW2]; exact (Below.heap_alloc _ _ _ hltY).trans HR.out.ybox)
                have HZ2 : Hid (W2.heap[w8.heap.size]? = some (.cells ZV.cells 23 (0, 0))) := Lib.hid (by rw [hW2]; exact (Below.heap_alloc _ _ _ hltZ).trans HR.out.zbox)
                have HV2 : Hid (W2.heap[wq.heap.size]? = some (.cells #[.int .i64 rb, .int .i64 rn, .int .i64 rg, .int .i64 rd] 53 (0, 0))) := Lib.hid (by rw [hW2]; exact heap_alloc_new wq _)
                have HRV2 : Hid (RvVsAt W2 W2.heap.size (some ⟨b1, o1, none⟩) l2) := Lib.hid (by rw [hW2]; exact HR.out.revs.up ((Below.refl _ _).alloc (Nat.le_refl _) _))
                clear hW2
                go_upto_region 29 with fail
                rw [← HWE2.out]
                clear c0 c1 c2' c3
                obtain ⟨z0, z1, z2, z3⟩ := rv_four HV2.out
                obtain ⟨y0, y1, y2, y3, y4, y5, y6, y7, y8⟩ := st_ninev HX2.out
                go_wp2_with fail
                refine (HG.out _ (HT.out.below HT2.out.bel)).mono ?_
                rintro e3 w3 ⟨rfl, hb3⟩
                have HT3 := Lib.hid (HT2.out.next hb3)
                have HX3 := Lib.hid ((hb3.block _ (lt_of_block HX2.out)).trans HX2.out)
                have HZ3 := Lib.hid ((hb3.block _ (lt_of_block HZ2.out)).trans HZ2.out)
                have HRV3 := Lib.hid (HRV2.out.up hb3)
                clear hb3 y0 y1 y2 y3 y4 y5 y6 y7 y8 z0 z1 z2 z3
                obtain ⟨y0, y1, y2, y3, y4, y5, y6, y7, y8⟩ := st_ninev HX3.out
                obtain ⟨f0, f1, f2, f3, f4, f5, f6, f7, f8⟩ := st_nofrost HX3.out
                go_upto_region 30 with fail
                obtain ⟨W7, hW7⟩ : ∃ W7, W7 = putSt w3 w6.heap.size Y := ⟨_, rfl⟩
                have HT7 : Hid (TcW w x W7) := Lib.hid (by rw [hW7]; exact ⟨putSt_below HT3.out.bel _ _ (by omega), by rw [putSt_other _ _ _ _ (by omega)]; exact HT3.out.box⟩)
                have HX7 : Hid (W7.heap[w6.heap.size]? = some (.cells Y.cells 23 (0, 0))) := Lib.hid (by rw [hW7]; exact putSt_row HX3.out Y)
                have HZ7 : Hid (W7.heap[w8.heap.size]? = some (.cells ZV.cells 23 (0, 0))) := Lib.hid (by rw [hW7, putSt_other _ _ _ _ (by omega)]; exact HZ3.out)
                have HRV7 : Hid (RvVsAt W7 W7.heap.size (some ⟨b1, o1, none⟩) l2) := Lib.hid (by rw [hW7]; exact HRV3.out.put HR.out.apart Y)
                unfold putSt at hW7
                rw [← hW7]
                clear hW7 y0 y1 y2 y3 y4 y5 y6 y7 y8 f0 f1 f2 f3 f4 f5 f6 f7 f8
                by_cases hE : E = 0
                case neg =>
                  have hE' : (E != 0) = true := bne_iff_ne.2 hE
                  have hf := HAT.out
                  rw [if_neg hE] at hf
                  simp only [Prod.mk.injEq] at hf
                  obtain ⟨rfl, rfl, rfl⟩ := hf
                  clear hE
                  go_wp2_with fail
                  go_ret
                  exact ⟨ret_boolR (by simp), HT7.out.bel⟩
                case pos =>
                  have HN7 : Hid (Tc3 w x w6.heap.size w8.heap.size (some ⟨b1, o1, none⟩) x.bl x.no l2 (ZV, IV, EV) (j + 1) Y W7) := Lib.hid ⟨HT7.out, HX7.out, HZ7.out, HRV7.out, by rw [HAT.out, if_pos hE, HY.out hE], HR.out.apart⟩
                  subst hE
                  go_wp2_with fail
                  go_roundw
                  case rel => exact ⟨j + 1, Y, by go_num, by omega, HN7⟩
                  case measure => simp [intOf]; omega
end Go.Proofs.YtnellkdiafglgaaDoor
