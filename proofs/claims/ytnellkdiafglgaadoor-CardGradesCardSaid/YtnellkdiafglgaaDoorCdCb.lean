/- Cards: CheckStates, StatesFault. -/
import Derived.Test.YtnellkdiafglgaaDoorCdCa
import Derived.Test.YtnellkdiafglgaaDoorCdR
import Derived.IntWalk
namespace Go.Proofs.YtnellkdiafglgaaDoor
open Go.RowKit Go.Shelf Go.Joins

def StVsAt (w : World) (B : Nat) (A : Option Addr) (l : List StV) : Prop :=
  ∀ k x, l[k]? = some x → ∃ b off, A = some ⟨b, off, none⟩ ∧ b < B ∧ w.cell? ⟨b, off + k * 9, none⟩ = some (.int .i64 x.bl) ∧ w.cell? ⟨b, off + k * 9 + 1, none⟩ = some (.int .i64 x.no) ∧ w.cell? ⟨b, off + k * 9 + 2, none⟩ = some (.int .i64 x.st) ∧ w.cell? ⟨b, off + k * 9 + 3, none⟩ = some (.int .i64 x.ea) ∧ w.cell? ⟨b, off + k * 9 + 4, none⟩ = some (.int .i64 x.du) ∧ w.cell? ⟨b, off + k * 9 + 5, none⟩ = some (.int .i64 x.la) ∧ w.cell? ⟨b, off + k * 9 + 6, none⟩ = some (.int .i64 x.ti) ∧ w.cell? ⟨b, off + k * 9 + 7, none⟩ = some (.int .i64 x.lp) ∧ w.cell? ⟨b, off + k * 9 + 8, none⟩ = some (.int .i64 x.bu)
theorem StVsAt.at_ {w wr : World} {A : Option Addr} {l : List StV} {k : Nat} (h : StVsAt w w.heap.size A l) (hb : Below w.heap.size w wr) (hk : k < l.length) :
    ∃ b off, A = some ⟨b, off, none⟩ ∧ b < w.heap.size ∧ wr.cell? ⟨b, off + k * 9, none⟩ = some (.int .i64 l[k].bl) ∧ wr.cell? ⟨b, off + k * 9 + 1, none⟩ = some (.int .i64 l[k].no) ∧ wr.cell? ⟨b, off + k * 9 + 2, none⟩ = some (.int .i64 l[k].st) ∧ wr.cell? ⟨b, off + k * 9 + 3, none⟩ = some (.int .i64 l[k].ea) ∧ wr.cell? ⟨b, off + k * 9 + 4, none⟩ = some (.int .i64 l[k].du) ∧ wr.cell? ⟨b, off + k * 9 + 5, none⟩ = some (.int .i64 l[k].la) ∧ wr.cell? ⟨b, off + k * 9 + 6, none⟩ = some (.int .i64 l[k].ti) ∧ wr.cell? ⟨b, off + k * 9 + 7, none⟩ = some (.int .i64 l[k].lp) ∧ wr.cell? ⟨b, off + k * 9 + 8, none⟩ = some (.int .i64 l[k].bu) := by
  obtain ⟨b, off, hA, hB, c0, c1, c2, c3, c4, c5, c6, c7, c8⟩ := h k _ (List.getElem?_eq_getElem hk)
  exact ⟨b, off, hA, hB, (hb.cell (p := ⟨b, _, none⟩) hB).trans c0, (hb.cell (p := ⟨b, _, none⟩) hB).trans c1, (hb.cell (p := ⟨b, _, none⟩) hB).trans c2, (hb.cell (p := ⟨b, _, none⟩) hB).trans c3, (hb.cell (p := ⟨b, _, none⟩) hB).trans c4, (hb.cell (p := ⟨b, _, none⟩) hB).trans c5, (hb.cell (p := ⟨b, _, none⟩) hB).trans c6, (hb.cell (p := ⟨b, _, none⟩) hB).trans c7, (hb.cell (p := ⟨b, _, none⟩) hB).trans c8⟩
theorem StVsAt.up {w w' : World} {A : Option Addr} {l : List StV} (h : StVsAt w w.heap.size A l) (hb : Below w.heap.size w w') : StVsAt w' w'.heap.size A l := fun k x hk => by
  obtain ⟨b, off, hA, hB, c0, c1, c2, c3, c4, c5, c6, c7, c8⟩ := h k x hk
  exact ⟨b, off, hA, Nat.lt_of_lt_of_le hB hb.size, (hb.cell (p := ⟨b, _, none⟩) hB).trans c0, (hb.cell (p := ⟨b, _, none⟩) hB).trans c1, (hb.cell (p := ⟨b, _, none⟩) hB).trans c2, (hb.cell (p := ⟨b, _, none⟩) hB).trans c3, (hb.cell (p := ⟨b, _, none⟩) hB).trans c4, (hb.cell (p := ⟨b, _, none⟩) hB).trans c5, (hb.cell (p := ⟨b, _, none⟩) hB).trans c6, (hb.cell (p := ⟨b, _, none⟩) hB).trans c7, (hb.cell (p := ⟨b, _, none⟩) hB).trans c8⟩
def lateS (x y : StV) : Prop := 0 ≤ cmp2 x.bl x.no y.bl y.no
instance (x y : StV) : Decidable (lateS x y) := by unfold lateS; infer_instance
def ssE : Option StV → List StV → Int
  | _, [] => 0
  | none, x :: l => if stE x ≠ 0 then stE x else ssE (some x) l
  | some y, x :: l => if stE x ≠ 0 then stE x else if lateS y x then 5 else ssE (some x) l
def prevS (l : List StV) (j : Nat) : Option StV := if j = 0 then none else l[j - 1]?
def ssAt (l : List StV) (j : Nat) : Int := ssE (prevS l j) (l.drop j)
/-- What CheckStates says. -/
def statesE (l : List StV) : Int := if 5000 < l.length then 4 else ssAt l 0
theorem ssAt_end (l : List StV) : ssAt l l.length = 0 := by
  unfold ssAt
  rw [List.drop_eq_nil_of_le (Nat.le_refl _)]
  cases prevS l l.length <;> rfl
theorem ssAt_zero (l : List StV) (h : 0 < l.length) : ssAt l 0 = if stE l[0] ≠ 0 then stE l[0] else ssAt l 1 := by
  unfold ssAt
  rw [List.drop_eq_getElem_cons h]
  have e : prevS l (0 + 1) = some l[0] := by unfold prevS; rw [if_neg (by omega), Nat.add_sub_cancel, List.getElem?_eq_getElem h]
  rw [e]
  rfl
theorem ssAt_succ (l : List StV) (j : Nat) (h : j + 1 < l.length) : ssAt l (j + 1) = if stE l[j + 1] ≠ 0 then stE l[j + 1] else if lateS l[j] l[j + 1] then 5 else ssAt l (j + 2) := by
  unfold ssAt
  rw [List.drop_eq_getElem_cons h]
  have e : prevS l (j + 1 + 1) = some l[j + 1] := by unfold prevS; rw [if_neg (by omega), Nat.add_sub_cancel, List.getElem?_eq_getElem h]
  have e2 : prevS l (j + 1) = some l[j] := by unfold prevS; rw [if_neg (by omega), Nat.add_sub_cancel, List.getElem?_eq_getElem (by omega)]
  rw [e, e2]
  rfl
theorem keepC1 {W w' : World} {a : Addr} {v : Value} (h : W.cell? a = some v) (hb : Below W.heap.size W w') : w'.cell? a = some v := (hb.cell (p := a) (World.block_lt_of_cell? W _ h)).trans h
set_option maxRecDepth 100000 in
set_option maxHeartbeats 8000000 in
theorem checkStates_any (l : List StV) (A : Option Addr) (c : Nat) (w : World) (hl : StVsAt w w.heap.size A l) :
    Calls Tryd.prog 70 #[.slice A l.length c] w fun e w' => e = .returned (.int .i64 (statesE l)) ∧ Below w.heap.size w w' := by
  have HL := Lib.hid hl
  obtain ⟨R, hR⟩ : ∃ R, R = statesE l := ⟨_, rfl⟩
  rw [← hR]
  have HR : Hid (R = if 5000 < l.length then 4 else ssAt l 0) := Lib.hid hR
  have HEND := Lib.hid (ssAt_end l)
  have HZ := Lib.hid (ssAt_zero l)
  have HS := Lib.hid (ssAt_succ l)
  obtain ⟨N, hN⟩ : ∃ N, N = l.length := ⟨_, rfl⟩
  rw [← hN] at HR HEND ⊢
  have HNL := Lib.hid hN
  clear hR hN hl
  by_cases hbig : 5000 < N
  case pos =>
    have p1 : (5000 : Int) < N := by omega
    have HF : Hid (R = 4) := Lib.hid (by rw [HR.out, if_pos hbig])
    clear hbig
    go_enter Tryd.func70, Tryd.ntmps70
    go_wp2_with fail
    go_ret
    exact ⟨ret_intR HF.out.symm, Below.refl _ _⟩
  case neg =>
    have p1 : ¬ (5000 : Int) < N := by omega
    have hNs : N ≤ 5000 := by omega
    have H0 : Hid (ssAt l 0 = R) := Lib.hid (by rw [HR.out, if_neg hbig])
    clear hbig HR
    go_enter Tryd.func70, Tryd.ntmps70
    go_wp2_with fail
    go_loopw [11] (fun i wr => ∃ k : Nat, i = .int .i64 k ∧ k ≤ N ∧ Hid (ssAt l k = R) ∧ Hid (Below w.heap.size w wr)) (fun i _ => N - (intOf i).toNat)
    case atStart => exact ⟨0, rfl, Nat.zero_le _, H0, Lib.hid (Below.refl _ _)⟩
    case round =>
      clear H0
      obtain ⟨k, rfl, hk, HV, HB⟩ := hrel
      have hszr := HB.out.size
      by_cases hlt : k < N
      case neg =>
        have p2 : ¬ (k : Int) < N := by omega
        have HF : Hid (R = 0) := Lib.hid (by rw [← HV.out, show k = N by omega]; exact HEND.out)
        go_wp2_with fail
        go_ret
        exact ⟨ret_intR HF.out.symm, HB.out⟩
      case pos =>
        have p2 : (k : Int) < N := by omega
        have hkl : k < l.length := by rw [← HNL.out]; exact hlt
        obtain ⟨b1, o1, hA, hbl, c0, c1, c2, c3, c4, c5, c6, c7, c8⟩ := HL.out.at_ HB.out hkl
        subst hA
        obtain ⟨x, hx⟩ : ∃ x, x = l[k] := ⟨_, rfl⟩
        rw [← hx] at c0 c1 c2 c3 c4 c5 c6 c7 c8
        have HX := Lib.hid hx
        clear hx
        have hxv : x.v = .agg #[.int .i64 x.bl, .int .i64 x.no, .int .i64 x.st, .int .i64 x.ea, .int .i64 x.du, .int .i64 x.la, .int .i64 x.ti, .int .i64 x.lp, .int .i64 x.bu] := rfl
        have HCK := Lib.hid (fun W => checkState_any x W)
        rw [hxv] at HCK
        have HBA := Lib.hid (HB.out.alloc HB.out.size (.cells #[.int .i64 x.bl, .int .i64 x.no, .int .i64 x.st, .int .i64 x.ea, .int .i64 x.du, .int .i64 x.la, .int .i64 x.ti, .int .i64 x.lp, .int .i64 x.bu] 23))
        have HXA := Lib.hid (heap_alloc_new wr (.cells #[.int .i64 x.bl, .int .i64 x.no, .int .i64 x.st, .int .i64 x.ea, .int .i64 x.du, .int .i64 x.la, .int .i64 x.ti, .int .i64 x.lp, .int .i64 x.bu] 23))
        obtain ⟨E, hE⟩ : ∃ E, E = stE x := ⟨_, rfl⟩
        have HE := Lib.hid hE
        rw [← hE] at HCK
        clear hxv hE
        have hbw : b1 < wr.heap.size := by omega
        go_wp2_with fail
        refine (HCK.out _).mono ?_
        rintro e3 w3 ⟨rfl, hb3⟩
        have HB3 := Lib.hid (HBA.out.trans (hb3.mono HBA.out.size))
        have HX3 := Lib.hid ((hb3.block _ (lt_of_block HXA.out)).trans HXA.out)
        clear hb3 c0 c1 c2 c3 c4 c5 c6 c7 c8
        by_cases hE : E = 0
        case neg =>
          have hE' : (E != 0) = true := bne_iff_ne.2 hE
          have HF : Hid (R = E) := Lib.hid (by
            have hex : stE l[k] = E := by rw [← HX.out]; exact HE.out.symm
            rw [← HV.out]
            rcases k with _ | j
            · rw [HZ.out hkl, if_pos (by rw [hex]; exact hE), hex]
            · rw [HS.out j hkl, if_pos (by rw [hex]; exact hE), hex])
          clear hE
          go_wp2_with fail
          go_ret
          exact ⟨ret_intR HF.out.symm, HB3.out⟩
        case pos =>
          have HE0 : Hid (stE l[k] = 0) := Lib.hid (by rw [← HX.out, ← HE.out]; exact hE)
          clear HE HCK
          subst hE
          rcases Nat.eq_zero_or_pos k with h0 | h0
          · subst h0
            have HF : Hid (ssAt l 1 = R) := Lib.hid (by rw [← HV.out, HZ.out hkl, if_neg (by rw [HE0.out]; simp)])
            have g1 : decide ((0 : Int) < 0) = false := by decide
            go_wp2_with fail
            go_quiet (fail)
            have HB4 : Hid (Below w.heap.size w (w3.drewN nq)) := Lib.hid (below_drewN HB3.out nq)
            go_wp2_with fail
            go_roundw
            case rel => exact ⟨1, by first | rfl | go_num, by omega, HF, HB4⟩
            case measure => simp [intOf]; omega
          · obtain ⟨j, rfl⟩ : ∃ j, k = j + 1 := ⟨k - 1, by omega⟩
            have hjl : j < l.length := by omega
            obtain ⟨b2, o2, hA2, hbl2, c0, c1, c2, c3, c4, c5, c6, c7, c8⟩ := HL.out.at_ HB3.out hjl
            simp only [Option.some.injEq, Addr.mk.injEq, and_true] at hA2
            obtain ⟨rfl, rfl⟩ := hA2
            obtain ⟨y, hy⟩ : ∃ y, y = l[j] := ⟨_, rfl⟩
            rw [← hy] at c0 c1 c2 c3 c4 c5 c6 c7 c8
            have HLATE : Hid ((lateS y x → R = 5) ∧ (¬ lateS y x → ssAt l (j + 2) = R)) := Lib.hid (by
              have hv := HV.out
              rw [HS.out j hkl, if_neg (by rw [HE0.out]; simp), ← HX.out, ← hy] at hv
              exact ⟨fun h => by rw [← hv, if_pos h], fun h => by rw [← hv, if_neg h]⟩)
            clear hy
            have HIX := Lib.hid (fun W => stId_any x W)
            have HIY := Lib.hid (fun W => stId_any y W)
            have HCP := Lib.hid (fun W => compareIds_any y.bl y.no x.bl x.no W)
            unfold StV.v StV.cells at HIX HIY
            obtain ⟨y0, y1, y2, y3, y4, y5, y6, y7, y8⟩ := st_nine HX3.out
            obtain ⟨K, hK⟩ : ∃ K, K = cmp2 y.bl y.no x.bl x.no := ⟨_, rfl⟩
            rw [← hK] at HCP
            have HK : Hid (lateS y x ↔ 0 ≤ K) := Lib.hid (by rw [hK]; exact Iff.rfl)
            clear hK
            have q1 : ((j + 1 : Nat) : Int) - 1 = (j : Int) := by omega
            have q2 : IntKind.i64.wrap (j : Int) = (j : Int) := IntWalk.i64_in _ (by omega)
            have q3 : (j : Int) < N := by omega
            have q4 : j < N := by omega
            have q5 : (0 : Int) < ((j + 1 : Nat) : Int) := by omega
            have q6 : 0 < j + 1 := by omega
            have hb1x : b1 < w3.heap.size := by have := HB3.out.size; omega
            go_wp2_with fail
            go_region_held3 (fun W => W.cell? ⟨b1, o1 + j * 9, none⟩ = some (.int .i64 y.bl) ∧ W.cell? ⟨b1, o1 + j * 9 + 1, none⟩ = some (.int .i64 y.no) ∧ W.cell? ⟨b1, o1 + j * 9 + 2, none⟩ = some (.int .i64 y.st) ∧ W.cell? ⟨b1, o1 + j * 9 + 3, none⟩ = some (.int .i64 y.ea) ∧ W.cell? ⟨b1, o1 + j * 9 + 4, none⟩ = some (.int .i64 y.du) ∧ W.cell? ⟨b1, o1 + j * 9 + 5, none⟩ = some (.int .i64 y.la) ∧ W.cell? ⟨b1, o1 + j * 9 + 6, none⟩ = some (.int .i64 y.ti) ∧ W.cell? ⟨b1, o1 + j * 9 + 7, none⟩ = some (.int .i64 y.lp) ∧ W.cell? ⟨b1, o1 + j * 9 + 8, none⟩ = some (.int .i64 y.bu) ∧ W.cell? ⟨wr.heap.size, 0, none⟩ = some (.int .i64 x.bl) ∧ W.cell? ⟨wr.heap.size, 1, none⟩ = some (.int .i64 x.no) ∧ W.cell? ⟨wr.heap.size, 2, none⟩ = some (.int .i64 x.st) ∧ W.cell? ⟨wr.heap.size, 3, none⟩ = some (.int .i64 x.ea) ∧ W.cell? ⟨wr.heap.size, 4, none⟩ = some (.int .i64 x.du) ∧ W.cell? ⟨wr.heap.size, 5, none⟩ = some (.int .i64 x.la) ∧ W.cell? ⟨wr.heap.size, 6, none⟩ = some (.int .i64 x.ti) ∧ W.cell? ⟨wr.heap.size, 7, none⟩ = some (.int .i64 x.lp) ∧ W.cell? ⟨wr.heap.size, 8, none⟩ = some (.int .i64 x.bu))
              (first | go_keep | (go_split_ands; refine ⟨?_, ?_, ?_, ?_, ?_, ?_, ?_, ?_, ?_, ?_, ?_, ?_, ?_, ?_, ?_, ?_, ?_, ?_⟩ <;> first | exact keepC1 (by assumption) hb7 | exact keepC1 (by assumption) hb6 | exact keepC1 (by assumption) hb5))
              (first
              | (go_at_call 52; (first | (with_reducible refine (HIX.out _).mono ?_; rintro e6 w6 ⟨rfl, hb6⟩) | (with_reducible refine (HIY.out _).mono ?_; rintro e5 w5 ⟨rfl, hb5⟩)))
              | (go_at_call 89; refine (HCP.out _).mono ?_; rintro e7 w7 ⟨rfl, hb7⟩))
            have HB7 : Hid (Below w.heap.size w w7) := Lib.hid (HB3.out.trans (((Below.refl _ w3).drew.trans (hb5.trans ((hb6.trans (hb7.mono hb6.size)).mono hb5.size))).mono HB3.out.size))
            clear hb7 hb6 hb5 q1 q2 q6 y0 y1 y2 y3 y4 y5 y6 y7 y8 c0 c1 c2 c3 c4 c5 c6 c7 c8
            by_cases hlate : lateS y x
            case pos =>
              have HF := Lib.hid (HLATE.out.1 hlate)
              have k1 : 0 ≤ K := HK.out.1 hlate
              clear hlate
              go_wp2_with fail
              go_ret
              exact ⟨ret_intR HF.out.symm, HB7.out⟩
            case neg =>
              have HF := Lib.hid (HLATE.out.2 hlate)
              have k1 : ¬ 0 ≤ K := fun h => hlate (HK.out.2 h)
              clear hlate
              go_wp2_with fail
              go_roundw
              case rel => exact ⟨j + 2, by first | rfl | go_num, by omega, HF, HB7⟩
              case measure => simp [intOf]; omega
set_option maxRecDepth 100000 in
set_option maxHeartbeats 8000000 in
theorem statesFault_any (l : List StV) (A : Option Addr) (c : Nat) (w : World) (hl : StVsAt w w.heap.size A l) :
    Calls Tryd.prog 55 #[.slice A l.length c] w fun e w' => e = .returned (.int .i64 (statesE l)) ∧ Below w.heap.size w w' := by
  have HL := Lib.hid hl
  obtain ⟨R, hR⟩ : ∃ R, R = statesE l := ⟨_, rfl⟩
  rw [← hR]
  have HR : Hid (R = if 5000 < l.length then 4 else ssAt l 0) := Lib.hid hR
  have HEND := Lib.hid (ssAt_end l)
  have HZ := Lib.hid (ssAt_zero l)
  have HS := Lib.hid (ssAt_succ l)
  obtain ⟨N, hN⟩ : ∃ N, N = l.length := ⟨_, rfl⟩
  rw [← hN] at HR HEND ⊢
  have HNL := Lib.hid hN
  clear hR hN hl
  by_cases hbig : 5000 < N
  case pos =>
    have p1 : (5000 : Int) < N := by omega
    have HF : Hid (R = 4) := Lib.hid (by rw [HR.out, if_pos hbig])
    clear hbig
    go_enter Tryd.func55, Tryd.ntmps55
    go_wp2_with fail
    go_ret
    exact ⟨ret_intR HF.out.symm, Below.refl _ _⟩
  case neg =>
    have p1 : ¬ (5000 : Int) < N := by omega
    have hNs : N ≤ 5000 := by omega
    have H0 : Hid (ssAt l 0 = R) := Lib.hid (by rw [HR.out, if_neg hbig])
    clear hbig HR
    go_enter Tryd.func55, Tryd.ntmps55
    go_wp2_with fail
    go_loopw [11] (fun i wr => ∃ k : Nat, i = .int .i64 k ∧ k ≤ N ∧ Hid (ssAt l k = R) ∧ Hid (Below w.heap.size w wr)) (fun i _ => N - (intOf i).toNat)
    case atStart => exact ⟨0, rfl, Nat.zero_le _, H0, Lib.hid (Below.refl _ _)⟩
    case round =>
      clear H0
      obtain ⟨k, rfl, hk, HV, HB⟩ := hrel
      have hszr := HB.out.size
      by_cases hlt : k < N
      case neg =>
        have p2 : ¬ (k : Int) < N := by omega
        have HF : Hid (R = 0) := Lib.hid (by rw [← HV.out, show k = N by omega]; exact HEND.out)
        go_wp2_with fail
        go_ret
        exact ⟨ret_intR HF.out.symm, HB.out⟩
      case pos =>
        have p2 : (k : Int) < N := by omega
        have hkl : k < l.length := by rw [← HNL.out]; exact hlt
        obtain ⟨b1, o1, hA, hbl, c0, c1, c2, c3, c4, c5, c6, c7, c8⟩ := HL.out.at_ HB.out hkl
        subst hA
        obtain ⟨x, hx⟩ : ∃ x, x = l[k] := ⟨_, rfl⟩
        rw [← hx] at c0 c1 c2 c3 c4 c5 c6 c7 c8
        have HX := Lib.hid hx
        clear hx
        have hxv : x.v = .agg #[.int .i64 x.bl, .int .i64 x.no, .int .i64 x.st, .int .i64 x.ea, .int .i64 x.du, .int .i64 x.la, .int .i64 x.ti, .int .i64 x.lp, .int .i64 x.bu] := rfl
        have HCK := Lib.hid (fun W => stateFault_any x W)
        rw [hxv] at HCK
        have HBA := Lib.hid (HB.out.alloc HB.out.size (.cells #[.int .i64 x.bl, .int .i64 x.no, .int .i64 x.st, .int .i64 x.ea, .int .i64 x.du, .int .i64 x.la, .int .i64 x.ti, .int .i64 x.lp, .int .i64 x.bu] 23))
        have HXA := Lib.hid (heap_alloc_new wr (.cells #[.int .i64 x.bl, .int .i64 x.no, .int .i64 x.st, .int .i64 x.ea, .int .i64 x.du, .int .i64 x.la, .int .i64 x.ti, .int .i64 x.lp, .int .i64 x.bu] 23))
        obtain ⟨E, hE⟩ : ∃ E, E = stE x := ⟨_, rfl⟩
        have HE := Lib.hid hE
        rw [← hE] at HCK
        clear hxv hE
        have hbw : b1 < wr.heap.size := by omega
        go_wp2_with fail
        refine (HCK.out _).mono ?_
        rintro e3 w3 ⟨rfl, hb3⟩
        have HB3 := Lib.hid (HBA.out.trans (hb3.mono HBA.out.size))
        have HX3 := Lib.hid ((hb3.block _ (lt_of_block HXA.out)).trans HXA.out)
        clear hb3 c0 c1 c2 c3 c4 c5 c6 c7 c8
        by_cases hE : E = 0
        case neg =>
          have hE' : (E != 0) = true := bne_iff_ne.2 hE
          have HF : Hid (R = E) := Lib.hid (by
            have hex : stE l[k] = E := by rw [← HX.out]; exact HE.out.symm
            rw [← HV.out]
            rcases k with _ | j
            · rw [HZ.out hkl, if_pos (by rw [hex]; exact hE), hex]
            · rw [HS.out j hkl, if_pos (by rw [hex]; exact hE), hex])
          clear hE
          go_wp2_with fail
          go_ret
          exact ⟨ret_intR HF.out.symm, HB3.out⟩
        case pos =>
          have HE0 : Hid (stE l[k] = 0) := Lib.hid (by rw [← HX.out, ← HE.out]; exact hE)
          clear HE HCK
          subst hE
          rcases Nat.eq_zero_or_pos k with h0 | h0
          · subst h0
            have HF : Hid (ssAt l 1 = R) := Lib.hid (by rw [← HV.out, HZ.out hkl, if_neg (by rw [HE0.out]; simp)])
            have g1 : decide ((0 : Int) < 0) = false := by decide
            go_wp2_with fail
            go_quiet (fail)
            have HB4 : Hid (Below w.heap.size w (w3.drewN nq)) := Lib.hid (below_drewN HB3.out nq)
            go_wp2_with fail
            go_roundw
            case rel => exact ⟨1, by first | rfl | go_num, by omega, HF, HB4⟩
            case measure => simp [intOf]; omega
          · obtain ⟨j, rfl⟩ : ∃ j, k = j + 1 := ⟨k - 1, by omega⟩
            have hjl : j < l.length := by omega
            obtain ⟨b2, o2, hA2, hbl2, c0, c1, c2, c3, c4, c5, c6, c7, c8⟩ := HL.out.at_ HB3.out hjl
            simp only [Option.some.injEq, Addr.mk.injEq, and_true] at hA2
            obtain ⟨rfl, rfl⟩ := hA2
            obtain ⟨y, hy⟩ : ∃ y, y = l[j] := ⟨_, rfl⟩
            rw [← hy] at c0 c1 c2 c3 c4 c5 c6 c7 c8
            have HLATE : Hid ((lateS y x → R = 5) ∧ (¬ lateS y x → ssAt l (j + 2) = R)) := Lib.hid (by
              have hv := HV.out
              rw [HS.out j hkl, if_neg (by rw [HE0.out]; simp), ← HX.out, ← hy] at hv
              exact ⟨fun h => by rw [← hv, if_pos h], fun h => by rw [← hv, if_neg h]⟩)
            clear hy
            have HCP := Lib.hid (fun W => order_any y x W)
            obtain ⟨y0, y1, y2, y3, y4, y5, y6, y7, y8⟩ := st_nine HX3.out
            obtain ⟨K, hK⟩ : ∃ K, K = cmp2 y.bl y.no x.bl x.no := ⟨_, rfl⟩
            rw [← hK] at HCP
            have HK : Hid (lateS y x ↔ 0 ≤ K) := Lib.hid (by rw [hK]; exact Iff.rfl)
            clear hK
            have q1 : ((j + 1 : Nat) : Int) - 1 = (j : Int) := by omega
            have q2 : IntKind.i64.wrap (j : Int) = (j : Int) := IntWalk.i64_in _ (by omega)
            have q3 : (j : Int) < N := by omega
            have q4 : j < N := by omega
            have q5 : (0 : Int) < ((j + 1 : Nat) : Int) := by omega
            have q6 : 0 < j + 1 := by omega
            have hb1x : b1 < w3.heap.size := by have := HB3.out.size; omega
            go_wp2_with fail
            go_region_held3 (fun W => W.cell? ⟨b1, o1 + j * 9, none⟩ = some (.int .i64 y.bl) ∧ W.cell? ⟨b1, o1 + j * 9 + 1, none⟩ = some (.int .i64 y.no) ∧ W.cell? ⟨b1, o1 + j * 9 + 2, none⟩ = some (.int .i64 y.st) ∧ W.cell? ⟨b1, o1 + j * 9 + 3, none⟩ = some (.int .i64 y.ea) ∧ W.cell? ⟨b1, o1 + j * 9 + 4, none⟩ = some (.int .i64 y.du) ∧ W.cell? ⟨b1, o1 + j * 9 + 5, none⟩ = some (.int .i64 y.la) ∧ W.cell? ⟨b1, o1 + j * 9 + 6, none⟩ = some (.int .i64 y.ti) ∧ W.cell? ⟨b1, o1 + j * 9 + 7, none⟩ = some (.int .i64 y.lp) ∧ W.cell? ⟨b1, o1 + j * 9 + 8, none⟩ = some (.int .i64 y.bu) ∧ W.cell? ⟨wr.heap.size, 0, none⟩ = some (.int .i64 x.bl) ∧ W.cell? ⟨wr.heap.size, 1, none⟩ = some (.int .i64 x.no) ∧ W.cell? ⟨wr.heap.size, 2, none⟩ = some (.int .i64 x.st) ∧ W.cell? ⟨wr.heap.size, 3, none⟩ = some (.int .i64 x.ea) ∧ W.cell? ⟨wr.heap.size, 4, none⟩ = some (.int .i64 x.du) ∧ W.cell? ⟨wr.heap.size, 5, none⟩ = some (.int .i64 x.la) ∧ W.cell? ⟨wr.heap.size, 6, none⟩ = some (.int .i64 x.ti) ∧ W.cell? ⟨wr.heap.size, 7, none⟩ = some (.int .i64 x.lp) ∧ W.cell? ⟨wr.heap.size, 8, none⟩ = some (.int .i64 x.bu))
              (first | go_keep | (go_split_ands; refine ⟨?_, ?_, ?_, ?_, ?_, ?_, ?_, ?_, ?_, ?_, ?_, ?_, ?_, ?_, ?_, ?_, ?_, ?_⟩ <;> first | exact keepC1 (by assumption) hb7))
              (first
              | (go_at_call 71; refine (HCP.out _).mono ?_; rintro e7 w7 ⟨rfl, hb7⟩))
            have HB7 : Hid (Below w.heap.size w w7) := Lib.hid (HB3.out.trans (((Below.refl _ w3).drew.trans hb7).mono HB3.out.size))
            clear hb7 q1 q2 q6 y0 y1 y2 y3 y4 y5 y6 y7 y8 c0 c1 c2 c3 c4 c5 c6 c7 c8
            by_cases hlate : lateS y x
            case pos =>
              have HF := Lib.hid (HLATE.out.1 hlate)
              have k1 : 0 ≤ K := HK.out.1 hlate
              clear hlate
              go_wp2_with fail
              go_ret
              exact ⟨ret_intR HF.out.symm, HB7.out⟩
            case neg =>
              have HF := Lib.hid (HLATE.out.2 hlate)
              have k1 : ¬ 0 ≤ K := fun h => hlate (HK.out.2 h)
              clear hlate
              go_wp2_with fail
              go_roundw
              case rel => exact ⟨j + 2, by first | rfl | go_num, by omega, HF, HB7⟩
              case measure => simp [intOf]; omega
end Go.Proofs.YtnellkdiafglgaaDoor
