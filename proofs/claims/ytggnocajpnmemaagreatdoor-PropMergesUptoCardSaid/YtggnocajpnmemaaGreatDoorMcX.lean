/- The reference's mergeValue: the closure add. The items come to the same on both sides (pure). The reference's mergeValue: the walk. (Made by gen_mgm.py.) -/
import Derived.Test.YtggnocajpnmemaaGreatDoorMbX
namespace Go.Proofs.YtggnocajpnmemaaGreatDoor
open Go.RowKit Go.Shelf

def preO : List Value := [.int .i64 7, .int .i64 0, .int .i64 0, .string ⟨#[]⟩]
set_option maxRecDepth 100000 in
set_option maxHeartbeats 8000000 in
theorem addR_any (x : V) (g : Value) (hbx ib base B0 : Nat) (L : List V) (w0 w : World) (hSt : ItemSt w0 ib base B0 24 preO [] L w) (hib : ib < base) (hB0 : B0 ≤ ib) (hhb : hbx < base) (hhi : hbx ≠ ib) (hh0 : w0.heap[hbx]? = some (.cells #[.func (Fn.func 135) #[] #[]] 212 (0, 0)))
    (k i t : Int) (s : ByteArray) (lx : List V) (Ax : Option Addr) (cx : Nat) (hx : x = .mk k i t s lx) (hg : g = .agg #[.int .i64 k, .int .i64 i, .int .i64 t, .string s, .slice Ax lx.length cx]) (hz : s.size ≤ 1048576) (hsF : SlF w (fun q => q < B0) lx (.slice Ax lx.length cx)) (hln : L.length ≤ 1000) :
    Calls Tryz.prog 138 #[g, .pointer (some ⟨hbx, 0, none⟩), .pointer (some ⟨ib, 0, none⟩)] w fun e w' => e = .returned (.tuple #[]) ∧ ItemSt w0 ib base B0 24 preO [] (if !hasT L x then L ++ [x] else L) w' := by
  obtain ⟨i0, hi, hz0, hz1, hz2⟩ := info_parts infoVv
  have hszb := hSt.size
  have hle := hSt.le
  have hsl : SlAt w w.heap.size lx (.slice Ax lx.length cx) := hsF.toAt (fun q hq => by omega)
  have hen : ∀ (ys : Array Value) (W : World), (callFunc 135 ys).run Tryz.prog W = .ok (.enter 135 ys) W := enters_of Tryz.func135 (by kernel_rfl) rfl
  obtain ⟨F, xs, A6, c6, k1, k2, k3, k4, k5⟩ := hSt.rep
  have hbel : ∀ o, Below w.heap.size w (w.alloc o) := fun o => (Below.refl _ w).alloc (Nat.le_refl _) o
  have hv : VAt w w.heap.size x g := by rw [hx, hg]; exact ⟨hz, _, rfl, hsl⟩
  have HH := Lib.hid (fun o => hasR_any L A6 c6 x g (w.alloc o) (((vown_sl k2 k3 (fun q hq => by have := k4 q hq; omega) (by omega)).below (hbel o) (Nat.le_refl _)).up (hbel o).size) (hv.later (hbel o)))
  have hhw := (hSt.block hbx hhb hhi).trans hh0
  have y0 := cell_of_row w hbx 0 _ _ (0, 0) hhw
  have z4 := cell_of_row w ib 4 _ _ (0, 0) k1
  have lib := lt_of_blk' k1
  have lhb := lt_of_blk' hhw
  have HST := Lib.hid hSt
  have HK1 := Lib.hid k1
  have HK2 := Lib.hid k2
  have HK3 := Lib.hid k3
  have HK4 := Lib.hid k4
  have HK5 := Lib.hid k5
  have HSF := Lib.hid hsF
  obtain ⟨m, hm⟩ : ∃ m, m = lx.length := ⟨_, rfl⟩
  have HM := Lib.hid hm
  have HXE := Lib.hid hx
  subst hg
  rw [← hm] at HH ⊢
  rcases hh : hasT L x with _ | _
  · rw [hh] at HH
    generalize hfq : L.length = fl at HH HK1 HK2 HK5 hln z4
    have HFQ := Lib.hid hfq
    have z4' : w.cell? ⟨ib, 4, none⟩ = some (.slice A6 fl c6) := z4
    clear hh hSt hsl hv hhw k1 k2 k3 k4 k5 hsF hm hx hh0 hfq z4
    go_enter Tryz.func138, Tryz.ntmps138
    go_wp2_with fail
    refine (HH.out _).mono ?_
    rintro e7 w7 ⟨rfl, hb7⟩
    have hb07 : Below w.heap.size w w7 := (hbel (.cells #[.int .i64 k, .int .i64 i, .int .i64 t, .string s, .slice Ax m cx] 24)).trans (hb7.mono (by simp))
    have hbx7 : w7.heap[w.heap.size]? = some (.cells #[.int .i64 k, .int .i64 i, .int .i64 t, .string s, .slice Ax m cx] 24 (0, 0)) := (hb7.block _ (by simp)).trans (heap_alloc_new w _)
    have HS7 := Lib.hid (HST.out.later hb07)
    have k17 := (hb07.block _ lib).trans HK1.out
    have k27 := own_kept HK2.out (fun g hg => hb07.block g (HK2.out.lt g hg).2)
    have HK37 := Lib.hid (HK3.out.keep (fun k hk => hb07.block k (by have := HK4.out k hk; omega)) (fun _ h => h))
    have hs67 := hb07.size
    have HSF7 := Lib.hid (HSF.out.keep (w' := w7) (G := fun k => k < B0) (fun b hb => hb07.block b (by omega)) (fun _ h => h))
    have lib7 := lt_of_blk' k17
    have lbx7 := lt_of_blk' hbx7
    obtain ⟨x0, x1, x2, x3, x4⟩ : w7.cell? ⟨w.heap.size, 0, none⟩ = some (.int .i64 k) ∧ w7.cell? ⟨w.heap.size, 1, none⟩ = some (.int .i64 i) ∧ w7.cell? ⟨w.heap.size, 2, none⟩ = some (.int .i64 t) ∧ w7.cell? ⟨w.heap.size, 3, none⟩ = some (.string s) ∧ w7.cell? ⟨w.heap.size, 4, none⟩ = some (.slice Ax m cx) := five_cells hbx7
    have y4 : w7.cell? ⟨ib, 4, none⟩ = some (.slice A6 fl c6) := cell_of_row w7 ib 4 _ _ (0, 0) k17
    have HK17 := Lib.hid k17
    have HK27 := Lib.hid k27
    have hsb7 := HS7.out.size
    have p9 : (fl : Int) < (fl : Int) + 1 := by omega
    have HOL := Lib.hid (fun g (hg : (Value.slice A6 fl c6).ownBlock = some g) => (HK2.out.lt g hg))
    clear hb7 hbx7 k17 k27 hb07 y0
    go_wp2_with fail
    go_region_law
      ((refine step_append_lies _ (by rfl) _ _ _ (by rfl) base 24 i0 _ 5 64 Tryz.underlying22 hi hz0 hz1 hz2 rfl (by omega) (.slice A6 fl c6) fl xs (by rfl) (HK27.out.alloc _) ⟨w7.heap.size, 0, none⟩ 1 1 [.int .i64 0, .int .i64 0, .int .i64 0, .string ⟨#[]⟩, .slice none 0 0] (by rfl) (by rfl) (World.news_of_block (cs := #[.int .i64 0, .int .i64 0, .int .i64 0, .string ⟨#[]⟩, .slice none 0 0]) (t := 24) (fr := (0, 0)) (heap_alloc_new w7 _)) (by simp [Value.oneCell']) (by omega) (by unfold maxLen; omega) (by omega) (Nat.le_trans hsb7 (by simp)) (w7.heap.size + 1) (by simp) ?_; intro gg cap w8 ho8 hg8 hat8 hlt8; have hgg8 := (ho8.lt gg rfl).1; have z0 := ho8.cellAt (fl * 5) (by omega); have z1 := ho8.cellAt (fl * 5 + 1) (by omega); have z2 := ho8.cellAt (fl * 5 + 2) (by omega); have z3 := ho8.cellAt (fl * 5 + 3) (by omega); have z4 := ho8.cellAt (fl * 5 + 4) (by omega); have f0 := ho8.frozenAt (fl * 5); have f1 := ho8.frozenAt (fl * 5 + 1); have f2 := ho8.frozenAt (fl * 5 + 2); have f3 := ho8.frozenAt (fl * 5 + 3); have f4 := ho8.frozenAt (fl * 5 + 4); rw [List.getElem?_append_right (by rw [HK27.out.1]; omega)] at z0 z1 z2 z3 z4; rw [HK27.out.1] at z0 z1 z2 z3 z4; simp only [Nat.sub_self, Nat.add_sub_cancel_left] at z0 z1 z2 z3 z4; have hne8 : gg ≠ ib := (by omega); have hne9 : ib ≠ gg := (by omega); have k18 := ((hg8.block ib (by simp; omega) (fun e => by have := (HOL.out ib e.symm).1; omega)).trans (Below.heap_alloc w7 _ ib lib7)).trans HK17.out; have y8 : w8.cell? ⟨ib, 4, none⟩ = some (.slice A6 fl c6) := (cell_of_row w8 ib 4 _ _ (0, 0) k18); have fy8 := frozen_of_row w8 ib 4 _ _ k18))
    all_goals (
      have HX : Hid (ItemSt w0 ib base B0 24 preO [] (L ++ [x]) ((((((w8.setCell ⟨gg, fl * 5, none⟩ (.int .i64 k)).setCell ⟨gg, fl * 5 + 1, none⟩ (.int .i64 i)).setCell ⟨gg, fl * 5 + 2, none⟩ (.int .i64 t)).setCell ⟨gg, fl * 5 + 3, none⟩ (.string s)).setCell ⟨gg, fl * 5 + 4, none⟩ (.slice Ax m cx)).setCell ⟨ib, 4, none⟩ (.slice (some ⟨gg, 0, none⟩) (fl + 1) cap))) := Lib.hid (by
        have hfq := HFQ.out
        have hm := HM.out
        have hx := HXE.out
        subst hfq hm hx
        exact HS7.out.push hib hB0 (P := fun k => k < B0) HK17.out HK27.out HK37.out HK4.out HK5.out hz HSF7.out (fun k hk => hk) (zs := [.int .i64 0, .int .i64 0, .int .i64 0, .string ⟨#[]⟩, .slice none 0 0]) rfl ho8 ⟨hg8.os, hg8.tape, hg8.output, hg8.size, hg8.block⟩ hat8)
      have HX2 : Hid (ItemSt w0 ib base B0 24 preO [] (L ++ [x]) ((((((w8.setCell ⟨ib, 4, none⟩ (.slice (some ⟨gg, 0, none⟩) (fl + 1) cap)).setCell ⟨gg, fl * 5, none⟩ (.int .i64 k)).setCell ⟨gg, fl * 5 + 1, none⟩ (.int .i64 i)).setCell ⟨gg, fl * 5 + 2, none⟩ (.int .i64 t)).setCell ⟨gg, fl * 5 + 3, none⟩ (.string s)).setCell ⟨gg, fl * 5 + 4, none⟩ (.slice Ax m cx))) := Lib.hid (by
        have := HX.out
        rw [setCell_swap _ hne8, setCell_swap _ hne8, setCell_swap _ hne8, setCell_swap _ hne8, setCell_swap _ hne8] at this
        exact this)
      clear ho8 hg8 hat8 z0 z1 z2 z3 z4 f0 f1 f2 f3 f4 k18 y8 fy8
      go_wp2_with fail
      go_end0
      refine ⟨rfl, ?_⟩
      first
        | with_reducible exact HX.out
        | with_reducible exact HX2.out)
  · rw [hh] at HH
    have z4' : w.cell? ⟨ib, 4, none⟩ = some (.slice A6 L.length c6) := z4
    generalize L.length = fl at HH HK1 HK2 HK5 hln z4' z4
    clear hh hSt hsl hv hhw k1 k2 k3 k4 k5 hsF hm hx hh0 z4
    go_enter Tryz.func138, Tryz.ntmps138
    go_wp2_with fail
    refine (HH.out _).mono ?_
    rintro e7 w7 ⟨rfl, hb7⟩
    have hb07 : Below w.heap.size w w7 := (hbel (.cells #[.int .i64 k, .int .i64 i, .int .i64 t, .string s, .slice Ax m cx] 24)).trans (hb7.mono (by simp))
    have HS7 := Lib.hid (HST.out.later hb07)
    clear hb7 hb07
    go_wp2_with fail
    go_end0
    exact ⟨rfl, HS7.out⟩
end Go.Proofs.YtggnocajpnmemaaGreatDoor
namespace Go.Proofs.YtggnocajpnmemaaGreatDoor
open Go.RowKit Go.Shelf

theorem hasT_iff {l : List V} {x : V} : hasT l x = true ↔ ∃ y ∈ l, sameT y x = true := by unfold hasT; rw [List.any_eq_true]
theorem hasT_same {l : List V} {x y : V} (h : sameT x y = true) : hasT l x = hasT l y := by
  rw [Bool.eq_iff_iff, hasT_iff, hasT_iff]
  exact ⟨fun ⟨z, hz, h1⟩ => ⟨z, hz, sameT_trans h1 h⟩, fun ⟨z, hz, h1⟩ => ⟨z, hz, sameT_trans h1 (by rw [sameT_comm]; exact h)⟩⟩
theorem hasT_more {l : List V} {x y : V} (h : hasT l x = true) : hasT (l ++ [y]) x = true := by
  rw [hasT_iff] at h ⊢
  obtain ⟨z, hz, h1⟩ := h
  exact ⟨z, List.mem_append.2 (.inl hz), h1⟩
theorem addL_keeps (p : V → Bool) : ∀ (l L : List V) (x : V), hasT L x = true → hasT (addL L p l) x = true
  | [], L, x, h => h
  | y :: l, L, x, h => by
    rw [addL]
    apply addL_keeps p l
    split
    · exact hasT_more h
    · exact h
theorem addL_has (p : V → Bool) : ∀ (l L : List V) (x : V), x ∈ l → p x = true → hasT (addL L p l) x = true
  | [], _, _, h, _ => by simp at h
  | y :: l, L, x, h, hp => by
    rw [addL]
    rcases List.mem_cons.1 h with rfl | h
    · apply addL_keeps p l
      rcases hh : hasT L x with _ | _
      · rw [hp]
        simp only [Bool.not_false, Bool.and_true, if_true]
        rw [hasT_iff]
        exact ⟨x, by simp, sameT_self x⟩
      · simp [hh]
    · exact addL_has p l _ x h hp
theorem addL_skip (p q : V → Bool) : ∀ (l L : List V), (∀ x ∈ l, p x = true → q x = true → hasT L x = true) → addL L p l = addL L (fun x => p x && !q x) l
  | [], _, _ => rfl
  | y :: l, L, h => by
    rw [addL, addL]
    have hy := h y (List.mem_cons_self ..)
    have e : (if (p y && !hasT L y) = true then L ++ [y] else L) = (if ((p y && !q y) && !hasT L y) = true then L ++ [y] else L) := by
      rcases hp : p y with _ | _
      · simp
      · rcases hq : q y with _ | _
        · simp
        · simp [hy hp hq]
    rw [← e]
    refine addL_skip p q l _ (fun x hx h1 h2 => ?_)
    have := h x (List.mem_cons_of_mem _ hx) h1 h2
    split
    · exact hasT_more this
    · exact this
/-- The items as the reference has them. -/
def itemsR (lo la lb : List V) : List V :=
  addL (addL (addL [] (fun x => hasT la x && hasT lb x) lo) (fun x => !hasT lo x) la) (fun x => !hasT lo x) lb
theorem itemsR_eq (lo la lb : List V) : itemsR lo la lb = itemsM lo la lb := by
  unfold itemsR itemsM
  refine addL_skip (fun x => !hasT lo x) (fun x => hasT la x) lb _ (fun x _ h1 h2 => ?_)
  rw [hasT_iff] at h2
  obtain ⟨y, hy, hyx⟩ := h2
  rw [← hasT_same hyx]
  refine addL_has _ la _ y hy ?_
  show (!hasT lo y) = true
  rw [hasT_same hyx]
  exact h1
/-- Whether the first j of three are lists. -/
def ls3 (ko ka kb : Int) : Nat → Bool
  | 0 => true
  | 1 => listB ko
  | 2 => listB ko && listB ka
  | _ => listB ko && listB ka && listB kb
theorem mv_of_st {w W0 W : World} {ib base B0 : Nat} {T : TypeId} {pre suf : List Value} {L : List V} {co ca cb : Array Value} (h : MvBox w w.heap.size co ca cb W0) (hS : ItemSt W0 ib base B0 T pre suf L W) (h1 : w.heap.size + 1 + 1 + 1 < ib) (h2 : ib < base) : MvBox w w.heap.size co ca cb W :=
  ⟨⟨hS.os.trans h.bel.os, hS.tape.trans h.bel.tape, hS.output.trans h.bel.output, by have := hS.size; omega, fun k hk => (hS.block k (by omega) (by omega)).trans (h.bel.block k hk)⟩, (hS.block _ (by omega) (by omega)).trans h.o, (hS.block _ (by omega) (by omega)).trans h.a, (hS.block _ (by omega) (by omega)).trans h.b, (hS.block _ (by omega) (by omega)).trans h.r⟩
theorem src_item {w0 w : World} {ib base B0 : Nat} {T : TypeId} {pre suf : List Value} {L l : List V} {A : Option Addr} {c j : Nat} (h : ItemSt w0 ib base B0 T pre suf L w) (hB : B0 ≤ ib) (hib : ib < base) (hl : SlF w0 (fun k => k < B0) l (.slice A l.length c)) (hj : j < l.length) :
    ∃ b off kx ix tx sx lx Ax cx, A = some ⟨b, off, none⟩ ∧ l[j] = .mk kx ix tx sx lx ∧ b < w.heap.size ∧ w.cell? ⟨b, off + j * 5, none⟩ = some (.int .i64 kx) ∧ w.cell? ⟨b, off + j * 5 + 1, none⟩ = some (.int .i64 ix) ∧ w.cell? ⟨b, off + j * 5 + 2, none⟩ = some (.int .i64 tx) ∧
      w.cell? ⟨b, off + j * 5 + 3, none⟩ = some (.string sx) ∧ w.cell? ⟨b, off + j * 5 + 4, none⟩ = some (.slice Ax lx.length cx) ∧ sx.size ≤ 1048576 ∧ SlF w (fun k => k < B0) lx (.slice Ax lx.length cx) := by
  have hsz := h.size
  have hslF := hl.keep (w' := w) (G := fun k => k < B0) (fun b hb => h.block b (by omega) (by omega)) (fun _ h => h)
  obtain ⟨b, off, kx, ix, tx, sx, lx, Ax, cx, rfl, hx, hlt, g0, g1, g2, g3, g4, gz, gl, gs⟩ := val_item (hslF.toAt (fun b hb => by omega)) hj
  refine ⟨b, off, kx, ix, tx, sx, lx, Ax, cx, rfl, hx, hlt, g0, g1, g2, g3, g4, gz, ?_⟩
  obtain ⟨A1, c1, e1, _, _, h8⟩ := hslF
  rcases h8 with h8 | ⟨b1, o1, e2, h8⟩
  · rw [h8] at hj; exact absurd hj (by simp)
  · simp only [Value.slice.injEq] at e1
    obtain ⟨rfl, _, _⟩ := e1
    simp only [Option.some.injEq, Addr.mk.injEq, and_true] at e2
    obtain ⟨rfl, rfl⟩ := e2
    have h9 := row_item l b off j h8 hj
    rw [hx] at h9
    unfold CellsF at h9
    obtain ⟨q0, _, _, _, _, _, A3, c3, q5, q6, q7, q8⟩ := h9
    have e5 : some (Value.slice Ax lx.length cx) = some (Value.slice A3 lx.length c3) := g4.symm.trans q5
    rw [Option.some.inj e5]
    exact ⟨A3, c3, rfl, q6, q7, q8⟩
end Go.Proofs.YtggnocajpnmemaaGreatDoor
namespace Go.Proofs.YtggnocajpnmemaaGreatDoor
open Go.RowKit Go.Shelf

set_option maxRecDepth 100000 in
set_option maxHeartbeats 32000000 in
theorem mergeValueR_any (o a b : V) (go ga gb : Value) (w : World) (ho : VAt w w.heap.size o go) (ha : VAt w w.heap.size a ga) (hb : VAt w w.heap.size b gb) (Ro : Right o) (Ra : Right a) (Rb : Right b) :
    Calls Tryz.prog 78 #[go, ga, gb] w (MergeTo w (mergeT o a b)) := by
  have HC1 := Lib.hid (fun W (hW : Below w.heap.size w W) => compareR_any a o ga go W (ha.later hW) (ho.later hW))
  have HC2 := Lib.hid (fun W (hW : Below w.heap.size w W) => compareR_any b o gb go W (hb.later hW) (ho.later hW))
  have HC3 := Lib.hid (fun W (hW : Below w.heap.size w W) => compareR_any a b ga gb W (ha.later hW) (hb.later hW))
  have HE : Hid (mergeT o a b = if sameT a o = true then (b, true) else if (sameT b o || sameT a b) = true then (a, true)
    else if (listB o.kind && listB a.kind && listB b.kind) = true ∧ (itemsM o.kids a.kids b.kids).length ≤ 20 then (.mk 7 0 0 ⟨#[]⟩ (itemsM o.kids a.kids b.kids), true)
    else if a.kind = 0 then (b, false) else (a, false)) := Lib.hid rfl
  have S1 : Hid (sameT a o = decide (cmpT a o = 0)) := Lib.hid rfl
  have S2 : Hid (sameT b o = decide (cmpT b o = 0)) := Lib.hid rfl
  have S3 : Hid (sameT a b = decide (cmpT a b = 0)) := Lib.hid rfl
  have HA := Lib.hid ha
  have HB := Lib.hid hb
  generalize hmt : mergeT o a b = mt at HE ⊢
  generalize cmpT a o = r1 at HC1 S1
  generalize cmpT b o = r2 at HC2 S2
  generalize cmpT a b = r3 at HC3 S3
  obtain ⟨ko, io, to1, so, lo, Ao, co, rfl, rfl, hzo, hso⟩ := ho.hand
  obtain ⟨ka, ia, ta1, sa, la, Aa, ca, rfl, rfl, hza, hsa⟩ := ha.hand
  obtain ⟨kb, ib1, tb1, sb, lb, Ab, cb, rfl, rfl, hzb, hsb⟩ := hb.hand
  have LO : lo.length ≤ 20 := Ro.few
  have LA : la.length ≤ 20 := Ra.few
  have LB : lb.length ≤ 20 := Rb.few
  have FO := Lib.hid (hso.toF (F := fun q => q < w.heap.size) (fun _ h => h))
  have FA := Lib.hid (hsa.toF (F := fun q => q < w.heap.size) (fun _ h => h))
  have FB := Lib.hid (hsb.toF (F := fun q => q < w.heap.size) (fun _ h => h))
  have HE2 : Hid (mt = if sameT (.mk ka ia ta1 sa la) (.mk ko io to1 so lo) = true then ((.mk kb ib1 tb1 sb lb : V), true) else if (sameT (.mk kb ib1 tb1 sb lb) (.mk ko io to1 so lo) || sameT (.mk ka ia ta1 sa la) (.mk kb ib1 tb1 sb lb)) = true then (.mk ka ia ta1 sa la, true)
    else if (listB ko && listB ka && listB kb) = true ∧ (itemsM lo la lb).length ≤ 20 then (.mk 7 0 0 ⟨#[]⟩ (itemsM lo la lb), true)
    else if ka = 0 then (.mk kb ib1 tb1 sb lb, false) else (.mk ka ia ta1 sa la, false)) := HE
  rw [S1.out, S2.out, S3.out, ← itemsR_eq] at HE2
  have HIR : Hid (itemsR lo la lb = addL (addL (addL [] (fun x => hasT la x && hasT lb x) lo) (fun x => !hasT lo x) la) (fun x => !hasT lo x) lb) := Lib.hid rfl
  generalize itemsR lo la lb = its at HE2 HIR
  have ho' := Lib.hid (show lo.length = lo.length from rfl)
  obtain ⟨no, hno⟩ : ∃ no, no = lo.length := ⟨_, rfl⟩
  obtain ⟨na, hna⟩ : ∃ na, na = la.length := ⟨_, rfl⟩
  obtain ⟨nb, hnb⟩ : ∃ nb, nb = lb.length := ⟨_, rfl⟩
  have HNO := Lib.hid hno
  have HNA := Lib.hid hna
  have HNB := Lib.hid hnb
  rw [← hno] at HC1 HC2 LO ⊢
  rw [← hna] at HC1 HC3 HA LA ⊢
  rw [← hnb] at HC2 HC3 HB LB ⊢
  clear ho ha hb Ro Ra Rb HE S1 S2 S3 hmt hso hsa hsb ho' hno hna hnb
  have HM0 := Lib.hid (mv_start w #[.int .i64 ko, .int .i64 io, .int .i64 to1, .string so, .slice Ao no co] #[.int .i64 ka, .int .i64 ia, .int .i64 ta1, .string sa, .slice Aa na ca] #[.int .i64 kb, .int .i64 ib1, .int .i64 tb1, .string sb, .slice Ab nb cb])
  go_enter Tryz.func78, Tryz.ntmps78
  go_wp2_with fail
  refine (HC1.out _ HM0.out.bel).mono ?_
  rintro e1 w1 ⟨rfl, hb1⟩
  have HM1 := Lib.hid (HM0.out.later hb1)
  clear hb1
  by_cases h1 : r1 = 0
  · subst h1
    obtain ⟨x0, x1, x2, x3, x4⟩ := five_cells HM1.out.b
    obtain ⟨z0, z1, z2, z3, z4⟩ := five_cells HM1.out.r
    obtain ⟨f0, f1, f2, f3, f4⟩ := five_frozen HM1.out.r
    go_wp2_with fail
    (try simp only [Exit.inBlock, Exit.then])
    refine bodyPost_ret (v := .tuple #[.agg #[.int .i64 kb, .int .i64 ib1, .int .i64 tb1, .string sb, .slice Ab nb cb], .bool true]) ?_ rfl ?_
    · simp [results, Tryz.f78]
      go_simp
    · have e : mt = (.mk kb ib1 tb1 sb lb, true) := by have := HE2.out; simpa using this
      rw [e]
      exact merge_done (by omega) HM1.out.bel (fun F g1 g2 => arg_later HB.out HM1.out.bel (by omega) g1 g2)
  · have q1 : (r1 == 0) = false := by simp [h1]
    obtain ⟨x0, x1, x2, x3, x4⟩ := five_cells HM1.out.b
    obtain ⟨y0, y1, y2, y3, y4⟩ := five_cells HM1.out.o
    go_wp2_with fail
    refine (HC2.out _ HM1.out.bel).mono ?_
    rintro e2 w2 ⟨rfl, hb2⟩
    have HM2 := Lib.hid (HM1.out.later hb2)
    clear hb2 x0 x1 x2 x3 x4 y0 y1 y2 y3 y4
    by_cases h2 : r2 = 0
    · subst h2
      obtain ⟨x0, x1, x2, x3, x4⟩ := five_cells HM2.out.a
      obtain ⟨z0, z1, z2, z3, z4⟩ := five_cells HM2.out.r
      obtain ⟨f0, f1, f2, f3, f4⟩ := five_frozen HM2.out.r
      go_wp2_with fail
      (try simp only [Exit.inBlock, Exit.then])
      refine bodyPost_ret (v := .tuple #[.agg #[.int .i64 ka, .int .i64 ia, .int .i64 ta1, .string sa, .slice Aa na ca], .bool true]) ?_ rfl ?_
      · simp [results, Tryz.f78]
        go_simp
      · have e : mt = (.mk ka ia ta1 sa la, true) := by have := HE2.out; simpa [h1] using this
        rw [e]
        exact merge_done (by omega) HM2.out.bel (fun F g1 g2 => arg_later HA.out HM2.out.bel (by omega) g1 g2)
    · have q2 : (r2 == 0) = false := by simp [h2]
      obtain ⟨x0, x1, x2, x3, x4⟩ := five_cells HM2.out.a
      obtain ⟨y0, y1, y2, y3, y4⟩ := five_cells HM2.out.b
      go_wp2_with fail
      refine (HC3.out _ HM2.out.bel).mono ?_
      rintro e3 w3 ⟨rfl, hb3⟩
      have HM3 := Lib.hid (HM2.out.later hb3)
      clear hb3 x0 x1 x2 x3 x4 y0 y1 y2 y3 y4
      by_cases h3 : r3 = 0
      · subst h3
        obtain ⟨x0, x1, x2, x3, x4⟩ := five_cells HM3.out.a
        obtain ⟨z0, z1, z2, z3, z4⟩ := five_cells HM3.out.r
        obtain ⟨f0, f1, f2, f3, f4⟩ := five_frozen HM3.out.r
        go_wp2_with fail
        (try simp only [Exit.inBlock, Exit.then])
        refine bodyPost_ret (v := .tuple #[.agg #[.int .i64 ka, .int .i64 ia, .int .i64 ta1, .string sa, .slice Aa na ca], .bool true]) ?_ rfl ?_
        · simp [results, Tryz.f78]
          go_simp
        · have e : mt = (.mk ka ia ta1 sa la, true) := by have := HE2.out; simpa [h1, h2] using this
          rw [e]
          exact merge_done (by omega) HM3.out.bel (fun F g1 g2 => arg_later HA.out HM3.out.bel (by omega) g1 g2)
      · have q3 : (r3 == 0) = false := by simp [h3]
        obtain ⟨x0, x1, x2, x3, x4⟩ := five_cells HM3.out.o
        obtain ⟨y0, y1, y2, y3, y4⟩ := five_cells HM3.out.a
        obtain ⟨u0, u1, u2, u3, u4⟩ := five_cells HM3.out.b
        clear HC1 HC2 HC3
        obtain ⟨SB, hSB⟩ : ∃ SB, SB = w3.heap.size := ⟨_, rfl⟩
        go_wp2_with fail
        go_loopw [43, 8] (fun iv lv wx => ∃ j : Nat, iv = .int .i64 j ∧ lv = .bool (ls3 ko ka kb j) ∧ j ≤ 3 ∧ Hid (MvBox w w.heap.size #[.int .i64 ko, .int .i64 io, .int .i64 to1, .string so, .slice Ao no co] #[.int .i64 ka, .int .i64 ia, .int .i64 ta1, .string sa, .slice Aa na ca] #[.int .i64 kb, .int .i64 ib1, .int .i64 tb1, .string sb, .slice Ab nb cb] wx ∧ wx.heap[w3.heap.size]? = some (.cells #[.int .i64 ko, .int .i64 io, .int .i64 to1, .string so, .slice Ao no co, .int .i64 ka, .int .i64 ia, .int .i64 ta1, .string sa, .slice Aa na ca, .int .i64 kb, .int .i64 ib1, .int .i64 tb1, .string sb, .slice Ab nb cb] 24 (0, 0)))) (fun iv _ _ => 3 - (intOf iv).toNat)
        case atStart => exact ⟨0, rfl, rfl, by omega, Lib.hid ⟨HM3.out.later ((Below.refl _ w3).alloc (Nat.le_refl _) _), heap_alloc_new w3 _⟩⟩
        case round =>
          obtain ⟨j, rfl, rfl, hj3, HR⟩ := hrel
          have hSBw := lt_of_blk' HR.out.2
          by_cases hj : j < 3
          · have p2 : (j : Int) < 3 := by omega
            obtain ⟨kj, ij, tj, sj, Aj, nj, cj, x0, x1, x2, x3, x4, hls⟩ : ∃ kj ij tj sj Aj nj cj, wr.cell? ⟨w3.heap.size, j * 5, none⟩ = some (.int .i64 kj) ∧ wr.cell? ⟨w3.heap.size, j * 5 + 1, none⟩ = some (.int .i64 ij) ∧ wr.cell? ⟨w3.heap.size, j * 5 + 2, none⟩ = some (.int .i64 tj) ∧ wr.cell? ⟨w3.heap.size, j * 5 + 3, none⟩ = some (.string sj) ∧ wr.cell? ⟨w3.heap.size, j * 5 + 4, none⟩ = some (.slice Aj nj cj) ∧ ls3 ko ka kb (j + 1) = (ls3 ko ka kb j && listB kj) := by
              have hb := HR.out.2
              rcases (show j = 0 ∨ j = 1 ∨ j = 2 by omega) with rfl | rfl | rfl
              · exact ⟨ko, io, to1, so, Ao, no, co, cell_of_row wr _ 0 _ _ (0, 0) hb, cell_of_row wr _ 1 _ _ (0, 0) hb, cell_of_row wr _ 2 _ _ (0, 0) hb, cell_of_row wr _ 3 _ _ (0, 0) hb, cell_of_row wr _ 4 _ _ (0, 0) hb, by simp [ls3]⟩
              · exact ⟨ka, ia, ta1, sa, Aa, na, ca, cell_of_row wr _ 5 _ _ (0, 0) hb, cell_of_row wr _ 6 _ _ (0, 0) hb, cell_of_row wr _ 7 _ _ (0, 0) hb, cell_of_row wr _ 8 _ _ (0, 0) hb, cell_of_row wr _ 9 _ _ (0, 0) hb, by simp [ls3]⟩
              · exact ⟨kb, ib1, tb1, sb, Ab, nb, cb, cell_of_row wr _ 10 _ _ (0, 0) hb, cell_of_row wr _ 11 _ _ (0, 0) hb, cell_of_row wr _ 12 _ _ (0, 0) hb, cell_of_row wr _ 13 _ _ (0, 0) hb, cell_of_row wr _ 14 _ _ (0, 0) hb, by simp [ls3]⟩
            have HLS := Lib.hid hls
            have HNX : Hid (∀ o, MvBox w w.heap.size #[.int .i64 ko, .int .i64 io, .int .i64 to1, .string so, .slice Ao no co] #[.int .i64 ka, .int .i64 ia, .int .i64 ta1, .string sa, .slice Aa na ca] #[.int .i64 kb, .int .i64 ib1, .int .i64 tb1, .string sb, .slice Ab nb cb] (wr.alloc o) ∧ (wr.alloc o).heap[w3.heap.size]? = some (.cells #[.int .i64 ko, .int .i64 io, .int .i64 to1, .string so, .slice Ao no co, .int .i64 ka, .int .i64 ia, .int .i64 ta1, .string sa, .slice Aa na ca, .int .i64 kb, .int .i64 ib1, .int .i64 tb1, .string sb, .slice Ab nb cb] 24 (0, 0))) := Lib.hid (fun o => ⟨HR.out.1.later ((Below.refl _ wr).alloc (Nat.le_refl _) _), (Below.heap_alloc _ _ _ hSBw).trans HR.out.2⟩)
            clear hls HR
            rcases hl : ls3 ko ka kb j with _ | _
            · go_wp2_with fail
              go_roundw
              case rel => exact ⟨j + 1, by go_num, by rw [HLS.out, hl]; rfl, by omega, Lib.hid (HNX.out _)⟩
              case measure => simp [intOf]; omega
            · by_cases hk7 : kj = 7
              · subst hk7
                go_wp2_with fail
                go_roundw
                case rel => exact ⟨j + 1, by go_num, by rw [HLS.out, hl]; rfl, by omega, Lib.hid (HNX.out _)⟩
                case measure => simp [intOf]; omega
              · by_cases hk0 : kj = 0
                · subst hk0
                  go_wp2_with fail
                  go_roundw
                  case rel => exact ⟨j + 1, by go_num, by rw [HLS.out, hl]; rfl, by omega, Lib.hid (HNX.out _)⟩
                  case measure => simp [intOf]; omega
                · have e7 : (kj == 7) = false := by simp [hk7]
                  have e0 : (kj == 0) = false := by simp [hk0]
                  go_wp2_with fail
                  go_roundw
                  case rel => exact ⟨j + 1, by go_num, by rw [HLS.out, hl]; simp [listB, hk7, hk0], by omega, Lib.hid (HNX.out _)⟩
                  case measure => simp [intOf]; omega
          · obtain rfl : j = 3 := by omega
            have HM4 := Lib.hid HR.out.1
            clear HR
            rcases hl : ls3 ko ka kb 3 with _ | _
            · have hl' : (listB ko && listB ka && listB kb) = false := hl
              by_cases hk0 : ka = 0
              · subst hk0
                obtain ⟨y0, y1, y2, y3, y4⟩ := five_cells HM4.out.a
                obtain ⟨x0, x1, x2, x3, x4⟩ := five_cells HM4.out.b
                obtain ⟨z0, z1, z2, z3, z4⟩ := five_cells HM4.out.r
                obtain ⟨f0, f1, f2, f3, f4⟩ := five_frozen HM4.out.r
                go_wp2_with fail
                (try simp only [Exit.inBlock, Exit.then])
                refine bodyPost_ret (v := .tuple #[.agg #[.int .i64 kb, .int .i64 ib1, .int .i64 tb1, .string sb, .slice Ab nb cb], .bool false]) ?_ rfl ?_
                · simp [results, Tryz.f78]
                  go_simp
                · have e : mt = (.mk kb ib1 tb1 sb lb, false) := by have := HE2.out; simpa [h1, h2, h3, hl'] using this
                  rw [e]
                  exact merge_done (by omega) HM4.out.bel (fun F g1 g2 => arg_later HB.out HM4.out.bel (by omega) g1 g2)
              · obtain ⟨y0, y1, y2, y3, y4⟩ := five_cells HM4.out.a
                obtain ⟨x0, x1, x2, x3, x4⟩ := five_cells HM4.out.a
                obtain ⟨z0, z1, z2, z3, z4⟩ := five_cells HM4.out.r
                obtain ⟨f0, f1, f2, f3, f4⟩ := five_frozen HM4.out.r
                go_wp2_with fail
                (try simp only [Exit.inBlock, Exit.then])
                refine bodyPost_ret (v := .tuple #[.agg #[.int .i64 ka, .int .i64 ia, .int .i64 ta1, .string sa, .slice Aa na ca], .bool false]) ?_ rfl ?_
                · simp [results, Tryz.f78]
                  go_simp
                · have e : mt = (.mk ka ia ta1 sa la, false) := by have := HE2.out; simpa [h1, h2, h3, hl', hk0] using this
                  rw [e]
                  exact merge_done (by omega) HM4.out.bel (fun F g1 g2 => arg_later HA.out HM4.out.bel (by omega) g1 g2)
            · have hl' : (listB ko && listB ka && listB kb) = true := hl
              have hstf : ∀ (W : World) (q : Addr) (m : Mode), (store q (.func (Fn.func 135) #[] #[]) m).run Tryz.prog W = stored Tryz.prog W q (.func (Fn.func 135) #[] #[]) m := fun W q m => run_store Tryz.prog W q _ m rfl
              have lo4 := lt_of_blk' HM4.out.o
              have no4 : w.heap.size ≠ wr.heap.size := by omega
              have no5 : wr.heap.size ≠ w.heap.size := by omega
              obtain ⟨x0, x1, x2, x3, x4⟩ := five_cells HM4.out.o
              go_wp2_with fail
              obtain ⟨hx, hhx⟩ : ∃ hx, hx = wr.heap.size := ⟨_, rfl⟩
              obtain ⟨W0, hW0⟩ : ∃ W0, W0 = (wr.alloc (.cells #[.func (Fn.func 135) #[] #[]] 212)).alloc (.cells #[.int .i64 7, .int .i64 0, .int .i64 0, .string ⟨#[]⟩, .slice none 0 0] 24) := ⟨_, rfl⟩
              have hs0 : W0.heap.size = wr.heap.size + 2 := by rw [hW0]; simp
              have hBm := HM4.out.bel.size
              have hr4 := lt_of_blk' HM4.out.r
              have hh0 : W0.heap[wr.heap.size]? = some (.cells #[.func (Fn.func 135) #[] #[]] 212 (0, 0)) := by
                rw [hW0, Below.heap_alloc _ _ _ (by simp)]
                exact heap_alloc_new wr _
              have ho0 : W0.heap[wr.heap.size + 1]? = some (.cells #[.int .i64 7, .int .i64 0, .int .i64 0, .string ⟨#[]⟩, .slice none 0 0] 24 (0, 0)) := by
                rw [hW0]
                have := heap_alloc_new (wr.alloc (.cells #[.func (Fn.func 135) #[] #[]] 212)) (.cells #[.int .i64 7, .int .i64 0, .int .i64 0, .string ⟨#[]⟩, .slice none 0 0] 24)
                simpa using this
              have hbw0 : Below wr.heap.size wr W0 := by rw [hW0]; exact ((Below.refl _ wr).alloc (Nat.le_refl _) _).alloc (by simp) _
              have HMW := Lib.hid (HM4.out.later hbw0)
              have HS0 : Hid (ItemSt W0 (wr.heap.size + 1) (wr.heap.size + 2) w.heap.size 24 preO [] [] W0) := Lib.hid ⟨rfl, rfl, rfl, by omega, by omega, fun _ _ _ => rfl, fun _ => False, [], none, 0, ho0, World.ownsRow_nil _ _ _ _, rfl, fun _ h => h.elim, fun _ h => by simp [Value.ownBlock] at h⟩
              have HHB := Lib.hid hh0
              have GO := Lib.hid (FO.out.keep (w' := W0) (fun q hq => HMW.out.bel.block q hq) (fun _ h => h))
              have GA := Lib.hid (FA.out.keep (w' := W0) (fun q hq => HMW.out.bel.block q hq) (fun _ h => h))
              have GB := Lib.hid (FB.out.keep (w' := W0) (fun q hq => HMW.out.bel.block q hq) (fun _ h => h))
              rw [← hW0]
              rw [← hhx] at HS0 HHB hs0 hr4 hBm ⊢
              have en135 : ∀ (ys : Array Value) (W : World), (callFunc 135 ys).run Tryz.prog W = .ok (.enter 135 ys) W := enters_of Tryz.func135 (by kernel_rfl) rfl
              have en138 : ∀ (ys : Array Value) (W : World), (callFunc 138 ys).run Tryz.prog W = .ok (.enter 138 ys) W := enters_of Tryz.func138 (by kernel_rfl) rfl
              have hL0 : ([] : List V).length ≤ 20 := by simp
              clear hh0 ho0 hbw0 hW0 HM4 hhx FO FA FB hl x0 x1 x2 x3 x4 lo4 no4 no5 hstf
              go_loopw [65] (fun iv wx => ∃ j : Nat, iv = .int .i64 j ∧ j ≤ no ∧ Hid (ItemSt W0 (hx + 1) (hx + 2) w.heap.size 24 preO [] (addL [] (fun x => hasT la x && hasT lb x) (lo.take j)) wx)) (fun iv _ => no - (intOf iv).toNat)
              case atStart => exact ⟨0, rfl, Nat.zero_le _, Lib.hid (by simpa [addL] using HS0.out)⟩
              case round =>
                obtain ⟨j, rfl, hjl, HR⟩ := hrel
                by_cases hj : j < no
                · have hj2 : j < lo.length := by rw [← HNO.out]; exact hj
                  have p2 : (j : Int) < no := by omega
                  have hszb := HR.out.size
                  obtain ⟨b, off, kx, ix, tx, sx, lx, Ax, cx, rfl, hx2, hlt, g0, g1, g2, g3, g4, gz, gsF⟩ := src_item HR.out (by omega) (by omega) GO.out hj2
                  have HMr := Lib.hid (mv_of_st HMW.out HR.out (by omega) (by omega))
                  have hfb := (HR.out.block hx (by omega) (by omega)).trans HHB.out
                  have HX2 := Lib.hid hx2
                  have HSF := Lib.hid gsF
                  have hAD := addL_take hj2 [] (fun x => hasT la x && hasT lb x)
                  have HLEN := addL_len (fun x => hasT la x && hasT lb x) (lo.take j) []
                  rw [List.length_take] at HLEN
                  have hb0 : ∀ o, Below wr.heap.size wr (wr.alloc o) := fun o => (Below.refl _ wr).alloc (Nat.le_refl _) o
                  have hvx : VAt wr wr.heap.size (.mk kx ix tx sx lx) (.agg #[.int .i64 kx, .int .i64 ix, .int .i64 tx, .string sx, .slice Ax lx.length cx]) := ⟨gz, _, rfl, gsF.toAt (fun q hq => by omega)⟩
                  have HTA := Lib.hid (fun (W : World) (hW : Below wr.heap.size wr W) => hasR_any la Aa ca (.mk kx ix tx sx lx) _ W (((HR.out.src (by omega) (by omega) GA.out).below hW (Nat.le_refl _)).up hW.size) (hvx.later hW))
                  have HTB := Lib.hid (fun (W : World) (hW : Below wr.heap.size wr W) => hasR_any lb Ab cb (.mk kx ix tx sx lx) _ W (((HR.out.src (by omega) (by omega) GB.out).below hW (Nat.le_refl _)).up hW.size) (hvx.later hW))
                  have HADD := Lib.hid (fun (W : World) (hS : ItemSt W0 (hx + 1) (hx + 2) w.heap.size 24 preO [] (addL [] (fun x => hasT la x && hasT lb x) (lo.take j)) W) (hF : SlF W (fun q => q < w.heap.size) lx (.slice Ax lx.length cx)) => addR_any (.mk kx ix tx sx lx) _ hx (hx + 1) (hx + 2) w.heap.size _ W0 W hS (by omega) (by omega) (by omega) (by omega) HHB.out kx ix tx sx lx Ax cx rfl rfl gz hF (by omega))
                  rw [hx2] at hAD
                  obtain ⟨mx, hmx⟩ : ∃ mx, mx = lx.length := ⟨_, rfl⟩
                  rw [← hmx] at g4 HTA HTB HADD HSF
                  rw [← HNA.out] at HTA; rw [← HNB.out] at HTB; have hq0 : True := trivial
                  have HR2 := Lib.hid HR.out
                  have HAD := Lib.hid hAD
                  have lfb := lt_of_blk' hfb
                  have fx0 := cell_of_row wr hx 0 _ _ (0, 0) hfb
                  have lba := lt_of_blk' HMr.out.a
                  obtain ⟨y0, y1, y2, y3, y4⟩ := five_cells HMr.out.a
                  clear HR hvx gsF hmx hx2 hAD
                  rcases qa : hasT la (.mk kx ix tx sx lx) with _ | _
                  · rw [qa] at HTA
                    go_wp2_with fail
                    refine (HTA.out _ (hb0 _)).mono ?_
                    rintro e6 w6 ⟨rfl, hb6⟩
                    have HBX6 := Lib.hid ((hb6.block wr.heap.size (by simp)).trans (heap_alloc_new wr _))
                    have HB6 := Lib.hid ((hb0 (.cells #[.int .i64 kx, .int .i64 ix, .int .i64 tx, .string sx, .slice Ax mx cx] 24)).trans (hb6.mono (by simp)))
                    clear hb6
                    have HNX : Hid (ItemSt W0 (hx + 1) (hx + 2) w.heap.size 24 preO [] (addL [] (fun x => hasT la x && hasT lb x) (lo.take (j + 1))) w6) := Lib.hid (by rw [HAD.out]; simp only [qa, Bool.false_and, Bool.false_eq_true, if_false]; exact HR2.out.later HB6.out)
                    go_wp2_with fail
                    go_roundw
                    case rel => exact ⟨_, _, _, _, _, _, _, _, _, _, _, _, _, _, _, _, _, _, _, _, _, ⟨j + 1, by go_num, hj, HNX⟩, rfl⟩
                    case measure => simp [intOf]; omega
                  · rw [qa] at HTA
                    go_wp2_with fail
                    refine (HTA.out _ (hb0 _)).mono ?_
                    rintro e6 w6 ⟨rfl, hb6⟩
                    have HBX6 := Lib.hid ((hb6.block wr.heap.size (by simp)).trans (heap_alloc_new wr _))
                    have HB6 := Lib.hid ((hb0 (.cells #[.int .i64 kx, .int .i64 ix, .int .i64 tx, .string sx, .slice Ax mx cx] 24)).trans (hb6.mono (by simp)))
                    clear hb6
                    have lb2 := lt_of_blk' HMr.out.b
                    obtain ⟨u0, u1, u2, u3, u4⟩ := five_cells ((HB6.out.block _ lb2).trans HMr.out.b)
                    obtain ⟨x0, x1, x2, x3, x4⟩ := five_cells HBX6.out
                    have fx6 := cell_of_row w6 hx 0 _ _ (0, 0) ((HB6.out.block _ lfb).trans hfb)
                    rcases qb : hasT lb (.mk kx ix tx sx lx) with _ | _
                    · rw [qb] at HTB
                      go_wp2_with fail
                      refine (HTB.out w6 HB6.out).mono ?_
                      rintro e7 w7 ⟨rfl, hb7⟩
                      have HB7 := Lib.hid (HB6.out.trans (hb7.mono HB6.out.size))
                      clear hb7
                      have HNX : Hid (ItemSt W0 (hx + 1) (hx + 2) w.heap.size 24 preO [] (addL [] (fun x => hasT la x && hasT lb x) (lo.take (j + 1))) w7) := Lib.hid (by rw [HAD.out]; simp only [qa, qb, Bool.and_false, Bool.false_and, Bool.false_eq_true, if_false]; exact HR2.out.later HB7.out)
                      go_wp2_with fail
                      go_roundw
                      case rel => exact ⟨_, _, _, _, _, _, _, _, _, _, _, _, _, _, _, _, _, _, _, _, _, ⟨j + 1, by go_num, hj, HNX⟩, rfl⟩
                      case measure => simp [intOf]; omega
                    · rw [qb] at HTB
                      go_wp2_with fail
                      refine (HTB.out w6 HB6.out).mono ?_
                      rintro e7 w7 ⟨rfl, hb7⟩
                      have HBX7 := Lib.hid ((hb7.block _ (lt_of_blk' HBX6.out)).trans HBX6.out)
                      have HB7 := Lib.hid (HB6.out.trans (hb7.mono HB6.out.size))
                      clear hb7 x0 x1 x2 x3 x4
                      have HF7 := Lib.hid (HSF.out.keep (w' := w7) (fun q hq => HB7.out.block q (by omega)) (fun _ h => h))
                      have HS7 := Lib.hid (HR2.out.later HB7.out)
                      obtain ⟨x0, x1, x2, x3, x4⟩ := five_cells HBX7.out
                      go_wp2_with fail
                      refine (HADD.out w7 HS7.out HF7.out).mono ?_
                      rintro e9 w9 ⟨rfl, hS9⟩
                      have HNX : Hid (ItemSt W0 (hx + 1) (hx + 2) w.heap.size 24 preO [] (addL [] (fun x => hasT la x && hasT lb x) (lo.take (j + 1))) w9) := Lib.hid (by rw [HAD.out]; simpa only [qa, qb, Bool.true_and, Bool.not_false, Bool.and_self] using hS9)
                      clear hS9
                      go_wp2_with fail
                      go_roundw
                      case rel => exact ⟨_, _, _, _, _, _, _, _, _, _, _, _, _, _, _, _, _, _, _, _, _, ⟨j + 1, by go_num, hj, HNX⟩, rfl⟩
                      case measure => simp [intOf]; omega
                · obtain rfl : no = j := by omega
                  have p2 : ¬ (no : Int) < no := by omega
                  have HS1 : Hid (ItemSt W0 (hx + 1) (hx + 2) w.heap.size 24 preO [] (addL [] (fun x => hasT la x && hasT lb x) lo) wr) := Lib.hid (by have := HR.out; rwa [HNO.out, List.take_length] at this)
                  have hszb := HR.out.size
                  have HM5 := Lib.hid (mv_of_st HMW.out HR.out (by omega) (by omega))
                  have hL1 : (addL [] (fun x => hasT la x && hasT lb x) lo).length ≤ 20 + 20 * 1 := by have := addL_len (fun x => hasT la x && hasT lb x) lo []; have := HNO.out; omega
                  generalize hLL1 : addL [] (fun x => hasT la x && hasT lb x) lo = L1 at HS1 hL1
                  have HLE1 := Lib.hid hLL1
                  clear HR hLL1 hL0
                  obtain ⟨x0, x1, x2, x3, x4⟩ := five_cells HM5.out.a
                  go_wp2_with fail
                  go_loopw [88] (fun iv wx => ∃ j : Nat, iv = .int .i64 j ∧ j ≤ na ∧ Hid (ItemSt W0 (hx + 1) (hx + 2) w.heap.size 24 preO [] (addL L1 (fun x => !hasT lo x) (la.take j)) wx)) (fun iv _ => na - (intOf iv).toNat)
                  case atStart => exact ⟨0, rfl, Nat.zero_le _, Lib.hid (by simpa [addL] using HS1.out)⟩
                  case round =>
                    obtain ⟨j, rfl, hjl, HR⟩ := hrel
                    by_cases hj : j < na
                    · have hj2 : j < la.length := by rw [← HNA.out]; exact hj
                      have p2 : (j : Int) < na := by omega
                      have hszb := HR.out.size
                      obtain ⟨b, off, kx, ix, tx, sx, lx, Ax, cx, rfl, hx2, hlt, g0, g1, g2, g3, g4, gz, gsF⟩ := src_item HR.out (by omega) (by omega) GA.out hj2
                      have HMr := Lib.hid (mv_of_st HMW.out HR.out (by omega) (by omega))
                      have hfb := (HR.out.block hx (by omega) (by omega)).trans HHB.out
                      have HX2 := Lib.hid hx2
                      have HSF := Lib.hid gsF
                      have hAD := addL_take hj2 L1 (fun x => !hasT lo x)
                      have HLEN := addL_len (fun x => !hasT lo x) (la.take j) L1
                      rw [List.length_take] at HLEN
                      have hb0 : ∀ o, Below wr.heap.size wr (wr.alloc o) := fun o => (Below.refl _ wr).alloc (Nat.le_refl _) o
                      have hvx : VAt wr wr.heap.size (.mk kx ix tx sx lx) (.agg #[.int .i64 kx, .int .i64 ix, .int .i64 tx, .string sx, .slice Ax lx.length cx]) := ⟨gz, _, rfl, gsF.toAt (fun q hq => by omega)⟩
                      have HTO := Lib.hid (fun (W : World) (hW : Below wr.heap.size wr W) => hasR_any lo Ao co (.mk kx ix tx sx lx) _ W (((HR.out.src (by omega) (by omega) GO.out).below hW (Nat.le_refl _)).up hW.size) (hvx.later hW))
                      have HADD := Lib.hid (fun (W : World) (hS : ItemSt W0 (hx + 1) (hx + 2) w.heap.size 24 preO [] (addL L1 (fun x => !hasT lo x) (la.take j)) W) (hF : SlF W (fun q => q < w.heap.size) lx (.slice Ax lx.length cx)) => addR_any (.mk kx ix tx sx lx) _ hx (hx + 1) (hx + 2) w.heap.size _ W0 W hS (by omega) (by omega) (by omega) (by omega) HHB.out kx ix tx sx lx Ax cx rfl rfl gz hF (by omega))
                      rw [hx2] at hAD
                      obtain ⟨mx, hmx⟩ : ∃ mx, mx = lx.length := ⟨_, rfl⟩
                      rw [← hmx] at g4 HTO HADD HSF
                      rw [← HNO.out] at HTO; have hq0 : True := trivial
                      have HR2 := Lib.hid HR.out
                      have HAD := Lib.hid hAD
                      have lfb := lt_of_blk' hfb
                      have fx0 := cell_of_row wr hx 0 _ _ (0, 0) hfb
                      have lba := lt_of_blk' HMr.out.o
                      obtain ⟨y0, y1, y2, y3, y4⟩ := five_cells HMr.out.o
                      clear HR hvx gsF hmx hx2 hAD
                      rcases qo : hasT lo (.mk kx ix tx sx lx) with _ | _
                      · rw [qo] at HTO
                        go_wp2_with fail
                        refine (HTO.out _ (hb0 _)).mono ?_
                        rintro e6 w6 ⟨rfl, hb6⟩
                        have HBX6 := Lib.hid ((hb6.block wr.heap.size (by simp)).trans (heap_alloc_new wr _))
                        have HB6 := Lib.hid ((hb0 (.cells #[.int .i64 kx, .int .i64 ix, .int .i64 tx, .string sx, .slice Ax mx cx] 24)).trans (hb6.mono (by simp)))
                        clear hb6
                        have HF6 := Lib.hid (HSF.out.keep (w' := w6) (fun q hq => HB6.out.block q (by omega)) (fun _ h => h))
                        have HS6 := Lib.hid (HR2.out.later HB6.out)
                        obtain ⟨x0, x1, x2, x3, x4⟩ := five_cells HBX6.out
                        go_wp2_with fail
                        refine (HADD.out w6 HS6.out HF6.out).mono ?_
                        rintro e9 w9 ⟨rfl, hS9⟩
                        have HNX : Hid (ItemSt W0 (hx + 1) (hx + 2) w.heap.size 24 preO [] (addL L1 (fun x => !hasT lo x) (la.take (j + 1))) w9) := Lib.hid (by rw [HAD.out]; simpa only [qo, Bool.true_and, Bool.not_false, Bool.and_self] using hS9)
                        clear hS9
                        go_wp2_with fail
                        go_roundw
                        case rel => exact ⟨j + 1, by go_num, hj, HNX⟩
                        case measure => simp [intOf]; omega
                      · rw [qo] at HTO
                        go_wp2_with fail
                        refine (HTO.out _ (hb0 _)).mono ?_
                        rintro e6 w6 ⟨rfl, hb6⟩
                        have HBX6 := Lib.hid ((hb6.block wr.heap.size (by simp)).trans (heap_alloc_new wr _))
                        have HB6 := Lib.hid ((hb0 (.cells #[.int .i64 kx, .int .i64 ix, .int .i64 tx, .string sx, .slice Ax mx cx] 24)).trans (hb6.mono (by simp)))
                        clear hb6
                        have HNX : Hid (ItemSt W0 (hx + 1) (hx + 2) w.heap.size 24 preO [] (addL L1 (fun x => !hasT lo x) (la.take (j + 1))) w6) := Lib.hid (by rw [HAD.out]; simp only [qo, Bool.not_true, Bool.false_and, Bool.false_eq_true, if_false]; exact HR2.out.later HB6.out)
                        go_wp2_with fail
                        go_roundw
                        case rel => exact ⟨j + 1, by go_num, hj, HNX⟩
                        case measure => simp [intOf]; omega
                    · obtain rfl : na = j := by omega
                      have p2 : ¬ (na : Int) < na := by omega
                      have HS2 : Hid (ItemSt W0 (hx + 1) (hx + 2) w.heap.size 24 preO [] (addL L1 (fun x => !hasT lo x) la) wr) := Lib.hid (by have := HR.out; rwa [HNA.out, List.take_length] at this)
                      have hszb := HR.out.size
                      have HM6 := Lib.hid (mv_of_st HMW.out HR.out (by omega) (by omega))
                      have hL2 : (addL L1 (fun x => !hasT lo x) la).length ≤ 20 + 20 * 2 := by have := addL_len (fun x => !hasT lo x) la L1; have := HNA.out; omega
                      generalize hLL2 : addL L1 (fun x => !hasT lo x) la = L2 at HS2 hL2
                      have HLE2 := Lib.hid hLL2
                      clear HR hLL2 hL1
                      obtain ⟨x0, x1, x2, x3, x4⟩ := five_cells HM6.out.b
                      go_wp2_with fail
                      go_loopw [105] (fun iv wx => ∃ j : Nat, iv = .int .i64 j ∧ j ≤ nb ∧ Hid (ItemSt W0 (hx + 1) (hx + 2) w.heap.size 24 preO [] (addL L2 (fun x => !hasT lo x) (lb.take j)) wx)) (fun iv _ => nb - (intOf iv).toNat)
                      case atStart => exact ⟨0, rfl, Nat.zero_le _, Lib.hid (by simpa [addL] using HS2.out)⟩
                      case round =>
                        obtain ⟨j, rfl, hjl, HR⟩ := hrel
                        by_cases hj : j < nb
                        · have hj2 : j < lb.length := by rw [← HNB.out]; exact hj
                          have p2 : (j : Int) < nb := by omega
                          have hszb := HR.out.size
                          obtain ⟨b, off, kx, ix, tx, sx, lx, Ax, cx, rfl, hx2, hlt, g0, g1, g2, g3, g4, gz, gsF⟩ := src_item HR.out (by omega) (by omega) GB.out hj2
                          have HMr := Lib.hid (mv_of_st HMW.out HR.out (by omega) (by omega))
                          have hfb := (HR.out.block hx (by omega) (by omega)).trans HHB.out
                          have HX2 := Lib.hid hx2
                          have HSF := Lib.hid gsF
                          have hAD := addL_take hj2 L2 (fun x => !hasT lo x)
                          have HLEN := addL_len (fun x => !hasT lo x) (lb.take j) L2
                          rw [List.length_take] at HLEN
                          have hb0 : ∀ o, Below wr.heap.size wr (wr.alloc o) := fun o => (Below.refl _ wr).alloc (Nat.le_refl _) o
                          have hvx : VAt wr wr.heap.size (.mk kx ix tx sx lx) (.agg #[.int .i64 kx, .int .i64 ix, .int .i64 tx, .string sx, .slice Ax lx.length cx]) := ⟨gz, _, rfl, gsF.toAt (fun q hq => by omega)⟩
                          have HTO := Lib.hid (fun (W : World) (hW : Below wr.heap.size wr W) => hasR_any lo Ao co (.mk kx ix tx sx lx) _ W (((HR.out.src (by omega) (by omega) GO.out).below hW (Nat.le_refl _)).up hW.size) (hvx.later hW))
                          have HADD := Lib.hid (fun (W : World) (hS : ItemSt W0 (hx + 1) (hx + 2) w.heap.size 24 preO [] (addL L2 (fun x => !hasT lo x) (lb.take j)) W) (hF : SlF W (fun q => q < w.heap.size) lx (.slice Ax lx.length cx)) => addR_any (.mk kx ix tx sx lx) _ hx (hx + 1) (hx + 2) w.heap.size _ W0 W hS (by omega) (by omega) (by omega) (by omega) HHB.out kx ix tx sx lx Ax cx rfl rfl gz hF (by omega))
                          rw [hx2] at hAD
                          obtain ⟨mx, hmx⟩ : ∃ mx, mx = lx.length := ⟨_, rfl⟩
                          rw [← hmx] at g4 HTO HADD HSF
                          rw [← HNO.out] at HTO; have hq0 : True := trivial
                          have HR2 := Lib.hid HR.out
                          have HAD := Lib.hid hAD
                          have lfb := lt_of_blk' hfb
                          have fx0 := cell_of_row wr hx 0 _ _ (0, 0) hfb
                          have lba := lt_of_blk' HMr.out.o
                          obtain ⟨y0, y1, y2, y3, y4⟩ := five_cells HMr.out.o
                          clear HR hvx gsF hmx hx2 hAD
                          rcases qo : hasT lo (.mk kx ix tx sx lx) with _ | _
                          · rw [qo] at HTO
                            go_wp2_with fail
                            refine (HTO.out _ (hb0 _)).mono ?_
                            rintro e6 w6 ⟨rfl, hb6⟩
                            have HBX6 := Lib.hid ((hb6.block wr.heap.size (by simp)).trans (heap_alloc_new wr _))
                            have HB6 := Lib.hid ((hb0 (.cells #[.int .i64 kx, .int .i64 ix, .int .i64 tx, .string sx, .slice Ax mx cx] 24)).trans (hb6.mono (by simp)))
                            clear hb6
                            have HF6 := Lib.hid (HSF.out.keep (w' := w6) (fun q hq => HB6.out.block q (by omega)) (fun _ h => h))
                            have HS6 := Lib.hid (HR2.out.later HB6.out)
                            obtain ⟨x0, x1, x2, x3, x4⟩ := five_cells HBX6.out
                            go_wp2_with fail
                            refine (HADD.out w6 HS6.out HF6.out).mono ?_
                            rintro e9 w9 ⟨rfl, hS9⟩
                            have HNX : Hid (ItemSt W0 (hx + 1) (hx + 2) w.heap.size 24 preO [] (addL L2 (fun x => !hasT lo x) (lb.take (j + 1))) w9) := Lib.hid (by rw [HAD.out]; simpa only [qo, Bool.true_and, Bool.not_false, Bool.and_self] using hS9)
                            clear hS9
                            go_wp2_with fail
                            go_roundw
                            case rel => exact ⟨j + 1, by go_num, hj, HNX⟩
                            case measure => simp [intOf]; omega
                          · rw [qo] at HTO
                            go_wp2_with fail
                            refine (HTO.out _ (hb0 _)).mono ?_
                            rintro e6 w6 ⟨rfl, hb6⟩
                            have HBX6 := Lib.hid ((hb6.block wr.heap.size (by simp)).trans (heap_alloc_new wr _))
                            have HB6 := Lib.hid ((hb0 (.cells #[.int .i64 kx, .int .i64 ix, .int .i64 tx, .string sx, .slice Ax mx cx] 24)).trans (hb6.mono (by simp)))
                            clear hb6
                            have HNX : Hid (ItemSt W0 (hx + 1) (hx + 2) w.heap.size 24 preO [] (addL L2 (fun x => !hasT lo x) (lb.take (j + 1))) w6) := Lib.hid (by rw [HAD.out]; simp only [qo, Bool.not_true, Bool.false_and, Bool.false_eq_true, if_false]; exact HR2.out.later HB6.out)
                            go_wp2_with fail
                            go_roundw
                            case rel => exact ⟨j + 1, by go_num, hj, HNX⟩
                            case measure => simp [intOf]; omega
                        · obtain rfl : nb = j := by omega
                          have p2 : ¬ (nb : Int) < nb := by omega
                          have HS3 : Hid (ItemSt W0 (hx + 1) (hx + 2) w.heap.size 24 preO [] (addL L2 (fun x => !hasT lo x) lb) wr) := Lib.hid (by have := HR.out; rwa [HNB.out, List.take_length] at this)
                          have hszb := HR.out.size
                          have HM7 := Lib.hid (mv_of_st HMW.out HR.out (by omega) (by omega))
                          have hL3 : (addL L2 (fun x => !hasT lo x) lb).length ≤ 20 + 20 * 3 := by have := addL_len (fun x => !hasT lo x) lb L2; have := HNB.out; omega
                          generalize hLL3 : addL L2 (fun x => !hasT lo x) lb = L3 at HS3 hL3
                          have HLE3 := Lib.hid hLL3
                          clear HR hLL3 hL2
                          have hits : its = L3 := by rw [HIR.out, HLE1.out, HLE2.out, HLE3.out]
                          obtain ⟨F, xs, A6, c6, k1, k2, k3, k4, k5⟩ := HS3.out.rep
                          obtain ⟨v0, v1, v2, v3, v4⟩ : wr.cell? ⟨hx + 1, 0, none⟩ = some (.int .i64 7) ∧ wr.cell? ⟨hx + 1, 1, none⟩ = some (.int .i64 0) ∧ wr.cell? ⟨hx + 1, 2, none⟩ = some (.int .i64 0) ∧ wr.cell? ⟨hx + 1, 3, none⟩ = some (.string ⟨#[]⟩) ∧ wr.cell? ⟨hx + 1, 4, none⟩ = some (.slice A6 L3.length c6) := five_cells k1
                          have HSL := Lib.hid (vown_slF (G := fun q => (q < w.heap.size ∨ hx + 2 ≤ q) ∧ q < wr.heap.size) k2 k3 (fun q hq => by have := k4 q hq; omega) (fun g g1 g2 => by omega) (by omega))
                          obtain ⟨nz, hnz⟩ : ∃ nz, nz = L3.length := ⟨_, rfl⟩
                          have HNZ := Lib.hid hnz
                          rw [← hnz] at v4 HSL
                          clear k1 k2 k3 k4 k5 hnz
                          by_cases hfew : nz ≤ 20
                          · have p3 : (nz : Int) ≤ 20 := by omega
                            obtain ⟨z0, z1, z2, z3, z4⟩ := five_cells HM7.out.r
                            obtain ⟨f0, f1, f2, f3, f4⟩ := five_frozen HM7.out.r
                            go_wp2_with fail
                            (try simp only [Exit.inBlock, Exit.then])
                            refine bodyPost_ret (v := .tuple #[.agg #[.int .i64 7, .int .i64 0, .int .i64 0, .string ⟨#[]⟩, .slice A6 nz c6], .bool true]) ?_ rfl ?_
                            · simp [results, Tryz.f78]
                              go_simp
                            · have e : mt = (.mk 7 0 0 ⟨#[]⟩ L3, true) := by
                                have := HE2.out
                                have hln : L3.length ≤ 20 := by rw [← HNZ.out]; exact hfew
                                rw [hits] at this
                                simpa [h1, h2, h3, hl', hln] using this
                              rw [e]
                              refine merge_done (by omega) HM7.out.bel (fun F g1 g2 => ⟨by decide, _, rfl, ?_⟩)
                              have := (HSL.out.keep (w' := F) (G := fun q => q < F.heap.size) (fun q hq => g1 q (by omega)) (fun q hq => by omega)).toAt (B := F.heap.size) (fun _ h => h)
                              exact this
                          · have p3 : ¬ (nz : Int) ≤ 20 := by omega
                            have hln : ¬ its.length ≤ 20 := by rw [hits, ← HNZ.out]; exact hfew
                            by_cases hk0 : ka = 0
                            · subst hk0
                              obtain ⟨y0, y1, y2, y3, y4⟩ := five_cells HM7.out.a
                              obtain ⟨x0, x1, x2, x3, x4⟩ := five_cells HM7.out.b
                              obtain ⟨z0, z1, z2, z3, z4⟩ := five_cells HM7.out.r
                              obtain ⟨f0, f1, f2, f3, f4⟩ := five_frozen HM7.out.r
                              go_wp2_with fail
                              (try simp only [Exit.inBlock, Exit.then])
                              refine bodyPost_ret (v := .tuple #[.agg #[.int .i64 kb, .int .i64 ib1, .int .i64 tb1, .string sb, .slice Ab nb cb], .bool false]) ?_ rfl ?_
                              · simp [results, Tryz.f78]
                                go_simp
                              · have e : mt = (.mk kb ib1 tb1 sb lb, false) := by have := HE2.out; simpa [h1, h2, h3, hl', hln] using this
                                rw [e]
                                exact merge_done (by omega) HM7.out.bel (fun F g1 g2 => arg_later HB.out HM7.out.bel (by omega) g1 g2)
                            · obtain ⟨y0, y1, y2, y3, y4⟩ := five_cells HM7.out.a
                              obtain ⟨x0, x1, x2, x3, x4⟩ := five_cells HM7.out.a
                              obtain ⟨z0, z1, z2, z3, z4⟩ := five_cells HM7.out.r
                              obtain ⟨f0, f1, f2, f3, f4⟩ := five_frozen HM7.out.r
                              go_wp2_with fail
                              (try simp only [Exit.inBlock, Exit.then])
                              refine bodyPost_ret (v := .tuple #[.agg #[.int .i64 ka, .int .i64 ia, .int .i64 ta1, .string sa, .slice Aa na ca], .bool false]) ?_ rfl ?_
                              · simp [results, Tryz.f78]
                                go_simp
                              · have e : mt = (.mk ka ia ta1 sa la, false) := by have := HE2.out; simpa [h1, h2, h3, hl', hln, hk0] using this
                                rw [e]
                                exact merge_done (by omega) HM7.out.bel (fun F g1 g2 => arg_later HA.out HM7.out.bel (by omega) g1 g2)
end Go.Proofs.YtggnocajpnmemaaGreatDoor
