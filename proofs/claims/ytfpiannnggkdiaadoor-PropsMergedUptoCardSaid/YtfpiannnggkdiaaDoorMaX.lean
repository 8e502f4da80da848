/- Compare, on both sides, over the trees of properties. slices.IndexFunc and ContainsFunc at values, for a closure that asks; has, on both sides. has, on both sides. -/
import Derived.Test.YtfpiannnggkdiaaDoorVcA
import Derived.Test.YtfpiannnggkdiaaDoorPvX
import Derived.Test.YtfpiannnggkdiaaDoorAlX
namespace Go.Proofs.YtfpiannnggkdiaaDoor
open Go.RowKit Go.Shelf

mutual
def toT : V → Vals.V | .mk k i t s l => .mk k i t s (toTL l)
def toTL : List V → List Vals.V | [] => [] | x :: l => toT x :: toTL l
end
theorem toT_mk (k i t : Int) (s : ByteArray) (l : List V) : toT (.mk k i t s l) = .mk k i t s (toTL l) := by simp only [toT]
theorem toTL_cons (x : V) (l : List V) : toTL (x :: l) = toT x :: toTL l := by simp only [toTL]
theorem toTL_len : ∀ l : List V, (toTL l).length = l.length
  | [] => by simp [toTL]
  | x :: l => by rw [toTL_cons, List.length_cons, List.length_cons, toTL_len l]
mutual
theorem cells_toT {w : World} {B : Nat} : ∀ (v : V) (b off : Nat), CellsAt w B v b off → Vl.CellsAt w B (toT v) b off
  | .mk k i t s l, b, off, h => by
    rw [toT_mk]
    unfold CellsAt at h
    unfold Vl.CellsAt
    obtain ⟨h0, h1, h2, h3, h4, _, A, c, h5, h6, h7, h8⟩ := h
    refine ⟨h0, h1, h2, h3, h4, A, c, by rw [toTL_len]; exact h5, by rw [toTL_len]; exact h6, by rw [toTL_len]; exact h7, ?_⟩
    rcases h8 with rfl | ⟨b', off', rfl, h8⟩
    · exact .inl (by simp [toTL])
    · exact .inr ⟨b', off', rfl, row_toT l b' off' h8⟩
theorem row_toT {w : World} {B : Nat} : ∀ (l : List V) (b off : Nat), RowAt w B l b off → Vl.RowAt w B (toTL l) b off
  | [], _, _, _ => by simp only [toTL]; unfold Vl.RowAt; trivial
  | x :: l, b, off, h => by
    rw [toTL_cons]
    unfold RowAt at h
    unfold Vl.RowAt
    exact ⟨cells_toT x b off h.1, row_toT l b (off + 5) h.2⟩
end
theorem sl_toT {w : World} {B : Nat} {l : List V} {g : Value} (h : SlAt w B l g) : Vl.SlAt w B (toTL l) g := by
  obtain ⟨A, c, rfl, h1, h2, h3⟩ := h
  refine ⟨A, c, by rw [toTL_len], by rw [toTL_len]; exact h1, by rw [toTL_len]; exact h2, ?_⟩
  rcases h3 with rfl | ⟨b, off, rfl, h3⟩
  · exact .inl (by simp [toTL])
  · exact .inr ⟨b, off, rfl, row_toT l b off h3⟩
theorem vat_toT {w : World} {B : Nat} {v : V} {g : Value} (h : VAt w B v g) : Vl.VAt w B (toT v) g := by
  obtain ⟨k, i, t, s, l⟩ := v
  obtain ⟨_, sl, rfl, h⟩ := h
  rw [toT_mk]
  exact ⟨sl, rfl, sl_toT h⟩
mutual
theorem size_toT : ∀ v : V, Vals.sizeV (toT v) ≤ 2 * nodesV v
  | .mk k i t s l => by
    rw [toT_mk, nodesV_mk, Vals.sizeV]
    have := sizeL_toT l
    omega
theorem sizeL_toT : ∀ l : List V, Vals.sizeL (toTL l) ≤ 2 * nodesL l
  | [] => by simp [toTL, Vals.sizeL]
  | x :: l => by
    rw [toTL_cons, nodesL_cons, Vals.sizeL]
    have := size_toT x
    have := sizeL_toT l
    omega
end
/-- How two values compare. -/
def cmpT (x y : V) : Int := Vals.cmpV (toT x) (toT y)
/-- Whether they are one for Compare. -/
def sameT (x y : V) : Bool := decide (cmpT x y = 0)
theorem cmpT_anti (x y : V) : cmpT y x = - cmpT x y := Vals.cmpV_anti _ _
theorem sameT_self (x : V) : sameT x x = true := by unfold sameT cmpT; rw [Vals.cmpV_self]; rfl
theorem sameT_comm (x y : V) : sameT x y = sameT y x := by
  unfold sameT
  have := cmpT_anti x y
  by_cases h : cmpT x y = 0
  · rw [decide_eq_true h, decide_eq_true (by omega)]
  · rw [decide_eq_false h, decide_eq_false (by omega)]
theorem sameT_trans {x y z : V} (h1 : sameT x y = true) (h2 : sameT y z = true) : sameT x z = true := by
  unfold sameT at *
  have h1 := of_decide_eq_true h1
  have h2 := of_decide_eq_true h2
  have a := (Vals.cmpV_tr (toT x) (toT y) (toT z) (Int.le_of_eq h1) (Int.le_of_eq h2)).1
  have e1 := cmpT_anti x y
  have e2 := cmpT_anti y z
  have e3 := cmpT_anti x z
  have b := (Vals.cmpV_tr (toT z) (toT y) (toT x) (by show cmpT z y ≤ 0; omega) (by show cmpT y x ≤ 0; omega)).1
  have b : cmpT z x ≤ 0 := b
  have a : cmpT x z ≤ 0 := a
  exact decide_eq_true (by omega)
theorem compareP_any (x y : V) (g g' : Value) (w : World) (hx : VAt w w.heap.size x g) (hy : VAt w w.heap.size y g') (hs : nodesV x ≤ 1000) :
    Calls Tryd.prog 46 #[g, g'] w (Quiet w (.int .i64 (cmpT x y))) :=
  (Vl.compare_any (toT x) (toT y) g g' w.heap.size w (vat_toT hx) (vat_toT hy) (Nat.le_refl _) (by have := size_toT x; omega)).mono fun _ _ h => h
/-! ### A right value is small -/
theorem items_flat : ∀ {l : List V}, itemsE l = 0 → ∀ x ∈ l, itemE x = 0
  | [], _, x, hx => by simp at hx
  | y :: l, h, x, hx => by
    unfold itemsE at h
    split at h
    · rename_i h0
      rcases List.mem_cons.1 hx with rfl | hx
      · exact h0
      · exact items_flat h x hx
    · rename_i h0
      exact absurd h h0
theorem item_leaf {x : V} (h : itemE x = 0) : nodesV x = 1 := by
  obtain ⟨k, i, t, s, l⟩ := x
  rw [itemE] at h
  split at h
  · exact absurd h (by decide)
  · rename_i hk
    unfold fieldsE at h
    split at h
    · exact absurd h (by decide)
    · split at h
      · exact absurd h (by decide)
      · rename_i hu
        have h7 : ¬ k = 7 := fun e => hk (.inr e)
        have hl : l.length = 0 := by
          rcases Nat.eq_zero_or_pos l.length with h0 | h0
          · exact h0
          · exfalso
            apply hu
            unfold unusedB
            simp [h0, h7]
        have hl := List.eq_nil_of_length_eq_zero hl
        subst hl
        rw [nodesV_mk]
        simp [nodesL]
theorem leaves {l : List V} (h : ∀ x ∈ l, nodesV x = 1) : nodesL l = l.length := by
  induction l with
  | nil => simp [nodesL]
  | cons x l ih =>
    rw [nodesL_cons, h x (List.mem_cons_self ..), ih (fun y hy => h y (List.mem_cons_of_mem _ hy)), List.length_cons]
    omega
def V.kids : V → List V | .mk _ _ _ _ l => l
/-- A right value: its items are leaves, at most 20. -/
structure Right (v : V) : Prop where
  few : v.kids.length ≤ 20
  leaf : ∀ x ∈ v.kids, nodesV x = 1
theorem right_of {v : V} (h : valueE v = 0) : Right v := by
  obtain ⟨k, i, t, s, l⟩ := v
  rw [valueE] at h
  split at h
  · rename_i h0; exact absurd h h0
  · split at h
    · exact absurd h (by decide)
    · rename_i h1
      exact ⟨by show l.length ≤ 20; omega, fun x hx => item_leaf (items_flat h x hx)⟩
theorem Right.nodes {v : V} (h : Right v) : nodesV v ≤ 21 := by
  obtain ⟨k, i, t, s, l⟩ := v
  have h1 : l.length ≤ 20 := h.few
  have h2 := leaves (l := l) h.leaf
  rw [nodesV_mk]
  omega
theorem right_none : Right (.mk 0 0 0 ⟨#[]⟩ []) := ⟨by show ([] : List V).length ≤ 20; simp, fun x hx => by simp [V.kids] at hx⟩
end Go.Proofs.YtfpiannnggkdiaaDoor
namespace Go.Proofs.YtfpiannnggkdiaaDoor
open Go.RowKit Go.Shelf

/-- A function value that asks something of a value, in whatever later world. -/
structure AsksV (S : V → Prop) (K : Nat) (cap : Array Value) (p : V → Bool) (w : World) : Prop where
  enter : ∀ (xs : Array Value) (W : World), (callFunc K xs).run Tryd.prog W = .ok (.enter K xs) W
  call : ∀ (W : World) (v : V) (g : Value), S v → Below w.heap.size w W → VAt W W.heap.size v g → Calls Tryd.prog K (#[g] ++ cap) W (Quiet W (.bool (p v)))
theorem AsksV.later {S : V → Prop} {K : Nat} {cap : Array Value} {p : V → Bool} {w w' : World} (h : AsksV S K cap p w) (hb : Below w.heap.size w w') : AsksV S K cap p w' :=
  ⟨h.enter, fun W v g hs hW hv => h.call W v g hs (hb.trans (hW.mono hb.size)) hv⟩
theorem val_item {w : World} {l : List V} {A : Option Addr} {c j : Nat} (h : SlAt w w.heap.size l (.slice A l.length c)) (hj : j < l.length) :
    ∃ b off kx ix tx sx lx Ax cx, A = some ⟨b, off, none⟩ ∧ l[j] = .mk kx ix tx sx lx ∧ b < w.heap.size ∧ w.cell? ⟨b, off + j * 5, none⟩ = some (.int .i64 kx) ∧ w.cell? ⟨b, off + j * 5 + 1, none⟩ = some (.int .i64 ix) ∧ w.cell? ⟨b, off + j * 5 + 2, none⟩ = some (.int .i64 tx) ∧
      w.cell? ⟨b, off + j * 5 + 3, none⟩ = some (.string sx) ∧ w.cell? ⟨b, off + j * 5 + 4, none⟩ = some (.slice Ax lx.length cx) ∧ sx.size ≤ 1048576 ∧ lx.length ≤ 1048576 ∧ SlAt w w.heap.size lx (.slice Ax lx.length cx) := itemIn h hj

set_option maxRecDepth 100000 in
set_option maxHeartbeats 4000000 in
theorem valIndex_any (l : List V) (p : V → Bool) (K : Nat) (cap : Array Value) (A : Option Addr) (c : Nat) (w : World) (hl : SlAt w w.heap.size l (.slice A l.length c)) (S : V → Prop) (ha : AsksV S K cap p w) (hS : ∀ v ∈ l, S v) :
    Calls Tryd.prog 115 #[.slice A l.length c, .func (Fn.func K) #[] cap] w fun e w' =>
      (∃ r : Int, e = .returned (.int .i64 r) ∧ decide (0 ≤ r) = l.any p) ∧ Below w.heap.size w w' := by
  have hn : l.length ≤ 1048576 := by obtain ⟨_, _, e, h1, _⟩ := hl; exact h1
  have HL := Lib.hid hl
  have HA := Lib.hid ha
  have HSS := Lib.hid hS
  have hen := ha.enter
  obtain ⟨n, hnn⟩ : ∃ n, n = l.length := ⟨_, rfl⟩
  rw [← hnn] at hn HL
  rw [show (Value.slice A l.length c) = Value.slice A n c from by rw [hnn]]
  have HN := Lib.hid hnn
  clear hl hnn ha hS
  go_enter Tryd.func115, Tryd.ntmps115
  go_wp2_with fail
  go_loopw [8] (fun iv wx => ∃ j : Nat, iv = .int .i64 j ∧ j ≤ n ∧ Hid (Below w.heap.size w wx ∧ ∀ k (hk : k < l.length), k < j → p l[k] = false)) (fun iv _ => n - (intOf iv).toNat)
  case atStart => exact ⟨0, rfl, Nat.zero_le _, Lib.hid ⟨Below.refl _ _, fun _ _ h => absurd h (by omega)⟩⟩
  case round =>
    obtain ⟨j, rfl, hjl, HR⟩ := hrel
    by_cases hj : j < n
    · have hj2 : j < l.length := by rw [← HN.out]; exact hj
      have p2 : (j : Int) < n := by omega
      obtain ⟨b, off, kx, ix, tx, sx, lx, Ax, cx, rfl, hx, hlt, g0, g1, g2, g3, g4, gz, gl, gs⟩ := val_item (by rw [← HN.out]; exact HL.out) hj2
      have hbel := HR.out.1
      have hxm : (.mk kx ix tx sx lx : V) ∈ l := by rw [← hx]; exact List.getElem_mem hj2
      replace g0 := (hbel.cell (p := ⟨b, off + j * 5, none⟩) hlt).trans g0
      replace g1 := (hbel.cell (p := ⟨b, off + j * 5 + 1, none⟩) hlt).trans g1
      replace g2 := (hbel.cell (p := ⟨b, off + j * 5 + 2, none⟩) hlt).trans g2
      replace g3 := (hbel.cell (p := ⟨b, off + j * 5 + 3, none⟩) hlt).trans g3
      replace g4 := (hbel.cell (p := ⟨b, off + j * 5 + 4, none⟩) hlt).trans g4
      have HC := Lib.hid (HA.out.call wr (.mk kx ix tx sx lx) (.agg #[.int .i64 kx, .int .i64 ix, .int .i64 tx, .string sx, .slice Ax lx.length cx]) (HSS.out _ hxm) hbel ⟨gz, _, rfl, (gs.below hbel (Nat.le_refl _)).up hbel.size⟩)
      have HBL := Lib.hid hbel
      have HX := Lib.hid hx
      obtain ⟨m, hm⟩ : ∃ m, m = lx.length := ⟨_, rfl⟩
      rw [← hm] at g4 HC
      have HR2 := Lib.hid HR.out.2
      clear gs hm hx hbel gl HR hxm
      rcases hp : p (.mk kx ix tx sx lx) with _ | _
      · have HNO : Hid (∀ k (hk : k < l.length), k < j + 1 → p l[k] = false) := Lib.hid (by
          intro k hk hk2
          by_cases hkj : k < j
          · exact HR2.out k hk hkj
          · obtain rfl : k = j := by omega
            rw [HX.out]; exact hp)
        rw [hp] at HC
        clear hp
        go_wp2_with fail
        refine HC.out.mono ?_
        rintro e6 w6 ⟨rfl, hb6⟩
        have HB6 := Lib.hid (HBL.out.trans (hb6.mono HBL.out.size))
        clear hb6
        go_wp2_with fail
        go_roundw
        case rel => exact ⟨j + 1, by go_num, hj, Lib.hid ⟨HB6.out, HNO.out⟩⟩
        case measure => simp [intOf]; omega
      · have HY : Hid (l.any p = true) := Lib.hid (List.any_eq_true.2 ⟨l[j], List.getElem_mem hj2, by rw [HX.out]; exact hp⟩)
        rw [hp] at HC
        clear hp
        go_wp2_with fail
        refine HC.out.mono ?_
        rintro e6 w6 ⟨rfl, hb6⟩
        have HB6 := Lib.hid (HBL.out.trans (hb6.mono HBL.out.size))
        clear hb6
        go_wp2_with fail
        go_ret
        exact ⟨⟨j, rfl, by rw [HY.out]; exact decide_eq_true (by omega)⟩, HB6.out⟩
    · have p2 : ¬ (j : Int) < n := by omega
      have HY : Hid (l.any p = false) := Lib.hid (by
        rw [← Bool.not_eq_true, List.any_eq_true]
        rintro ⟨x, hx, hpx⟩
        obtain ⟨k, hk, rfl⟩ := List.mem_iff_getElem.1 hx
        rw [HR.out.2 k hk (by rw [← HN.out] at hk; omega)] at hpx
        cases hpx)
      have HBL := Lib.hid HR.out.1
      clear HR
      go_wp2_with fail
      go_ret
      exact ⟨⟨-1, rfl, by rw [HY.out]; rfl⟩, HBL.out⟩
set_option maxRecDepth 100000 in
set_option maxHeartbeats 4000000 in
theorem valContains_any (l : List V) (p : V → Bool) (K : Nat) (cap : Array Value) (A : Option Addr) (c : Nat) (w : World) (hl : SlAt w w.heap.size l (.slice A l.length c)) (S : V → Prop) (ha : AsksV S K cap p w) (hS : ∀ v ∈ l, S v) :
    Calls Tryd.prog 102 #[.slice A l.length c, .func (Fn.func K) #[] cap] w (Quiet w (.bool (l.any p))) := by
  have HC := Lib.hid (valIndex_any l p K cap A c w hl S ha hS)
  generalize l.length = n at HC ⊢
  generalize l.any p = y at HC ⊢
  clear hl ha hS
  go_enter Tryd.func102, Tryd.ntmps102
  go_wp2_with fail
  refine HC.out.mono ?_
  rintro e6 w6 ⟨⟨r, rfl, hr⟩, hb6⟩
  have HB := Lib.hid hb6
  have HRR := Lib.hid hr
  clear hb6 hr
  go_wp2_with fail
  go_ret
  exact ⟨ret_boolA (by rw [← HRR.out]), HB.out⟩
end Go.Proofs.YtfpiannnggkdiaaDoor
namespace Go.Proofs.YtfpiannnggkdiaaDoor
open Go.RowKit Go.Shelf

/-- A box that holds a value. -/
structure BoxV (w : World) (ib : Nat) (k i t : Int) (s : ByteArray) (l : List V) (A : Option Addr) (m c : Nat) : Prop where
  blk : w.heap[ib]? = some (.cells #[.int .i64 k, .int .i64 i, .int .i64 t, .string s, .slice A m c] 53 (0, 0))
  len : m = l.length
  sz : s.size ≤ 1048576
  sl : SlAt w w.heap.size l (.slice A m c)
theorem BoxV.later {w w' : World} {ib : Nat} {k i t : Int} {s : ByteArray} {l : List V} {A : Option Addr} {m c : Nat} (h : BoxV w ib k i t s l A m c) (hb : Below w.heap.size w w') : BoxV w' ib k i t s l A m c :=
  ⟨(hb.block _ (lt_of_blk' h.blk)).trans h.blk, h.len, h.sz, (h.sl.below hb (Nat.le_refl _)).up hb.size⟩
theorem BoxV.vat {w : World} {ib : Nat} {k i t : Int} {s : ByteArray} {l : List V} {A : Option Addr} {m c : Nat} (h : BoxV w ib k i t s l A m c) : VAt w w.heap.size (.mk k i t s l) (.agg #[.int .i64 k, .int .i64 i, .int .i64 t, .string s, .slice A m c]) :=
  ⟨h.sz, _, rfl, h.sl⟩
theorem VAt.hand {w : World} {B : Nat} {v : V} {g : Value} (h : VAt w B v g) : ∃ k i t s l A c, v = .mk k i t s l ∧ g = .agg #[.int .i64 k, .int .i64 i, .int .i64 t, .string s, .slice A l.length c] ∧ s.size ≤ 1048576 ∧ SlAt w B l (.slice A l.length c) := by
  obtain ⟨k, i, t, s, l⟩ := v
  obtain ⟨hz, sl, rfl, A, c, rfl, hr⟩ := h
  exact ⟨k, i, t, s, l, A, c, rfl, rfl, hz, A, c, rfl, hr⟩
theorem VAt.later {w w' : World} {v : V} {g : Value} (h : VAt w w.heap.size v g) (hb : Below w.heap.size w w') : VAt w' w'.heap.size v g :=
  (h.below hb (Nat.le_refl _)).up hb.size
theorem box_new {w : World} {k i t : Int} {s : ByteArray} {l : List V} {A : Option Addr} {c : Nat} (hz : s.size ≤ 1048576) (h : SlAt w w.heap.size l (.slice A l.length c)) : BoxV (w.alloc (.cells #[.int .i64 k, .int .i64 i, .int .i64 t, .string s, .slice A l.length c] 53)) w.heap.size k i t s l A l.length c :=
  have hb : ∀ o, Below w.heap.size w (w.alloc o) := fun o => (Below.refl _ w).alloc (Nat.le_refl _) o
  ⟨heap_alloc_new w _, rfl, hz, (h.below (hb _) (Nat.le_refl _)).up (hb _).size⟩

set_option maxRecDepth 100000 in
set_option maxHeartbeats 4000000 in
theorem has1_any (ib : Nat) (k i t : Int) (s : ByteArray) (l : List V) (A : Option Addr) (m c : Nat) (y : V) (g : Value) (w : World) (hB : BoxV w ib k i t s l A m c) (hy : VAt w w.heap.size y g) (hn : nodesV y ≤ 1000) :
    Calls Tryd.prog 103 #[g, .pointer (some ⟨ib, 0, none⟩)] w (Quiet w (.bool (sameT y (.mk k i t s l)))) := by
  obtain ⟨k', i', t', s', l', A', c', rfl, rfl, hz', hs'⟩ := hy.hand
  have hbl := hB.blk
  have hlt := lt_of_blk' hbl
  have x0 := cell_of_row w _ 0 _ _ (0, 0) hbl
  have x1 := cell_of_row w _ 1 _ _ (0, 0) hbl
  have x2 := cell_of_row w _ 2 _ _ (0, 0) hbl
  have x3 := cell_of_row w _ 3 _ _ (0, 0) hbl
  have x4 := cell_of_row w _ 4 _ _ (0, 0) hbl
  have HC := Lib.hid (fun W (hW : Below w.heap.size w W) => compareP_any _ _ _ _ W (hy.later hW) ((hB.later hW).vat) hn)
  have HE : Hid (sameT (.mk k' i' t' s' l') (.mk k i t s l) = decide (cmpT (.mk k' i' t' s' l') (.mk k i t s l) = 0)) := Lib.hid rfl
  generalize sameT (.mk k' i' t' s' l') (.mk k i t s l) = b at HE ⊢
  generalize cmpT (.mk k' i' t' s' l') (.mk k i t s l) = r at HC HE
  generalize l'.length = m' at HC ⊢
  clear hy hB hbl hs'
  go_enter Tryd.func103, Tryd.ntmps103
  go_wp2_with fail
  refine (HC.out _ ((Below.refl _ w).alloc (Nat.le_refl _) _)).mono ?_
  rintro e1 w1 ⟨rfl, hb1⟩
  have HB1 := Lib.hid (((Below.refl _ w).alloc (Nat.le_refl _) (.cells #[.int .i64 k', .int .i64 i', .int .i64 t', .string s', .slice A' m' c'] 53)).trans (hb1.mono (by simp)))
  clear hb1
  go_wp2_with fail
  go_ret
  exact ⟨ret_boolA (by rw [HE.out]; by_cases h : r = 0 <;> simp [h]), HB1.out⟩
/-- Whether a list has a value, for Compare. -/
def hasT (l : List V) (x : V) : Bool := l.any (fun y => sameT y x)
set_option maxRecDepth 100000 in
set_option maxHeartbeats 4000000 in
theorem has_any (l : List V) (A : Option Addr) (c : Nat) (x : V) (g : Value) (w : World) (hl : SlAt w w.heap.size l (.slice A l.length c)) (hx : VAt w w.heap.size x g) (hN : ∀ v ∈ l, nodesV v ≤ 1000) :
    Calls Tryd.prog 78 #[.slice A l.length c, g] w (Quiet w (.bool (hasT l x))) := by
  obtain ⟨k, i, t, s, lx, A', c', rfl, rfl, hz, hs⟩ := hx.hand
  have hen : ∀ (ys : Array Value) (W : World), (callFunc 103 ys).run Tryd.prog W = .ok (.enter 103 ys) W := enters_of Tryd.func103 (by kernel_rfl) rfl
  have HBX := Lib.hid (box_new (k := k) (i := i) (t := t) hz hs)
  have HC := Lib.hid (fun (W : World) (hW : BoxV W w.heap.size k i t s lx A' lx.length c') (hb : Below w.heap.size w W) => valContains_any l (fun y => sameT y (.mk k i t s lx)) 103 #[.pointer (some ⟨w.heap.size, 0, none⟩)] A c W ((hl.below hb (Nat.le_refl _)).up hb.size) (fun v => nodesV v ≤ 1000) ⟨hen, fun W' v g' hs hW' hv => has1_any w.heap.size k i t s lx A' lx.length c' v g' W' (hW.later hW') hv hs⟩ hN)
  have HH : Hid (hasT l (.mk k i t s lx) = l.any (fun y => sameT y (.mk k i t s lx))) := Lib.hid rfl
  generalize hasT l (.mk k i t s lx) = b at HH ⊢
  rw [← HH.out] at HC
  generalize l.length = n at HC ⊢
  generalize lx.length = m at HC HBX ⊢
  clear hl hx hN hs
  go_enter Tryd.func78, Tryd.ntmps78
  go_wp2_with fail
  refine (HC.out _ HBX.out ((Below.refl _ w).alloc (Nat.le_refl _) _)).mono ?_
  rintro e1 w1 ⟨rfl, hb1⟩
  have HB1 := Lib.hid (((Below.refl _ w).alloc (Nat.le_refl _) (.cells #[.int .i64 k, .int .i64 i, .int .i64 t, .string s, .slice A' m c'] 53)).trans (hb1.mono (by simp)))
  clear hb1
  go_wp2_with fail
  go_ret
  exact ⟨rfl, HB1.out⟩
end Go.Proofs.YtfpiannnggkdiaaDoor
