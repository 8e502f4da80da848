/- The reference's comparison: by recursion through slices.CompareFunc. -/
import Derived.Test.YtggnocajpnmemaaGreatDoorValX
import Derived.Test.YtggnocajpnmemaaGreatDoorShelf
import Derived.WalkKit
import Derived.Lib.Hide
import Derived.Below
import Derived.StillTailTactics
import Derived.Deep.LoopGhost
namespace Go.Proofs.YtggnocajpnmemaaGreatDoor.Vl
open Go.RowKit
open Go.Proofs.YtggnocajpnmemaaGreatDoor.Vals

theorem cmpBytes_list : ∀ a b : List UInt8, Lib.compareBytes a b = if a < b then -1 else if b < a then 1 else 0
  | [], [] => by simp [Lib.compareBytes, List.lt_irrefl]
  | [], _ :: _ => by simp [Lib.compareBytes]
  | _ :: _, [] => by simp [Lib.compareBytes]
  | x :: a, y :: b => by
    unfold Lib.compareBytes
    rw [cmpBytes_list a b]
    simp only [List.cons_lt_cons_iff]
    by_cases h : x < y
    · simp [h]
    · by_cases g : y < x
      · have : x ≠ y := fun e => by subst e; exact h g
        simp [h, g, this]
      · have : x = y := UInt8.le_antisymm (UInt8.not_lt.1 g) (UInt8.not_lt.1 h)
        subst this
        simp [UInt8.lt_irrefl]
theorem strCmp_any (a b : ByteArray) (w : World) :
    Calls Tryz.prog 115 #[.string a, .string b] w fun e w' => e = .returned (.int .i64 (cmpS a b)) ∧ w = w' := by
  refine (Tryz.strings_Compare a b w).mono fun e w' ⟨h, g⟩ => ⟨?_, g.symm⟩
  rw [h, cmpBytes_list]; rfl

theorem RowAt.get {w : World} {B : Nat} : ∀ (l : List V) (b off k : Nat), RowAt w B l b off → k < l.length → ∃ x, l[k]? = some x ∧ CellsAt w B x b (off + k * 5)
  | [], _, _, _, _, h => absurd h (by simp)
  | x :: xs, b, off, 0, h, _ => by
    unfold RowAt at h
    exact ⟨x, rfl, by simpa using h.1⟩
  | x :: xs, b, off, k + 1, h, hk => by
    unfold RowAt at h
    obtain ⟨y, h1, h2⟩ := RowAt.get xs b (off + 5) k h.2 (by simpa using hk)
    exact ⟨y, by simpa using h1, by rw [show off + (k + 1) * 5 = off + 5 + k * 5 by omega]; exact h2⟩
theorem sizeL_get : ∀ (l : List V) (k : Nat) (x : V), l[k]? = some x → sizeV x ≤ sizeL l
  | [], _, _, h => by simp at h
  | y :: l, 0, x, h => by simp at h; subst h; unfold sizeL; omega
  | y :: l, k + 1, x, h => by
    unfold sizeL
    have := sizeL_get l k x (by simpa using h)
    omega
theorem cmpL_step {a b : List V} {k : Nat} {x y : V} (hx : a[k]? = some x) (hy : b[k]? = some y) : cmpL (a.drop k) (b.drop k) = orI (cmpV x y) (cmpL (a.drop (k + 1)) (b.drop (k + 1))) := by
  obtain ⟨h1, e1⟩ := List.getElem?_eq_some_iff.1 hx
  obtain ⟨h2, e2⟩ := List.getElem?_eq_some_iff.1 hy
  rw [List.drop_eq_getElem_cons h1, List.drop_eq_getElem_cons h2, e1, e2, cmpL]
theorem cmpL_out {a b : List V} {k : Nat} (h : a.length ≤ k ∨ b.length ≤ k) : cmpL (a.drop k) (b.drop k) = cmpI ((a.length - k : Nat) : Int) ((b.length - k : Nat) : Int) := by
  rw [cmpL_ends (by rcases h with h | h; exact .inl (List.drop_of_length_le h); exact .inr (List.drop_of_length_le h)), List.length_drop, List.length_drop]
/-- A value's five cells are the value in hand. -/
theorem CellsAt.hand {w : World} {B : Nat} {x : V} {b off : Nat} (h : CellsAt w B x b off) :
    ∃ k i t s A n c, b < B ∧ w.cell? ⟨b, off, none⟩ = some (.int .i64 k) ∧ w.cell? ⟨b, off + 1, none⟩ = some (.int .i64 i) ∧ w.cell? ⟨b, off + 2, none⟩ = some (.int .i64 t) ∧ w.cell? ⟨b, off + 3, none⟩ = some (.string s) ∧ w.cell? ⟨b, off + 4, none⟩ = some (.slice A n c) ∧
      VAt w B x (.agg #[.int .i64 k, .int .i64 i, .int .i64 t, .string s, .slice A n c]) := by
  obtain ⟨k, i, t, s, l⟩ := x
  unfold CellsAt at h
  obtain ⟨h0, h1, h2, h3, h4, A, c, h5, h6, h7, h8⟩ := h
  exact ⟨k, i, t, s, A, l.length, c, h0, h1, h2, h3, h4, h5, _, rfl, A, c, rfl, h6, h7, h8⟩

/-- What CompareOf does with values of a bounded size. -/
def OfSays (n : Nat) : Prop := ∀ (x y : V) (g g' : Value) (B : Nat) (w : World), sizeV x ≤ n → VAt w B x g → VAt w B y g' → B ≤ w.heap.size → Calls Tryz.prog 69 #[g, g'] w (Says (cmpV x y) w)

set_option maxHeartbeats 1000000 in
set_option maxRecDepth 100000 in
theorem compareFunc_any (n : Nat) (ih : OfSays n) (la lb : List V) (sa sb : Value) (w : World) (B : Nat) (hB : B ≤ w.heap.size) (ha : SlAt w B la sa) (hb : SlAt w B lb sb) (hs : sizeL la ≤ n) :
    Calls Tryz.prog 130 #[sa, sb, .func (Fn.func 69) #[] #[]] w (Says (cmpL la lb) w) := by
  obtain ⟨A, c, rfl, hA1, hA2, hA3⟩ := ha
  obtain ⟨A', c', rfl, hB1, hB2, hB3⟩ := hb
  have IH := Lib.hid ih
  have HA3 := Lib.hid hA3
  have HB3 := Lib.hid hB3
  clear ih hA3 hB3
  obtain ⟨na, hna⟩ : ∃ n, n = la.length := ⟨_, rfl⟩
  obtain ⟨nb, hnb⟩ : ∃ n, n = lb.length := ⟨_, rfl⟩
  rw [← hna] at hA1 hA2 ⊢
  rw [← hnb] at hB1 hB2 ⊢
  have HNA := Lib.hid hna
  have HNB := Lib.hid hnb
  clear hna hnb
  go_enter Tryz.func130, Tryz.ntmps130
  go_wp2_with fail
  go_loopw [13] (fun i wr => ∃ k : Nat, k ≤ na ∧ i = .int .i64 k ∧ Hid (Below w.heap.size w wr ∧ k ≤ nb ∧ cmpL (la.drop k) (lb.drop k) = cmpL la lb)) (fun i _ => na - (intOf i).toNat)
  case atStart => exact ⟨0, Nat.zero_le _, rfl, Lib.hid ⟨Below.refl _ _, Nat.zero_le _, rfl⟩⟩
  case round =>
    obtain ⟨k, hk, rfl, HR⟩ := hrel
    by_cases hlt : k < na
    · obtain ⟨ba, oa, rfl, hra⟩ : ∃ ba oa, A = some ⟨ba, oa, none⟩ ∧ RowAt w B la ba oa := by
        rcases HA3.out with h | h
        · rw [h] at HNA; have := HNA.out; simp at this; omega
        · exact h
      obtain ⟨x, hx, hcx⟩ := hra.get la ba oa k (by rw [← HNA.out]; exact hlt)
      obtain ⟨kx, ix, tx, sx, Ax, nx, cx, bx, x0, x1, x2, x3, x4, vx⟩ := hcx.hand
      have hle := HR.out.1.size
      replace x0 := (HR.out.1.cell (p := ⟨ba, oa + k * 5, none⟩) (by show ba < _; omega)).trans x0
      replace x1 := (HR.out.1.cell (p := ⟨ba, oa + k * 5 + 1, none⟩) (by show ba < _; omega)).trans x1
      replace x2 := (HR.out.1.cell (p := ⟨ba, oa + k * 5 + 2, none⟩) (by show ba < _; omega)).trans x2
      replace x3 := (HR.out.1.cell (p := ⟨ba, oa + k * 5 + 3, none⟩) (by show ba < _; omega)).trans x3
      replace x4 := (HR.out.1.cell (p := ⟨ba, oa + k * 5 + 4, none⟩) (by show ba < _; omega)).trans x4
      have HX := Lib.hid hx
      have VX := Lib.hid vx
      clear hra hx hcx vx
      by_cases hlb : k < nb
      · obtain ⟨bb, ob, rfl, hrb⟩ : ∃ bb ob, A' = some ⟨bb, ob, none⟩ ∧ RowAt w B lb bb ob := by
          rcases HB3.out with h | h
          · rw [h] at HNB; have := HNB.out; simp at this; omega
          · exact h
        obtain ⟨y, hy, hcy⟩ := hrb.get lb bb ob k (by rw [← HNB.out]; exact hlb)
        obtain ⟨ky, iy, ty, sy, Ay, ny, cy, by_, y0, y1, y2, y3, y4, vy⟩ := hcy.hand
        replace y0 := (HR.out.1.cell (p := ⟨bb, ob + k * 5, none⟩) (by show bb < _; omega)).trans y0
        replace y1 := (HR.out.1.cell (p := ⟨bb, ob + k * 5 + 1, none⟩) (by show bb < _; omega)).trans y1
        replace y2 := (HR.out.1.cell (p := ⟨bb, ob + k * 5 + 2, none⟩) (by show bb < _; omega)).trans y2
        replace y3 := (HR.out.1.cell (p := ⟨bb, ob + k * 5 + 3, none⟩) (by show bb < _; omega)).trans y3
        replace y4 := (HR.out.1.cell (p := ⟨bb, ob + k * 5 + 4, none⟩) (by show bb < _; omega)).trans y4
        have hbb : bb < wr.heap.size := by omega
        have hba : ba < wr.heap.size := by omega
        have hbb' : bb < wr.heap.size + 1 := by omega
        have HY := Lib.hid hy
        have VY := Lib.hid vy
        clear hrb hy hcy vy
        have hb2 : ∀ a b : Obj, Below w.heap.size w ((wr.alloc a).alloc b) := fun a b => HR.out.1.trans ((two_boxes wr a b).mono hle)
        have hsx : sizeV x ≤ n := Nat.le_trans (sizeL_get _ _ _ HX.out) hs
        obtain ⟨o, ho⟩ : ∃ o, o = cmpV x y := ⟨_, rfl⟩
        have HO := Lib.hid ho
        clear ho
        go_wp2_with fail
        refine (IH.out x y _ _ B _ hsx (VX.out.below (hb2 _ _) hB) (VY.out.below (hb2 _ _) hB) (by simp; omega)).mono ?_
        rintro e w3 ⟨rfl, hb3⟩
        rw [← HO.out]
        have HB3' : Hid (Below w.heap.size w w3) := Lib.hid ((hb2 _ _).trans (hb3.mono (hb2 _ _).size))
        clear hb3 hb2
        by_cases h0 : o = 0
        · have q4 : (o != 0) = false := by simpa using h0
          have H0 := Lib.hid h0
          clear h0
          go_wp2_with fail
          go_roundw
          case measure => simp [intOf]; omega
          case rel => exact ⟨k + 1, by omega, by go_num, Lib.hid ⟨HB3'.out, by omega, by rw [← HR.out.2.2, cmpL_step HX.out HY.out, ← HO.out, H0.out, zero_orI]⟩⟩
        · have q4 : (o != 0) = true := by simpa using h0
          have H0 := Lib.hid h0
          clear h0
          go_wp2_with fail
          go_ret
          exact ⟨by rw [← HR.out.2.2, cmpL_step HX.out HY.out, ← HO.out]; unfold orI; rw [if_neg H0.out]; rfl, HB3'.out⟩
      · have hk2 : k = nb := by have := HR.out.2.1; omega
        have HF : Hid (cmpL la lb = 1) := Lib.hid (by rw [← HR.out.2.2, cmpL_out (by rw [← HNB.out]; omega), ← HNA.out, ← HNB.out]; unfold cmpI; omega)
        have hb1 : ∀ a : Obj, Below w.heap.size w (wr.alloc a) := fun a => HR.out.1.trans (((Below.refl _ _).alloc (Nat.le_refl _) _).mono hle)
        have HB1 := Lib.hid hb1
        clear hb1 hk2
        go_wp2_with fail
        go_ret
        exact ⟨by rw [HF.out]; rfl, HB1.out _⟩
    · have hb := HR.out.2.1
      have HK : Hid (k = na) := Lib.hid (by omega)
      by_cases hnn : na < nb
      · have HF : Hid (cmpL la lb = -1) := Lib.hid (by rw [← HR.out.2.2, cmpL_out (by rw [← HNA.out]; omega), ← HNA.out, ← HNB.out]; unfold cmpI; have := HK.out; rw [if_pos (by omega)])
        go_wp2_with fail
        go_ret
        exact ⟨by rw [HF.out]; rfl, HR.out.1⟩
      · have HF : Hid (cmpL la lb = 0) := Lib.hid (by rw [← HR.out.2.2, cmpL_out (by rw [← HNA.out]; omega), ← HNA.out, ← HNB.out]; unfold cmpI; have := HK.out; rw [if_neg (by omega), if_neg (by omega)])
        go_wp2_with fail
        go_ret
        exact ⟨by rw [HF.out]; rfl, HR.out.1⟩

set_option maxHeartbeats 1000000 in
theorem compareOf_other (k i t : Int) (s : ByteArray) (sl : Value) (k' i' t' : Int) (s' : ByteArray) (sl' : Value) (w : World) (h : k ≠ k') :
    Calls Tryz.prog 69 #[.agg #[.int .i64 k, .int .i64 i, .int .i64 t, .string s, sl], .agg #[.int .i64 k', .int .i64 i', .int .i64 t', .string s', sl']] w (Says (single k i t s k' i' t' s') w) := by
  have q1 : (k != k') = true := by simpa using h
  have q2 : (k == k') = false := by simpa using h
  have HF : Hid (single k i t s k' i' t' s' = cmpI k k') := Lib.hid (by unfold single; rw [if_pos h])
  clear h
  go_enter Tryz.func69, Tryz.ntmps69
  go_wp2_with fail
  refine (cmpInt_any _ _ _).mono ?_
  rintro e w' ⟨rfl, rfl⟩
  go_wp2
  go_ret
  exact ⟨by rw [HF.out]; rfl, two_boxes w _ _⟩

set_option maxHeartbeats 1000000 in
theorem compareOf_int (k i t : Int) (s : ByteArray) (sl : Value) (i' t' : Int) (s' : ByteArray) (sl' : Value) (w : World) (h : k = 1 ∨ k = 2 ∨ k = 4) :
    Calls Tryz.prog 69 #[.agg #[.int .i64 k, .int .i64 i, .int .i64 t, .string s, sl], .agg #[.int .i64 k, .int .i64 i', .int .i64 t', .string s', sl']] w (Says (single k i t s k i' t' s') w) := by
  have HF : Hid (single k i t s k i' t' s' = cmpI i i') := Lib.hid (by unfold single; rw [if_neg (by simp), if_pos h])
  rcases h with rfl | rfl | rfl
  all_goals
    go_enter Tryz.func69, Tryz.ntmps69
    go_wp2_with fail
    refine (cmpInt_any _ _ _).mono ?_
    rintro e w' ⟨rfl, rfl⟩
    go_wp2
    go_ret
    exact ⟨by rw [HF.out]; rfl, two_boxes w _ _⟩

set_option maxHeartbeats 1000000 in
theorem compareOf_str (k i t : Int) (s : ByteArray) (sl : Value) (i' t' : Int) (s' : ByteArray) (sl' : Value) (w : World) (h : k = 3 ∨ k = 6) :
    Calls Tryz.prog 69 #[.agg #[.int .i64 k, .int .i64 i, .int .i64 t, .string s, sl], .agg #[.int .i64 k, .int .i64 i', .int .i64 t', .string s', sl']] w (Says (single k i t s k i' t' s') w) := by
  have HF : Hid (single k i t s k i' t' s' = cmpS s s') := Lib.hid (by unfold single; rw [if_neg (by simp), if_neg (by omega), if_neg (by omega), if_pos h])
  rcases h with rfl | rfl
  all_goals
    go_enter Tryz.func69, Tryz.ntmps69
    go_wp2_with fail
    refine (strCmp_any _ _ _).mono ?_
    rintro e w' ⟨rfl, rfl⟩
    go_wp2
    go_ret
    exact ⟨by rw [HF.out]; rfl, two_boxes w _ _⟩

set_option maxHeartbeats 1000000 in
theorem compareOf_none (k i t : Int) (s : ByteArray) (sl : Value) (i' t' : Int) (s' : ByteArray) (sl' : Value) (w : World) (h : ¬ (k = 1 ∨ k = 2 ∨ k = 4 ∨ k = 5 ∨ k = 3 ∨ k = 6 ∨ k = 7)) :
    Calls Tryz.prog 69 #[.agg #[.int .i64 k, .int .i64 i, .int .i64 t, .string s, sl], .agg #[.int .i64 k, .int .i64 i', .int .i64 t', .string s', sl']] w (Says (single k i t s k i' t' s') w) := by
  have HF : Hid (single k i t s k i' t' s' = 0) := Lib.hid (by unfold single; rw [if_neg (by simp), if_neg (by omega), if_neg (by omega), if_neg (by omega)])
  have q1 : (k == 1) = false := by simp; omega
  have q2 : (k == 2) = false := by simp; omega
  have q3 : (k == 3) = false := by simp; omega
  have q4 : (k == 4) = false := by simp; omega
  have q5 : (k == 5) = false := by simp; omega
  have q6 : (k == 6) = false := by simp; omega
  have q7 : (k == 7) = false := by simp; omega
  clear h
  go_enter Tryz.func69, Tryz.ntmps69
  go_wp2
  go_ret
  exact ⟨by rw [HF.out]; rfl, two_boxes w _ _⟩

set_option maxHeartbeats 1000000 in
set_option maxRecDepth 100000 in
theorem compareOf_span (i t : Int) (s : ByteArray) (sl : Value) (i' t' : Int) (s' : ByteArray) (sl' : Value) (w : World) :
    Calls Tryz.prog 69 #[.agg #[.int .i64 5, .int .i64 i, .int .i64 t, .string s, sl], .agg #[.int .i64 5, .int .i64 i', .int .i64 t', .string s', sl']] w (Says (single 5 i t s 5 i' t' s') w) := by
  have HF : Hid (single 5 i t s 5 i' t' s' = orI (cmpI i i') (cmpI t t')) := Lib.hid (by unfold single; simp)
  obtain ⟨p, hp⟩ : ∃ p, p = cmpI i i' := ⟨_, rfl⟩
  obtain ⟨q, hq⟩ : ∃ q, q = cmpI t t' := ⟨_, rfl⟩
  have HP := Lib.hid hp
  have HQ := Lib.hid hq
  rw [← hp, ← hq] at HF
  clear hp hq
  go_enter Tryz.func69, Tryz.ntmps69
  go_wp2_with fail
  obtain ⟨W2, hW2⟩ : ∃ W2, W2 = (w.alloc (.cells #[.int .i64 5, .int .i64 i, .int .i64 t, .string s, sl] 24)).alloc (.cells #[.int .i64 5, .int .i64 i', .int .i64 t', .string s', sl'] 24) := ⟨_, rfl⟩
  rw [← hW2]
  have c1 : ({ W2 with drawn := W2.drawn + 1 } : World).cell? ⟨w.heap.size, 1, none⟩ = some (.int .i64 i) := by show W2.cell? _ = _; rw [hW2]; simp [go_sem]
  have c2 : ({ W2 with drawn := W2.drawn + 1 } : World).cell? ⟨w.heap.size, 2, none⟩ = some (.int .i64 t) := by show W2.cell? _ = _; rw [hW2]; simp [go_sem]
  have c3 : ({ W2 with drawn := W2.drawn + 1 } : World).cell? ⟨w.heap.size + 1, 1, none⟩ = some (.int .i64 i') := by show W2.cell? _ = _; rw [hW2]; simp [go_sem]
  have c4 : ({ W2 with drawn := W2.drawn + 1 } : World).cell? ⟨w.heap.size + 1, 2, none⟩ = some (.int .i64 t') := by show W2.cell? _ = _; rw [hW2]; simp [go_sem]
  have hb : Below w.heap.size w ({ W2 with drawn := W2.drawn + 1 } : World) := by rw [hW2]; exact (two_boxes w _ _).drew
  have hsz : w.heap.size ≤ ({ W2 with drawn := W2.drawn + 1 } : World).heap.size := hb.size
  refine wp_region_still_tail 10 (by kernel_rfl) (by kernel_rfl) ?_
  generalize ({ W2 with drawn := W2.drawn + 1 } : World) = W3 at *
  clear hW2
  simp only [List.take_succ_cons, List.take_zero, List.drop_succ_cons, List.drop_zero]
  still_step
  still_step
  still_step
  still_step
  still_call ((cmpInt_any i i' _).mono fun _ _ ⟨h, g⟩ => ⟨h, g.symm⟩)
  rw [← HP.out]
  still_step
  still_step
  still_step
  still_step
  still_call ((cmpInt_any t t' _).mono fun _ _ ⟨h, g⟩ => ⟨h, g.symm⟩)
  rw [← HQ.out]
  refine wpStill_nil ?_
  have HB := Lib.hid hb
  clear hb c1 c2 c3 c4
  go_wp2_with fail
  refine (cmpOr_any p q _ _ _ _ (by rw [World.cell?_alloc_at _ _ _ _ rfl]; rfl) (by rw [World.cell?_alloc_at _ _ _ _ rfl]; rfl)).mono ?_
  rintro e w' ⟨rfl, rfl⟩
  go_wp2
  go_ret
  exact ⟨by rw [HF.out]; rfl, HB.out.alloc hsz _⟩

set_option maxHeartbeats 1000000 in
theorem compareOf_list (n : Nat) (ih : OfSays n) (i t : Int) (s : ByteArray) (sl : Value) (i' t' : Int) (s' : ByteArray) (sl' : Value) (la lb : List V) (w : World) (B : Nat) (hB : B ≤ w.heap.size) (ha : SlAt w B la sl) (hb : SlAt w B lb sl') (hs : sizeL la ≤ n) :
    Calls Tryz.prog 69 #[.agg #[.int .i64 7, .int .i64 i, .int .i64 t, .string s, sl], .agg #[.int .i64 7, .int .i64 i', .int .i64 t', .string s', sl']] w (Says (cmpL la lb) w) := by
  have HL := Lib.hid ha
  have HL' := Lib.hid hb
  obtain ⟨A, c, rfl, _⟩ := ha
  obtain ⟨A', c', rfl, _⟩ := hb
  go_enter Tryz.func69, Tryz.ntmps69
  go_wp2_with fail
  have hb2 := fun a b : Obj => two_boxes w a b
  have hup : ∀ a b : Obj, B ≤ ((w.alloc a).alloc b).heap.size := fun a b => Nat.le_trans hB (two_boxes w a b).size
  refine (compareFunc_any n ih la lb _ _ _ B (hup _ _) (HL.out.below (hb2 _ _) hB) (HL'.out.below (hb2 _ _) hB) hs).mono ?_
  rintro e w' ⟨rfl, hbel⟩
  have HB : Hid (Below w.heap.size w w') := Lib.hid ((hb2 _ _).trans (hbel.mono (hb2 _ _).size))
  clear hbel hb2 hup
  go_wp2
  go_ret
  exact ⟨rfl, HB.out⟩

theorem compareOf_all : ∀ n, OfSays n
  | 0 => fun x y g g' B w hs => by have := sizeV_pos x; omega
  | n + 1 => fun x y g g' B w hs hx hy hB => by
    obtain ⟨k, i, t, s, l⟩ := x
    obtain ⟨k', i', t', s', l'⟩ := y
    obtain ⟨sl, rfl, hl⟩ := hx
    obtain ⟨sl', rfl, hl'⟩ := hy
    by_cases h : k = k'
    · subst h
      rcases (by omega : k = 7 ∨ (k ≠ 7 ∧ (k = 1 ∨ k = 2 ∨ k = 4)) ∨ (k ≠ 7 ∧ k = 5) ∨ (k ≠ 7 ∧ (k = 3 ∨ k = 6)) ∨ (k ≠ 7 ∧ ¬ (k = 1 ∨ k = 2 ∨ k = 4 ∨ k = 5 ∨ k = 3 ∨ k = 6 ∨ k = 7))) with h | ⟨g, h⟩ | ⟨g, h⟩ | ⟨g, h⟩ | ⟨g, h⟩
      · subst h
        have e : cmpV (.mk 7 i t s l) (.mk 7 i' t' s' l') = cmpL l l' := cmpV_list rfl rfl
        rw [e]
        exact compareOf_list n (compareOf_all n) i t s sl i' t' s' sl' l l' w B hB hl hl' (by unfold sizeV at hs; omega)
      all_goals
        have e : cmpV (.mk k i t s l) (.mk k i' t' s' l') = single k i t s k i' t' s' := cmpV_one (fun h => g h.1)
        rw [e]
      · exact compareOf_int k i t s sl i' t' s' sl' w h
      · subst h; exact compareOf_span i t s sl i' t' s' sl' w
      · exact compareOf_str k i t s sl i' t' s' sl' w h
      · exact compareOf_none k i t s sl i' t' s' sl' w h
    · have e : cmpV (.mk k i t s l) (.mk k' i' t' s' l') = single k i t s k' i' t' s' := cmpV_one (fun g => h (g.1.trans g.2.symm))
      rw [e]
      exact compareOf_other k i t s sl k' i' t' s' sl' w h
theorem compareOf_any (x y : V) (g g' : Value) (B : Nat) (w : World) (hx : VAt w B x g) (hy : VAt w B y g') (hB : B ≤ w.heap.size) :
    Calls Tryz.prog 69 #[g, g'] w (Says (cmpV x y) w) := compareOf_all (sizeV x) x y g g' B w (Nat.le_refl _) hx hy hB
end Go.Proofs.YtggnocajpnmemaaGreatDoor.Vl
