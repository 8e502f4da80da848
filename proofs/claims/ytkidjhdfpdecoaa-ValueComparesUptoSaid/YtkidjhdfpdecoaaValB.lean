/- Values in memory, and how two of them are compared. -/
import Derived.Test.YtkidjhdfpdecoaaProg
import Derived.Test.YtkidjhdfpdecoaaValA
import Derived.WalkKit
import Derived.WalkLawsBesides
import Derived.Lib.Hide
import Derived.Below
import Derived.Sort.Walk0
import Derived.Deep.DeepCutAuto
import Derived.Deep.CutBlock
import Derived.StillTailTactics
namespace Go.Proofs.Ytkidjhdfpdecoaa.Vl
open Go.RowKit
open Go.Proofs.Ytkidjhdfpdecoaa.Vals

theorem ret_int {k : IntKind} {a b : Int} (h : a = b) : Ending.returned (.int k a) = .returned (.int k b) := by rw [h]

mutual
/-- A value lies as five cells, all of it below block B. -/
def CellsAt (w : World) (B : Nat) : V → Nat → Nat → Prop
  | .mk k i t s l, b, off => b < B ∧ w.cell? ⟨b, off, none⟩ = some (.int .i64 k) ∧ w.cell? ⟨b, off + 1, none⟩ = some (.int .i64 i) ∧ w.cell? ⟨b, off + 2, none⟩ = some (.int .i64 t) ∧
      w.cell? ⟨b, off + 3, none⟩ = some (.string s) ∧ ∃ A c, w.cell? ⟨b, off + 4, none⟩ = some (.slice A l.length c) ∧ l.length ≤ 1048576 ∧ l.length ≤ c ∧ (l = [] ∨ ∃ b' off', A = some ⟨b', off', none⟩ ∧ RowAt w B l b' off')
/-- Values lie one after the other. -/
def RowAt (w : World) (B : Nat) : List V → Nat → Nat → Prop
  | [], _, _ => True
  | x :: xs, b, off => CellsAt w B x b off ∧ RowAt w B xs b (off + 5)
end
/-- A slice of values. -/
def SlAt (w : World) (B : Nat) (l : List V) (g : Value) : Prop :=
  ∃ A c, g = .slice A l.length c ∧ l.length ≤ 1048576 ∧ l.length ≤ c ∧ (l = [] ∨ ∃ b off, A = some ⟨b, off, none⟩ ∧ RowAt w B l b off)
/-- A value in hand. -/
def VAt (w : World) (B : Nat) : V → Value → Prop
  | .mk k i t s l, g => ∃ sl, g = .agg #[.int .i64 k, .int .i64 i, .int .i64 t, .string s, sl] ∧ SlAt w B l sl

mutual
theorem CellsAt.below {w w' : World} {B C : Nat} (hb : Below C w w') (hc : B ≤ C) : ∀ (v : V) (b off : Nat), CellsAt w B v b off → CellsAt w' B v b off
  | .mk k i t s l, b, off, h => by
    unfold CellsAt at h ⊢
    obtain ⟨h0, h1, h2, h3, h4, A, c, h5, h6, h7, h8⟩ := h
    have q : ∀ o, w'.cell? ⟨b, o, none⟩ = w.cell? ⟨b, o, none⟩ := fun o => hb.cell (p := ⟨b, o, none⟩) (by show b < C; omega)
    refine ⟨h0, (q _).trans h1, (q _).trans h2, (q _).trans h3, (q _).trans h4, A, c, (q _).trans h5, h6, h7, ?_⟩
    rcases h8 with h8 | ⟨b', off', rfl, h8⟩
    · exact .inl h8
    · exact .inr ⟨b', off', rfl, RowAt.below hb hc l b' off' h8⟩
theorem RowAt.below {w w' : World} {B C : Nat} (hb : Below C w w') (hc : B ≤ C) : ∀ (l : List V) (b off : Nat), RowAt w B l b off → RowAt w' B l b off
  | [], _, _, _ => trivial
  | x :: xs, b, off, h => by
    unfold RowAt at h ⊢
    exact ⟨CellsAt.below hb hc x b off h.1, RowAt.below hb hc xs b (off + 5) h.2⟩
end
theorem SlAt.below {w w' : World} {B C : Nat} {l : List V} {g : Value} (h : SlAt w B l g) (hb : Below C w w') (hc : B ≤ C) : SlAt w' B l g := by
  obtain ⟨A, c, e, h1, h2, h3⟩ := h
  refine ⟨A, c, e, h1, h2, ?_⟩
  rcases h3 with h3 | ⟨b, off, rfl, h3⟩
  · exact .inl h3
  · exact .inr ⟨b, off, rfl, h3.below hb hc⟩
theorem VAt.below {w w' : World} {B C : Nat} {v : V} {g : Value} (h : VAt w B v g) (hb : Below C w w') (hc : B ≤ C) : VAt w' B v g := by
  cases v
  obtain ⟨sl, e, h⟩ := h
  exact ⟨sl, e, h.below hb hc⟩

set_option maxHeartbeats 400000 in
theorem cmpInt_any (x y : Int) (w : World) :
    Calls Try.prog 12 #[.int .i64 x, .int .i64 y] w fun e w' => e = .returned (.int .i64 (cmpI x y)) ∧ w = w' := by
  have q1 : (x != x) = false := by simp
  rcases (by omega : x < y ∨ x = y ∨ y < x) with h | h | h
  · have HF : Hid (cmpI x y = -1) := Lib.hid (by unfold cmpI; rw [if_pos h])
    go_enter Try.func12, Try.ntmps12
    go_wp2
    go_ret
    exact ⟨by rw [HF.out]; rfl, rfl⟩
  · subst h
    have HF : Hid (cmpI x x = 0) := Lib.hid (by unfold cmpI; simp)
    go_enter Try.func12, Try.ntmps12
    go_wp2
    go_ret
    exact ⟨by rw [HF.out]; rfl, rfl⟩
  · have HF : Hid (cmpI x y = 1) := Lib.hid (by unfold cmpI; rw [if_neg (by omega), if_pos h])
    go_enter Try.func12, Try.ntmps12
    go_wp2
    go_ret
    exact ⟨by rw [HF.out]; rfl, rfl⟩

set_option maxHeartbeats 400000 in
theorem cmpStr_any (x y : ByteArray) (w : World) :
    Calls Try.prog 18 #[.string x, .string y] w fun e w' => e = .returned (.int .i64 (cmpS x y)) ∧ w = w' := by
  go_enter Try.func18, Try.ntmps18
  go_wp2
  · have h : Op.bytesLess x.toList y.toList = true := by assumption
    rw [Proofs.bytesLess_eq, Lib.toList_data, Lib.toList_data] at h
    go_ret
    refine ⟨ret_int ?_, rfl⟩
    unfold cmpS; rw [if_pos (by simpa using h)]
  · have h : Op.bytesLess x.toList y.toList = false := by assumption
    have g : (!x.toList == y.toList) = true := by assumption
    rw [Proofs.bytesLess_eq, Lib.toList_data, Lib.toList_data] at h
    rw [Lib.toList_data, Lib.toList_data] at g
    go_ret
    refine ⟨ret_int ?_, rfl⟩
    have h' : ¬ x.data.toList < y.data.toList := by simpa using h
    have g' : y.data.toList < x.data.toList := by
      rcases lt_tri x.data.toList y.data.toList with a | a | a
      · exact absurd a h'
      · simp [a] at g
      · exact a
    unfold cmpS; rw [if_neg h', if_pos g']
  · have h : Op.bytesLess x.toList y.toList = false := by assumption
    have g : (!x.toList == y.toList) = false := by assumption
    rw [Proofs.bytesLess_eq, Lib.toList_data, Lib.toList_data] at h
    rw [Lib.toList_data, Lib.toList_data] at g
    go_ret
    refine ⟨ret_int ?_, rfl⟩
    have e : x.data.toList = y.data.toList := by simpa using g
    unfold cmpS; rw [e]; simp [List.lt_irrefl]

set_option maxHeartbeats 400000 in
/-- Two numbers in a row of the caller's. -/
theorem cmpOr_any (a b : Int) (B off c : Nat) (w : World) (h0 : w.cell? ⟨B, off, none⟩ = some (.int .i64 a)) (h1 : w.cell? ⟨B, off + 1, none⟩ = some (.int .i64 b)) :
    Calls Try.prog 13 #[.slice (some ⟨B, off, none⟩) 2 c] w fun e w' => e = .returned (.int .i64 (orI a b)) ∧ w = w' := by
  go_enter Try.func13, Try.ntmps13
  go_wp2_with fail
  go_loop [8] (fun i => ∃ k : Nat, k ≤ 2 ∧ i = .int .i64 k ∧ Hid ((1 ≤ k → a = 0) ∧ (k = 2 → b = 0))) (fun i => 2 - (intOf i).toNat)
  case atStart => exact ⟨0, by omega, rfl, Lib.hid (by omega)⟩
  case round =>
    obtain ⟨k, hk, rfl, hz⟩ := hrel
    rcases (by omega : k = 0 ∨ k = 1 ∨ k = 2) with rfl | rfl | rfl
    · by_cases ha : a = 0
      · have q1 : (a != 0) = false := by simpa using ha
        have HA := Lib.hid ha
        clear ha
        go_wp2
        go_round
        case rel => exact ⟨1, by omega, by go_num, Lib.hid ⟨fun _ => HA.out, by omega⟩⟩
        case measure => simp [intOf]
      · have q1 : (a != 0) = true := by simpa using ha
        have HA := Lib.hid ha
        clear ha
        go_wp2
        go_ret
        refine ⟨ret_int ?_, rfl⟩
        unfold orI; rw [if_neg HA.out]
    · by_cases hb : b = 0
      · have q1 : (b != 0) = false := by simpa using hb
        have HB := Lib.hid hb
        clear hb
        go_wp2
        go_round
        case rel => exact ⟨2, by omega, by go_num, Lib.hid ⟨fun _ => hz.out.1 (by omega), fun _ => HB.out⟩⟩
        case measure => simp [intOf]
      · have q1 : (b != 0) = true := by simpa using hb
        clear hb
        go_wp2
        go_ret
        refine ⟨ret_int ?_, rfl⟩
        unfold orI; rw [if_pos (hz.out.1 (by omega))]
    · go_wp2
      go_ret
      refine ⟨ret_int ?_, rfl⟩
      unfold orI; rw [if_pos (hz.out.1 (by omega)), hz.out.2 trivial]

/-- The comparison's answer; what lay there is as it was. -/
def Says (x : Int) (w : World) (e : Ending) (w' : World) : Prop := e = .returned (.int .i64 x) ∧ Below w.heap.size w w'

theorem two_boxes (w : World) (a b : Obj) : Below w.heap.size w ((w.alloc a).alloc b) :=
  ((Below.refl _ _).alloc (Nat.le_refl _) _).alloc (by simp) _

set_option maxHeartbeats 1000000 in
theorem compareSingle_other (k i t : Int) (s : ByteArray) (sl : Value) (k' i' t' : Int) (s' : ByteArray) (sl' : Value) (w : World) (h : k ≠ k') :
    Calls Try.prog 11 #[.agg #[.int .i64 k, .int .i64 i, .int .i64 t, .string s, sl], .agg #[.int .i64 k', .int .i64 i', .int .i64 t', .string s', sl']] w (Says (single k i t s k' i' t' s') w) := by
  have q1 : (k != k') = true := by simpa using h
  have q2 : (k == k') = false := by simpa using h
  have HF : Hid (single k i t s k' i' t' s' = cmpI k k') := Lib.hid (by unfold single; rw [if_pos h])
  clear h
  go_enter Try.func11, Try.ntmps11
  go_wp2_with fail
  refine (cmpInt_any _ _ _).mono ?_
  rintro e w' ⟨rfl, rfl⟩
  go_wp2
  go_ret
  exact ⟨by rw [HF.out]; rfl, two_boxes w _ _⟩

set_option maxHeartbeats 1000000 in
theorem compareSingle_int (k i t : Int) (s : ByteArray) (sl : Value) (i' t' : Int) (s' : ByteArray) (sl' : Value) (w : World) (h : k = 1 ∨ k = 2 ∨ k = 4) :
    Calls Try.prog 11 #[.agg #[.int .i64 k, .int .i64 i, .int .i64 t, .string s, sl], .agg #[.int .i64 k, .int .i64 i', .int .i64 t', .string s', sl']] w (Says (single k i t s k i' t' s') w) := by
  have HF : Hid (single k i t s k i' t' s' = cmpI i i') := Lib.hid (by unfold single; rw [if_neg (by simp), if_pos h])
  rcases h with rfl | rfl | rfl
  all_goals
    go_enter Try.func11, Try.ntmps11
    go_wp2_with fail
    refine (cmpInt_any _ _ _).mono ?_
    rintro e w' ⟨rfl, rfl⟩
    go_wp2
    go_ret
    exact ⟨by rw [HF.out]; rfl, two_boxes w _ _⟩

set_option maxHeartbeats 1000000 in
theorem compareSingle_str (k i t : Int) (s : ByteArray) (sl : Value) (i' t' : Int) (s' : ByteArray) (sl' : Value) (w : World) (h : k = 3 ∨ k = 6) :
    Calls Try.prog 11 #[.agg #[.int .i64 k, .int .i64 i, .int .i64 t, .string s, sl], .agg #[.int .i64 k, .int .i64 i', .int .i64 t', .string s', sl']] w (Says (single k i t s k i' t' s') w) := by
  have HF : Hid (single k i t s k i' t' s' = cmpS s s') := Lib.hid (by unfold single; rw [if_neg (by simp), if_neg (by omega), if_neg (by omega), if_pos h])
  rcases h with rfl | rfl
  all_goals
    go_enter Try.func11, Try.ntmps11
    go_wp2_with fail
    refine (cmpStr_any _ _ _).mono ?_
    rintro e w' ⟨rfl, rfl⟩
    go_wp2
    go_ret
    exact ⟨by rw [HF.out]; rfl, two_boxes w _ _⟩

set_option maxHeartbeats 1000000 in
theorem compareSingle_none (k i t : Int) (s : ByteArray) (sl : Value) (i' t' : Int) (s' : ByteArray) (sl' : Value) (w : World) (h : ¬ (k = 1 ∨ k = 2 ∨ k = 4 ∨ k = 5 ∨ k = 3 ∨ k = 6)) :
    Calls Try.prog 11 #[.agg #[.int .i64 k, .int .i64 i, .int .i64 t, .string s, sl], .agg #[.int .i64 k, .int .i64 i', .int .i64 t', .string s', sl']] w (Says (single k i t s k i' t' s') w) := by
  have HF : Hid (single k i t s k i' t' s' = 0) := Lib.hid (by unfold single; rw [if_neg (by simp), if_neg (by omega), if_neg (by omega), if_neg (by omega)])
  have q1 : (k == 1) = false := by simp; omega
  have q2 : (k == 2) = false := by simp; omega
  have q3 : (k == 3) = false := by simp; omega
  have q4 : (k == 4) = false := by simp; omega
  have q5 : (k == 5) = false := by simp; omega
  have q6 : (k == 6) = false := by simp; omega
  clear h
  go_enter Try.func11, Try.ntmps11
  go_wp2
  go_ret
  exact ⟨by rw [HF.out]; rfl, two_boxes w _ _⟩

set_option maxHeartbeats 1000000 in
set_option maxRecDepth 100000 in
theorem compareSingle_span (i t : Int) (s : ByteArray) (sl : Value) (i' t' : Int) (s' : ByteArray) (sl' : Value) (w : World) :
    Calls Try.prog 11 #[.agg #[.int .i64 5, .int .i64 i, .int .i64 t, .string s, sl], .agg #[.int .i64 5, .int .i64 i', .int .i64 t', .string s', sl']] w (Says (single 5 i t s 5 i' t' s') w) := by
  have HF : Hid (single 5 i t s 5 i' t' s' = orI (cmpI i i') (cmpI t t')) := Lib.hid (by unfold single; simp)
  obtain ⟨p, hp⟩ : ∃ p, p = cmpI i i' := ⟨_, rfl⟩
  obtain ⟨q, hq⟩ : ∃ q, q = cmpI t t' := ⟨_, rfl⟩
  have HP := Lib.hid hp
  have HQ := Lib.hid hq
  rw [← hp, ← hq] at HF
  clear hp hq
  go_enter Try.func11, Try.ntmps11
  go_wp2_with fail
  obtain ⟨W2, hW2⟩ : ∃ W2, W2 = (w.alloc (.cells #[.int .i64 5, .int .i64 i, .int .i64 t, .string s, sl] 24)).alloc (.cells #[.int .i64 5, .int .i64 i', .int .i64 t', .string s', sl'] 24) := ⟨_, rfl⟩
  rw [← hW2]
  have c1 : ({ W2 with drawn := W2.drawn + 1 } : World).cell? ⟨w.heap.size, 1, none⟩ = some (.int .i64 i) := by show W2.cell? _ = _; rw [hW2]; simp [go_sem]
  have c2 : ({ W2 with drawn := W2.drawn + 1 } : World).cell? ⟨w.heap.size, 2, none⟩ = some (.int .i64 t) := by show W2.cell? _ = _; rw [hW2]; simp [go_sem]
  have c3 : ({ W2 with drawn := W2.drawn + 1 } : World).cell? ⟨w.heap.size + 1, 1, none⟩ = some (.int .i64 i') := by show W2.cell? _ = _; rw [hW2]; simp [go_sem]
  have c4 : ({ W2 with drawn := W2.drawn + 1 } : World).cell? ⟨w.heap.size + 1, 2, none⟩ = some (.int .i64 t') := by show W2.cell? _ = _; rw [hW2]; simp [go_sem]
  have hb : Below w.heap.size w ({ W2 with drawn := W2.drawn + 1 } : World) := by rw [hW2]; exact (two_boxes w _ _).drew
  have hsz : w.heap.size ≤ ({ W2 with drawn := W2.drawn + 1 } : World).heap.size := hb.size
  refine wp_region_still_tail 10 (by kernel_rfl) (by kernel_rfl) ?_
  generalize ({ W2 with drawn := W2.drawn + 1 } : World) = W3 at *
  clear hW2
  simp only [List.take_succ_cons, List.take_zero, List.drop_succ_cons, List.drop_zero]
  still_step
  still_step
  still_step
  still_step
  still_call ((cmpInt_any i i' _).mono fun _ _ ⟨h, g⟩ => ⟨h, g.symm⟩)
  rw [← HP.out]
  still_step
  still_step
  still_step
  still_step
  still_call ((cmpInt_any t t' _).mono fun _ _ ⟨h, g⟩ => ⟨h, g.symm⟩)
  rw [← HQ.out]
  refine wpStill_nil ?_
  have HB := Lib.hid hb
  clear hb c1 c2 c3 c4
  go_wp2_with fail
  refine (cmpOr_any p q _ _ _ _ (by rw [World.cell?_alloc_at _ _ _ _ rfl]; rfl) (by rw [World.cell?_alloc_at _ _ _ _ rfl]; rfl)).mono ?_
  rintro e w' ⟨rfl, rfl⟩
  go_wp2
  go_ret
  exact ⟨by rw [HF.out]; rfl, HB.out.alloc hsz _⟩

theorem compareSingle_any (x y : V) (g g' : Value) (B : Nat) (w : World) (hx : VAt w B x g) (hy : VAt w B y g') :
    Calls Try.prog 11 #[g, g'] w (Says (cmp1 x y) w) := by
  obtain ⟨k, i, t, s, l⟩ := x
  obtain ⟨k', i', t', s', l'⟩ := y
  obtain ⟨sl, rfl, _⟩ := hx
  obtain ⟨sl', rfl, _⟩ := hy
  show Calls _ _ _ _ (Says (single k i t s k' i' t' s') w)
  by_cases h : k = k'
  · subst h
    rcases (by omega : (k = 1 ∨ k = 2 ∨ k = 4) ∨ k = 5 ∨ (k = 3 ∨ k = 6) ∨ ¬ (k = 1 ∨ k = 2 ∨ k = 4 ∨ k = 5 ∨ k = 3 ∨ k = 6)) with h | h | h | h
    · exact compareSingle_int k i t s sl i' t' s' sl' w h
    · subst h; exact compareSingle_span i t s sl i' t' s' sl' w
    · exact compareSingle_str k i t s sl i' t' s' sl' w h
    · exact compareSingle_none k i t s sl i' t' s' sl' w h
  · exact compareSingle_other k i t s sl k' i' t' s' sl' w h
end Go.Proofs.Ytkidjhdfpdecoaa.Vl
