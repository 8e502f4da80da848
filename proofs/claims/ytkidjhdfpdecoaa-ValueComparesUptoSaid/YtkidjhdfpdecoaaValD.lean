/- Two values compared. -/
import Derived.Test.YtkidjhdfpdecoaaValC
import Derived.WalkKit
import Derived.Lib.Hide
import Derived.Below
namespace Go.Proofs.Ytkidjhdfpdecoaa.Vl
open Go.RowKit
open Go.Proofs.Ytkidjhdfpdecoaa.Vals

mutual
theorem CellsAt.up {w : World} {B C : Nat} (hc : B ≤ C) : ∀ (v : V) (b off : Nat), CellsAt w B v b off → CellsAt w C v b off
  | .mk k i t s l, b, off, h => by
    unfold CellsAt at h ⊢
    obtain ⟨h0, h1, h2, h3, h4, A, c, h5, h6, h7, h8⟩ := h
    refine ⟨by omega, h1, h2, h3, h4, A, c, h5, h6, h7, ?_⟩
    rcases h8 with h8 | ⟨b', off', rfl, h8⟩
    · exact .inl h8
    · exact .inr ⟨b', off', rfl, RowAt.up hc l b' off' h8⟩
theorem RowAt.up {w : World} {B C : Nat} (hc : B ≤ C) : ∀ (l : List V) (b off : Nat), RowAt w B l b off → RowAt w C l b off
  | [], _, _, _ => trivial
  | x :: xs, b, off, h => by
    unfold RowAt at h ⊢
    exact ⟨CellsAt.up hc x b off h.1, RowAt.up hc xs b (off + 5) h.2⟩
end
theorem SlAt.up {w : World} {B C : Nat} {l : List V} {g : Value} (h : SlAt w B l g) (hc : B ≤ C) : SlAt w C l g := by
  obtain ⟨A, c, e, h1, h2, h3⟩ := h
  refine ⟨A, c, e, h1, h2, ?_⟩
  rcases h3 with h3 | ⟨b, off, rfl, h3⟩
  · exact .inl h3
  · exact .inr ⟨b, off, rfl, h3.up hc⟩
theorem VAt.up {w : World} {B C : Nat} {v : V} {g : Value} (h : VAt w B v g) (hc : B ≤ C) : VAt w C v g := by
  cases v
  obtain ⟨sl, e, h⟩ := h
  exact ⟨sl, e, h.up hc⟩

set_option maxHeartbeats 1000000 in
theorem compare_any (x y : V) (g g' : Value) (B : Nat) (w : World) (hx : VAt w B x g) (hy : VAt w B y g') (hB : B ≤ w.heap.size) (hs : sizeV x ≤ 2000000) :
    Calls Try.prog 4 #[g, g'] w (Says (cmpV x y) w) := by
  obtain ⟨k, i, t, s, l⟩ := x
  obtain ⟨k', i', t', s', l'⟩ := y
  have HX := Lib.hid hx
  have HY := Lib.hid hy
  obtain ⟨sl, rfl, hl⟩ := hx
  obtain ⟨sl', rfl, hl'⟩ := hy
  by_cases h : k = 7 ∧ k' = 7
  · obtain ⟨rfl, rfl⟩ := h
    have HF : Hid (cmpV (.mk 7 i t s l) (.mk 7 i' t' s' l') = cmpL l l') := Lib.hid (cmpV_list rfl rfl)
    have HL := Lib.hid hl
    have HL' := Lib.hid hl'
    have hsz : sizeL l ≤ 2000000 := by unfold sizeV at hs; omega
    obtain ⟨A, c, rfl, _⟩ := hl
    obtain ⟨A', c', rfl, _⟩ := hl'
    go_enter Try.func4, Try.ntmps4
    go_wp2_with fail
    have hb2 := fun a b : Obj => two_boxes w a b
    have hup : ∀ a b : Obj, B ≤ ((w.alloc a).alloc b).heap.size := fun a b => Nat.le_trans hB (two_boxes w a b).size
    refine (lists_any l l' _ _ _ ((HL.out.below (hb2 _ _) hB).up (hup _ _)) ((HL'.out.below (hb2 _ _) hB).up (hup _ _)) hsz).mono ?_
    rintro e w' ⟨rfl, hbel⟩
    have HB : Hid (Below w.heap.size w w') := Lib.hid ((hb2 _ _).trans (hbel.mono (hb2 _ _).size))
    clear hbel hb2 hup
    go_wp2
    go_ret
    exact ⟨by rw [HF.out]; rfl, HB.out⟩
  · have HF : Hid (cmpV (.mk k i t s l) (.mk k' i' t' s' l') = cmp1 (.mk k i t s l) (.mk k' i' t' s' l')) := Lib.hid (cmpV_one h)
    rcases (by omega : ¬ k = 7 ∨ (k = 7 ∧ ¬ k' = 7)) with h1 | ⟨rfl, h1⟩
    case' inl => have q1 : (k == 7) = false := by simpa using h1
    case' inr => have q1 : (k' == 7) = false := by simpa using h1
    all_goals
      clear h h1
      go_enter Try.func4, Try.ntmps4
      go_wp2_with fail
      have hb2 := fun a b : Obj => two_boxes w a b
      refine (compareSingle_any _ _ _ _ B _ (HX.out.below (hb2 _ _) hB) (HY.out.below (hb2 _ _) hB)).mono ?_
      rintro e w' ⟨rfl, hbel⟩
      have HB : Hid (Below w.heap.size w w') := Lib.hid ((hb2 _ _).trans (hbel.mono (hb2 _ _).size))
      clear hbel hb2
      go_wp2
      go_ret
      exact ⟨by rw [HF.out]; rfl, HB.out⟩

mutual
theorem cmpV_bd : ∀ a b : V, -1 ≤ cmpV a b ∧ cmpV a b ≤ 1
  | .mk k i t s l, .mk k' i' t' s' l' => by
    unfold cmpV
    by_cases h : k = 7 ∧ k' = 7
    · rw [if_pos h]; exact cmpL_bd l l'
    · rw [if_neg h]; unfold single cmpS orI cmpI; repeat' split
      all_goals omega
theorem cmpL_bd : ∀ a b : List V, -1 ≤ cmpL a b ∧ cmpL a b ≤ 1
  | [], [] => by simp [cmpL]
  | [], _ :: _ => by simp [cmpL]
  | _ :: _, [] => by simp [cmpL]
  | x :: xs, y :: ys => by
    unfold cmpL orI
    have := cmpV_bd x y
    have := cmpL_bd xs ys
    split <;> omega
end

end Go.Proofs.Ytkidjhdfpdecoaa.Vl
