/- Lists of strings in memory; slices.Index and slices.Contains at strings. -/
import Derived.Test.YtggnocajpnmemaaDoorPtP
namespace Go.Proofs.YtggnocajpnmemaaDoor
open Go.RowKit Go.Shelf

/-- Strings lie one after the other, all of them below block B. -/
def SRow (w : World) (B : Nat) : List ByteArray → Nat → Nat → Prop
  | [], _, _ => True
  | s :: r, b, off => (b < B ∧ w.cell? ⟨b, off, none⟩ = some (.string s) ∧ s.size ≤ 140737488355328) ∧ SRow w B r b (off + 1)
def StSl (w : World) (B : Nat) (l : List ByteArray) (g : Value) : Prop :=
  ∃ A c, g = .slice A l.length c ∧ l.length ≤ 140737488355328 ∧ l.length ≤ c ∧ (l = [] ∨ ∃ b off, A = some ⟨b, off, none⟩ ∧ SRow w B l b off)
theorem SRow.get {w : World} {B : Nat} : ∀ (l : List ByteArray) (b off j : Nat), SRow w B l b off → (h : j < l.length) →
    b < B ∧ w.cell? ⟨b, off + j, none⟩ = some (.string l[j]) ∧ l[j].size ≤ 140737488355328
  | [], _, _, _, _, h => absurd h (by simp)
  | s :: r, b, off, 0, h, _ => by
    unfold SRow at h
    simpa using h.1
  | s :: r, b, off, j + 1, h, hj => by
    unfold SRow at h
    have h2 := SRow.get r b (off + 1) j h.2 (by simpa using hj)
    rw [show off + (j + 1) = off + 1 + j by omega]
    simpa using h2
theorem SRow.take {w : World} {B : Nat} : ∀ (l : List ByteArray) (b off j : Nat), SRow w B l b off → SRow w B (l.take j) b off
  | [], _, _, _, _ => by rw [List.take_nil]; trivial
  | s :: r, _, _, 0, _ => trivial
  | s :: r, b, off, j + 1, h => by
    unfold SRow at h
    exact ⟨h.1, SRow.take r b (off + 1) j h.2⟩
theorem SRow.below {w w' : World} {B C : Nat} (hb : Below C w w') (hc : B ≤ C) : ∀ (l : List ByteArray) (b off : Nat), SRow w B l b off → SRow w' B l b off
  | [], _, _, _ => trivial
  | s :: r, b, off, h => by
    unfold SRow at h ⊢
    obtain ⟨⟨h0, h1, hz⟩, h3⟩ := h
    exact ⟨⟨h0, (hb.cell (p := ⟨b, off, none⟩) (by show b < C; omega)).trans h1, hz⟩, SRow.below hb hc r b (off + 1) h3⟩
theorem SRow.up {w : World} {B C : Nat} (hc : B ≤ C) : ∀ (l : List ByteArray) (b off : Nat), SRow w B l b off → SRow w C l b off
  | [], _, _, _ => trivial
  | s :: r, b, off, h => by
    unfold SRow at h ⊢
    obtain ⟨⟨h0, h1, hz⟩, h3⟩ := h
    exact ⟨⟨by omega, h1, hz⟩, SRow.up hc r b (off + 1) h3⟩
theorem StSl.below {w w' : World} {B C : Nat} {l : List ByteArray} {g : Value} (h : StSl w B l g) (hb : Below C w w') (hc : B ≤ C) : StSl w' B l g := by
  obtain ⟨A, c, e, h1, h2, h3⟩ := h
  refine ⟨A, c, e, h1, h2, ?_⟩
  rcases h3 with h3 | ⟨b, off, rfl, h3⟩
  · exact .inl h3
  · exact .inr ⟨b, off, rfl, h3.below hb hc⟩
theorem StSl.up {w : World} {B C : Nat} {l : List ByteArray} {g : Value} (h : StSl w B l g) (hc : B ≤ C) : StSl w C l g := by
  obtain ⟨A, c, e, h1, h2, h3⟩ := h
  refine ⟨A, c, e, h1, h2, ?_⟩
  rcases h3 with h3 | ⟨b, off, rfl, h3⟩
  · exact .inl h3
  · exact .inr ⟨b, off, rfl, h3.up hc⟩
/-- The first strings of a list. -/
theorem StSl.take {w : World} {B : Nat} {l : List ByteArray} {A : Option Addr} {c j : Nat} (h : StSl w B l (.slice A l.length c)) (hj : j ≤ l.length) : StSl w B (l.take j) (.slice A (l.take j).length c) := by
  obtain ⟨A', c', e, h1, h2, h3⟩ := h
  injection e with e1 e2 e3
  subst e1 e3
  have hl : (l.take j).length = j := by rw [List.length_take]; omega
  refine ⟨A, c, rfl, by omega, by omega, ?_⟩
  rcases h3 with h3 | ⟨b, off, rfl, h3⟩
  · exact .inl (by rw [h3, List.take_nil])
  · exact .inr ⟨b, off, rfl, h3.take _ _ _ _⟩
def hasS (l : List ByteArray) (v : ByteArray) : Bool := l.any fun x => v.toList == x.toList
theorem hasS_yes {l : List ByteArray} {v : ByteArray} {j : Nat} (hj : j < l.length) (h : (v.toList == l[j].toList) = true) : hasS l v = true := by
  unfold hasS; rw [List.any_eq_true]; exact ⟨l[j], List.getElem_mem hj, h⟩
theorem hasS_no {l : List ByteArray} {v : ByteArray} (h : ∀ j (hj : j < l.length), (v.toList == l[j].toList) = false) : hasS l v = false := by
  unfold hasS; rw [List.any_eq_false]
  intro x hx
  obtain ⟨j, hj, rfl⟩ := List.mem_iff_getElem.mp hx
  rw [h j hj]; simp

set_option maxRecDepth 100000 in
set_option maxHeartbeats 4000000 in
theorem strIndex_any (l : List ByteArray) (v : ByteArray) (A : Option Addr) (c B : Nat) (w : World) (hl : StSl w B l (.slice A l.length c)) :
    Calls Tryd.prog 24 #[.slice A l.length c, .string v] w fun e w' => (∃ r : Int, e = .returned (.int .i64 r) ∧ decide (0 ≤ r) = hasS l v) ∧ w' = w := by
  have hn : l.length ≤ 140737488355328 := by obtain ⟨_, _, e, h1, _⟩ := hl; exact h1
  have HSL := Lib.hid hl
  obtain ⟨n, hnn⟩ : ∃ n, n = l.length := ⟨_, rfl⟩
  rw [← hnn] at hn HSL ⊢
  have HN := Lib.hid hnn
  clear hl hnn
  go_enter Tryd.func24, Tryd.ntmps24
  go_wp2_with fail
  go_loopw [8] (fun iv wx => ∃ j : Nat, iv = .int .i64 j ∧ j ≤ n ∧ wx = w ∧ Hid (∀ k (hk : k < l.length), k < j → (v.toList == l[k].toList) = false)) (fun iv _ => n - (intOf iv).toNat)
  case atStart => exact ⟨0, rfl, Nat.zero_le _, rfl, Lib.hid (fun _ _ h => absurd h (by omega))⟩
  case round =>
    obtain ⟨j, rfl, hjl, hw, HR⟩ := hrel
    rw [hw]
    clear hw
    by_cases hj : j < n
    · have hj2 : j < l.length := by rw [← HN.out]; exact hj
      have p2 : (j : Int) < n := by omega
      obtain ⟨b, off, rfl, gj⟩ : ∃ b off, A = some ⟨b, off, none⟩ ∧ w.cell? ⟨b, off + j, none⟩ = some (.string l[j]) := by
        obtain ⟨A', c', e, h1, h2, h3⟩ := HSL.out
        injection e with e1 e2 e3
        subst e1
        rcases h3 with h3 | ⟨b, off, rfl, h3⟩
        · rw [h3] at hj2; exact absurd hj2 (by simp)
        · exact ⟨b, off, rfl, (SRow.get l b off j h3 hj2).2.1⟩
      obtain ⟨x, hx⟩ : ∃ x, x = l[j] := ⟨_, rfl⟩
      rw [← hx] at gj
      rcases he : (v.toList == x.toList) with _ | _
      · have HR2 : Hid (∀ k (hk : k < l.length), k < j + 1 → (v.toList == l[k].toList) = false) := Lib.hid (by
          intro k hk hk2
          by_cases hkj : k < j
          · exact HR.out k hk hkj
          · obtain rfl : k = j := by omega
            rw [← hx]; exact he)
        clear hx HR
        go_wp2_with fail
        go_roundw
        case rel => refine ⟨j + 1, by go_num, hj, ?_, HR2⟩; trivial
        case measure => simp [intOf]; omega
      · have HY : Hid (hasS l v = true) := Lib.hid (hasS_yes hj2 (by rw [← hx]; exact he))
        clear hx HR
        go_wp2_with fail
        go_ret
        exact ⟨⟨j, rfl, by rw [HY.out]; exact decide_eq_true (by omega)⟩, rfl⟩
    · have p2 : ¬ (j : Int) < n := by omega
      have HY : Hid (hasS l v = false) := Lib.hid (hasS_no (fun k hk => HR.out k hk (by rw [← HN.out] at hk; omega)))
      clear HR
      go_wp2_with fail
      go_ret
      exact ⟨⟨-1, rfl, by rw [HY.out]; rfl⟩, rfl⟩

set_option maxRecDepth 100000 in
set_option maxHeartbeats 4000000 in
theorem strContains_any (l : List ByteArray) (v : ByteArray) (A : Option Addr) (c B : Nat) (w : World) (hl : StSl w B l (.slice A l.length c)) :
    Calls Tryd.prog 13 #[.slice A l.length c, .string v] w fun e w' => e = .returned (.bool (hasS l v)) ∧ w' = w := by
  have HI := Lib.hid (strIndex_any l v A c B w hl)
  obtain ⟨n, hnn⟩ : ∃ n, n = l.length := ⟨_, rfl⟩
  rw [← hnn] at HI ⊢
  clear hl hnn
  go_enter Tryd.func13, Tryd.ntmps13
  go_wp2_with fail
  refine HI.out.mono ?_
  rintro e2 w2 ⟨⟨r, rfl, hr⟩, hw⟩
  rw [hw]
  have HR := Lib.hid hr
  clear hw hr
  go_wp2_with fail
  go_ret
  exact ⟨ret_bool HR.out, rfl⟩
end Go.Proofs.YtggnocajpnmemaaDoor
