/- Faults in memory; slices.Equal of equal lists of them. -/
import Derived.Test.YtggnocajpnmemaaDoorPtW
namespace Go.Proofs.YtggnocajpnmemaaDoor
open Go.RowKit Go.Shelf

structure FV where
  nm : ByteArray
  err : Int
def FRow (w : World) (B : Nat) : List FV → Nat → Nat → Prop
  | [], _, _ => True
  | f :: r, b, off => (b < B ∧ w.cell? ⟨b, off, none⟩ = some (.string f.nm) ∧ w.cell? ⟨b, off + 1, none⟩ = some (.int .i64 f.err)) ∧ FRow w B r b (off + 2)
def FSl (w : World) (B : Nat) (l : List FV) (g : Value) : Prop :=
  ∃ A c, g = .slice A l.length c ∧ l.length ≤ 140737488355328 ∧ l.length ≤ c ∧ (l = [] ∨ ∃ b off, A = some ⟨b, off, none⟩ ∧ FRow w B l b off)
theorem FRow.get {w : World} {B : Nat} : ∀ (l : List FV) (b off j : Nat), FRow w B l b off → (h : j < l.length) →
    b < B ∧ w.cell? ⟨b, off + j * 2, none⟩ = some (.string l[j].nm) ∧ w.cell? ⟨b, off + j * 2 + 1, none⟩ = some (.int .i64 l[j].err)
  | [], _, _, _, _, h => absurd h (by simp)
  | f :: r, b, off, 0, h, _ => by
    unfold FRow at h
    simpa using h.1
  | f :: r, b, off, j + 1, h, hj => by
    unfold FRow at h
    have h2 := FRow.get r b (off + 2) j h.2 (by simpa using hj)
    rw [show off + (j + 1) * 2 = off + 2 + j * 2 by omega]
    simpa using h2
theorem fault_item {w : World} {B : Nat} {l : List FV} {A : Option Addr} {c j : Nat} (h : FSl w B l (.slice A l.length c)) (hj : j < l.length) :
    ∃ b off, A = some ⟨b, off, none⟩ ∧ b < B ∧ w.cell? ⟨b, off + j * 2, none⟩ = some (.string l[j].nm) ∧ w.cell? ⟨b, off + j * 2 + 1, none⟩ = some (.int .i64 l[j].err) := by
  obtain ⟨A', c', e, h1, h2, h3⟩ := h
  injection e with e1 e2 e3
  subst e1
  rcases h3 with h3 | ⟨b, off, rfl, h3⟩
  · rw [h3] at hj; exact absurd hj (by simp)
  · exact ⟨b, off, rfl, FRow.get l b off j h3 hj⟩

set_option maxRecDepth 100000 in
set_option maxHeartbeats 4000000 in
theorem fault_neq (a : ByteArray) (e : Int) (W : World) : (binOp .neq 30 (.agg #[.string a, .int .i64 e]) (.agg #[.string a, .int .i64 e])).run Tryd.prog W = .ok (.bool false) W := by
  go_simp
  repeat' split
  all_goals simp_all

set_option maxRecDepth 100000 in
set_option maxHeartbeats 4000000 in
theorem faultEqual_any (l : List FV) (A1 A2 : Option Addr) (c1 c2 : Nat) (w : World) (h1 : FSl w w.heap.size l (.slice A1 l.length c1)) (h2 : FSl w w.heap.size l (.slice A2 l.length c2)) :
    Calls Tryd.prog 6 #[.slice A1 l.length c1, .slice A2 l.length c2] w (Quiet w (.bool true)) := by
  have hn : l.length ≤ 140737488355328 := by obtain ⟨_, _, e, h1, _⟩ := h1; exact h1
  have H1 := Lib.hid h1
  have H2 := Lib.hid h2
  obtain ⟨n, hnn⟩ : ∃ n, n = l.length := ⟨_, rfl⟩
  rw [← hnn] at hn H1 H2 ⊢
  have HN := Lib.hid hnn
  clear h1 h2 hnn
  go_enter Tryd.func6, Tryd.ntmps6
  go_wp2_with fail
  go_loopw [13] (fun iv wx => ∃ j : Nat, iv = .int .i64 j ∧ j ≤ n ∧ Hid (Below w.heap.size w wx)) (fun iv _ => n - (intOf iv).toNat)
  case atStart => exact ⟨0, rfl, Nat.zero_le _, Lib.hid (Below.refl _ _)⟩
  case round =>
    obtain ⟨j, rfl, hjl, HR⟩ := hrel
    by_cases hj : j < n
    · have hj2 : j < l.length := by rw [← HN.out]; exact hj
      have p2 : (j : Int) < n := by omega
      obtain ⟨b, off, rfl, hlt, g0, g1⟩ := fault_item (by rw [← HN.out]; exact H1.out) hj2
      obtain ⟨b', off', rfl, hlt', g0', g1'⟩ := fault_item (by rw [← HN.out]; exact H2.out) hj2
      replace g0 := (HR.out.cell (p := ⟨b, off + j * 2, none⟩) hlt).trans g0
      replace g1 := (HR.out.cell (p := ⟨b, off + j * 2 + 1, none⟩) hlt).trans g1
      replace g0' := (HR.out.cell (p := ⟨b', off' + j * 2, none⟩) hlt').trans g0'
      replace g1' := (HR.out.cell (p := ⟨b', off' + j * 2 + 1, none⟩) hlt').trans g1'
      obtain ⟨nm, hnm⟩ : ∃ nm, nm = l[j].nm := ⟨_, rfl⟩
      obtain ⟨er, her⟩ : ∃ er, er = l[j].err := ⟨_, rfl⟩
      rw [← hnm] at g0 g0'
      rw [← her] at g1 g1'
      have hop := fun W => fault_neq nm er W
      clear hnm her
      go_wp2_with fail
      go_quiet (fail)
      go_wp2_with fail
      go_roundw
      case rel => exact ⟨j + 1, by go_num, hj, Lib.hid (below_drewN HR.out _)⟩
      case measure => simp [intOf]; omega
    · have p2 : ¬ (j : Int) < n := by omega
      go_wp2_with fail
      go_ret
      exact ⟨rfl, HR.out⟩
end Go.Proofs.YtggnocajpnmemaaDoor
