/- Package text, part 6: how many pairs of stars there are. -/
import Derived.Test.YtdhaanlgijikeaaDoorTxE
import Derived.WalkKit
import Derived.Lib.Hide
import Derived.Outline
namespace Go.Proofs.YtdhaanlgijikeaaDoor
open Go.RowKit

theorem lt_of_blk {w : World} {B : Nat} {o : Obj} (h : w.heap[B]? = some o) : B < w.heap.size := by
  rcases Nat.lt_or_ge B w.heap.size with hlt | hge
  · exact hlt
  · rw [Array.getElem?_eq_none hge] at h; cases h

/-- A block of one cell. -/
def One (w : World) (B : Nat) (v : Value) (T : TypeId) : Prop := w.heap[B]? = some (.cells #[v] T (0, 0))
theorem One.cell {w : World} {B : Nat} {v : Value} {T : TypeId} (h : One w B v T) : w.cell? ⟨B, 0, none⟩ = some v := cell_of_row w B 0 _ T (0, 0) h
theorem One.frozen {w : World} {B : Nat} {v : Value} {T : TypeId} (h : One w B v T) : w.frozen? ⟨B, 0, none⟩ = false := frozen_of_row w B 0 _ T h
theorem One.lt {w : World} {B : Nat} {v : Value} {T : TypeId} (h : One w B v T) : B < w.heap.size := lt_of_blk h
theorem One.set_ {w : World} {B : Nat} {v : Value} {T : TypeId} (h : One w B v T) (u : Value) : One (w.setCell ⟨B, 0, none⟩ u) B u T := by
  unfold One at h ⊢
  simp [World.setCell, Array.getElem?_modify, h]
theorem One.kept {w w' : World} {B : Nat} {v : Value} {T : TypeId} (h : One w B v T) (hb : w'.heap[B]? = w.heap[B]?) : One w' B v T := hb.trans h
theorem out_set (w : World) (B : Nat) (u : Value) : Out (fun k => k = B) w (w.setCell ⟨B, 0, none⟩ u) :=
  ⟨rfl, rfl, rfl, by simp [World.setCell], fun k _ hk => Below.heap_setCell w ⟨B, 0, none⟩ u k hk⟩

def stars (l : List Tok) : Nat := (l.filter fun t => t.kind == 5).length
theorem stars_snoc (l : List Tok) (t : Tok) : stars (l ++ [t]) = stars l + if t.kind = 5 then 1 else 0 := by
  unfold stars
  rw [List.filter_append, List.length_append]
  by_cases h : t.kind = 5 <;> simp [h]

theorem toksF_kind (s : ByteArray) : ∀ (n a : Nat), ∀ t ∈ toksF s n a, t.kind < 6
  | 0, _, t, h => by simp [toksF] at h
  | n + 1, a, t, h => by
    unfold toksF at h
    split at h
    · split at h
      · rename_i k hk
        have hk6 := (firstK_hit hk).2
        rcases List.mem_cons.1 h with rfl | h
        · exact hk6
        · exact toksF_kind s n _ t h
      · exact toksF_kind s n _ t h
    · simp at h
theorem toksF_len (s : ByteArray) : ∀ (n a : Nat), (toksF s n a).length ≤ n
  | 0, _ => by simp [toksF]
  | n + 1, a => by
    unfold toksF
    split
    · split
      · rw [List.length_cons]; have := toksF_len s n (tokEnd s a ‹_›); omega
      · have := toksF_len s n (a + 1); omega
    · simp
theorem stars_le {s : ByteArray} {pre post : List Tok} (h : toks s = pre ++ post) : stars pre ≤ s.size := by
  have h1 : pre.length ≤ (toks s).length := by rw [h]; simp
  have h2 : (toks s).length ≤ s.size := toksF_len s s.size 0
  have h3 : stars pre ≤ pre.length := List.length_filter_le _ _
  omega

/-- The counter of stars. -/
def StarI (C : Nat) (done : List Tok) (F : Nat → Prop) (w : World) : Prop := F = (fun k => k = C) ∧ One w C (.int .i64 (stars done)) 3

set_option maxHeartbeats 1000000 in
theorem star_step (C : Nat) (n : Nat) (t : Tok) (w : World) (h : One w C (.int .i64 n) 3) (hn : n ≤ 140737488355328) :
    Calls Tryd.prog 25 (tokArgs t ++ #[.pointer (some ⟨C, 0, none⟩)]) w fun e w' => e = .returned (.tuple #[]) ∧ One w' C (.int .i64 (n + if t.kind = 5 then 1 else 0 : Nat)) 3 ∧ Out (fun k => k = C) w w' := by
  have hc := h.cell
  have hf := h.frozen
  have HO := Lib.hid h
  clear h
  obtain ⟨k, f, e⟩ := t
  by_cases hk : k = 5
  · have d1 : ((k : Int) == 5) = true := by simp; omega
    subst hk
    show Calls Tryd.prog 25 #[.int .i64 5, .int .i64 f, .int .i64 e, .pointer (some ⟨C, 0, none⟩)] w _
    go_enter Tryd.func25, Tryd.ntmps25
    go_wp2
    go_end0
    exact ⟨rfl, HO.out.set_ _, out_set _ _ _⟩
  · have d1 : ((k : Int) == 5) = false := by simp; omega
    show Calls Tryd.prog 25 #[.int .i64 k, .int .i64 f, .int .i64 e, .pointer (some ⟨C, 0, none⟩)] w _
    go_enter Tryd.func25, Tryd.ntmps25
    go_wp2
    go_end0
    exact ⟨rfl, by simpa [hk] using HO.out, Out.refl _ _⟩

theorem star_visits (s : ByteArray) (hs : s.size ≤ 140737488355328) (C : Nat) : Visits Tryd.prog 25 #[.pointer (some ⟨C, 0, none⟩)] tokArgs (toks s) (StarI C) where
  enter := enters_of Tryd.func25 (by kernel_rfl) rfl
  lt := by rintro done F w ⟨rfl, h⟩ k rfl; exact h.lt
  loc := by rintro done F w w' ⟨rfl, h⟩ hk _; exact ⟨rfl, h.kept (hk C rfl)⟩
  step := by
    rintro done t post F w ha ⟨rfl, h⟩
    have hle := stars_le ha
    refine (star_step C (stars done) t w h (by omega)).mono ?_
    rintro e w' ⟨rfl, h1, h2⟩
    exact ⟨rfl, _, ⟨rfl, by rw [stars_snoc]; exact h1⟩, h2, fun k hk => .inl hk⟩

set_option maxHeartbeats 1000000 in
theorem countStars_any (s : ByteArray) (w : World) (hs : s.size ≤ 140737488355328) :
    Calls Tryd.prog 17 #[.string s] w (Quiet w (.int .i64 (stars (toks s)))) := by
  have hmf : ∀ (fn : Fn) (first cap : Array Value) (w : World), (Instr.makeFunc fn first cap).run Tryd.prog w = .ok (.func fn first cap) w := fun _ _ _ _ => rfl
  have h1 : StarI w.heap.size [] (fun k => k = w.heap.size) (w.alloc (.cells #[.int .i64 0] 3)) := ⟨rfl, heap_alloc_new w _⟩
  have H1 := Lib.hid (eachToken_any s _ _ _ _ _ hs (star_visits s hs w.heap.size) h1)
  clear h1
  go_enter Tryd.func17, Tryd.ntmps17
  go_wp2_with fail
  refine H1.out.mono ?_
  rintro e w1 ⟨rfl, F', ⟨rfl, h2⟩, hg⟩
  have hc := h2.cell
  have HB := Lib.hid (((Below.refl _ _).alloc (Nat.le_refl _) (.cells #[.int .i64 0] 3)).trans (hg.out.below (B := w.heap.size) (by simp) (fun n hn => Nat.le_of_eq hn.symm)))
  clear h2 hg
  go_wp2
  go_ret
  exact ⟨rfl, HB.out⟩
end Go.Proofs.YtdhaanlgijikeaaDoor
