/- TextEdits, part 6: a list of edits, one after the other. -/
import Derived.Test.YtjfpaahidfhkoaaDoorKEdE
import Derived.WalkKit
import Derived.Lib.Hide
import Derived.Deep.QuietTactic
import Derived.BigQuiet
namespace Go.Proofs.YtjfpaahidfhkoaaDoor.Ke
open Go.RowKit

/-- What a list of edits makes of a string: the string, or the first error. -/
def applyAll : ByteArray → List (Int × Int × ByteArray) → ByteArray × Int
  | s, [] => (s, 0)
  | s, (f, t, x) :: r => if editErr s.size f t x = 0 then applyAll (edited s f.toNat t.toNat x) r else (s, editErr s.size f t x)

theorem edited_size {s x : ByteArray} {f t : Nat} (h1 : f ≤ t) (h2 : t ≤ s.size) : (edited s f t x).size = s.size - (t - f) + x.size := by
  unfold edited
  simp only [ByteArray.size_append, ByteArray.size_extract]
  omega
theorem edited_small {s x : ByteArray} {f t : Int} (h : editErr s.size f t x = 0) : (edited s f.toNat t.toNat x).size ≤ 2000 := by
  obtain ⟨h1, h2, h3, _, h5⟩ := editErr_zero h
  rw [edited_size (by omega) (by omega)]
  omega

/-- The first k edits lead from s to now without an error. -/
def Led (s : ByteArray) (l : List (Int × Int × ByteArray)) (k : Nat) (now : ByteArray) : Prop := applyAll s (l.take k) = (now, 0) ∧ applyAll s l = applyAll now (l.drop k)
theorem Led.zero (s : ByteArray) (l : List (Int × Int × ByteArray)) : Led s l 0 s := ⟨rfl, rfl⟩
theorem applyAll_append (s : ByteArray) (l m : List (Int × Int × ByteArray)) (now : ByteArray) (h : applyAll s l = (now, 0)) : applyAll s (l ++ m) = applyAll now m := by
  induction l generalizing s with
  | nil => simp only [applyAll, Prod.mk.injEq] at h; obtain ⟨rfl, _⟩ := h; rfl
  | cons a r ih =>
    obtain ⟨f, t, x⟩ := a
    simp only [applyAll, List.cons_append] at h ⊢
    by_cases h0 : editErr s.size f t x = 0
    · rw [if_pos h0] at h ⊢; exact ih _ h
    · rw [if_neg h0] at h
      simp only [Prod.mk.injEq] at h
      exact absurd h.2 h0
theorem Led.step {s now : ByteArray} {l : List (Int × Int × ByteArray)} {k : Nat} {f t : Int} {x : ByteArray} (h : Led s l k now) (hk : l[k]? = some (f, t, x)) (h0 : editErr now.size f t x = 0) : Led s l (k + 1) (edited now f.toNat t.toNat x) := by
  have hd : l.drop k = (f, t, x) :: l.drop (k + 1) := by
    obtain ⟨hlt, e⟩ := List.getElem?_eq_some_iff.1 hk
    rw [List.drop_eq_getElem_cons hlt, e]
  refine ⟨?_, ?_⟩
  · rw [List.take_add_one, hk, applyAll_append _ _ _ _ h.1]
    simp [applyAll, h0]
  · rw [h.2, hd, applyAll, if_pos h0]
theorem Led.bad {s now : ByteArray} {l : List (Int × Int × ByteArray)} {k : Nat} {f t : Int} {x : ByteArray} (h : Led s l k now) (hk : l[k]? = some (f, t, x)) (h0 : editErr now.size f t x ≠ 0) : applyAll s l = (now, editErr now.size f t x) := by
  have hd : l.drop k = (f, t, x) :: l.drop (k + 1) := by
    obtain ⟨hlt, e⟩ := List.getElem?_eq_some_iff.1 hk
    rw [List.drop_eq_getElem_cons hlt, e]
  rw [h.2, hd, applyAll, if_neg h0]
theorem Led.all {s now : ByteArray} {l : List (Int × Int × ByteArray)} {k : Nat} (h : Led s l k now) (hk : k = l.length) : applyAll s l = (now, 0) := by
  subst hk
  rw [h.2, List.drop_length, applyAll]

/-- The edits l lie behind the address A, below block B. -/
def EditsAt (w : World) (B : Nat) (A : Option Addr) (l : List (Int × Int × ByteArray)) : Prop :=
  ∀ k f t x, l[k]? = some (f, t, x) → ∃ b off, A = some ⟨b, off, none⟩ ∧ b < B ∧ w.cell? ⟨b, off + k * 3, none⟩ = some (.int .i64 f) ∧ w.cell? ⟨b, off + k * 3 + 1, none⟩ = some (.int .i64 t) ∧
    w.cell? ⟨b, off + k * 3 + 2, none⟩ = some (.string x) ∧ x.size ≤ 140737488351232

/-- What Compose gives. -/
def composed (s : ByteArray) (l : List (Int × Int × ByteArray)) : Int × Int × ByteArray × Int :=
  if 100 < l.length then (0, 0, ⟨#[]⟩, 4) else
  if (applyAll s l).2 = 0 then (dF s (applyAll s l).1, (s.size - dN s (applyAll s l).1 : Nat), (applyAll s l).1.extract (dF s (applyAll s l).1) ((applyAll s l).1.size - dN s (applyAll s l).1), 0)
  else (0, 0, ⟨#[]⟩, (applyAll s l).2)

/-- What holds at the head of round k. -/
structure CompRel (w : World) (s : ByteArray) (l : List (Int × Int × ByteArray)) (k : Nat) (now : ByteArray) (wr : World) : Prop where
  led : Led s l k now
  below : Below w.heap.size w wr
  blk : wr.heap[w.heap.size]? = some (.cells #[.int .i64 0, .int .i64 0, .string ⟨#[]⟩] 46 (0, 0))
  size : now.size ≤ 140737488351232

theorem lt_of_blk {w : World} {B : Nat} {o : Obj} (h : w.heap[B]? = some o) : B < w.heap.size := by
  rcases Nat.lt_or_ge B w.heap.size with hlt | hge
  · exact hlt
  · rw [Array.getElem?_eq_none hge] at h; cases h

/-- The block of three cells that lies at B. -/
theorem blk_cells {w : World} {B : Nat} {x y z : Value} {T : TypeId} (h : w.heap[B]? = some (.cells #[x, y, z] T (0, 0))) :
    (w.cell? ⟨B, 0, none⟩ = some x ∧ w.cell? ⟨B, 1, none⟩ = some y ∧ w.cell? ⟨B, 2, none⟩ = some z) ∧ (w.frozen? ⟨B, 0, none⟩ = false ∧ w.frozen? ⟨B, 1, none⟩ = false ∧ w.frozen? ⟨B, 2, none⟩ = false) := by
  refine ⟨⟨?_, ?_, ?_⟩, ?_, ?_, ?_⟩
  · exact cell_of_row w B 0 _ T (0, 0) h
  · exact cell_of_row w B 1 _ T (0, 0) h
  · exact cell_of_row w B 2 _ T (0, 0) h
  · exact frozen_of_row w B 0 _ T h
  · exact frozen_of_row w B 1 _ T h
  · exact frozen_of_row w B 2 _ T h

theorem CompRel.next {w wr w1 : World} {s now : ByteArray} {l : List (Int × Int × ByteArray)} {k : Nat} {f t : Nat} {x : ByteArray} {o : Obj} (h : CompRel w s l k now wr) (hk : l[k]? = some ((f : Int), (t : Int), x)) (h0 : editErr now.size f t x = 0)
    (hb : Below (wr.alloc o).heap.size (wr.alloc o) w1) : CompRel w s l (k + 1) (edited now f t x) w1 := by
  have hlt := lt_of_blk h.blk
  have e := h.led.step hk h0
  simp only [Int.toNat_natCast] at e
  have hsm := edited_small h0
  simp only [Int.toNat_natCast] at hsm
  refine ⟨e, (h.below.alloc (by omega) o).trans (hb.mono (by simp; omega)), ?_, by omega⟩
  rw [hb.block _ (by simp; omega), Below.heap_alloc _ _ _ hlt]
  exact h.blk
theorem CompRel.kept {w wr w1 : World} {s now : ByteArray} {l : List (Int × Int × ByteArray)} {k : Nat} {o : Obj} (h : CompRel w s l k now wr)
    (hb : Below (wr.alloc o).heap.size (wr.alloc o) w1) : Below w.heap.size w w1 ∧ w1.heap[w.heap.size]? = some (.cells #[.int .i64 0, .int .i64 0, .string ⟨#[]⟩] 46 (0, 0)) := by
  have hlt := lt_of_blk h.blk
  refine ⟨(h.below.alloc (by omega) o).trans (hb.mono (by simp; omega)), ?_⟩
  rw [hb.block _ (by simp; omega), Below.heap_alloc _ _ _ hlt]
  exact h.blk
theorem composed_bad {s : ByteArray} {l : List (Int × Int × ByteArray)} {now : ByteArray} {n : Int} (h : ¬ 100 < l.length) (ha : applyAll s l = (now, n)) (h0 : n ≠ 0) : composed s l = (0, 0, ⟨#[]⟩, n) := by
  unfold composed; rw [if_neg h, ha, if_neg h0]
theorem composed_good {s : ByteArray} {l : List (Int × Int × ByteArray)} {now : ByteArray} (h : ¬ 100 < l.length) (ha : applyAll s l = (now, 0)) : composed s l = (((dF s now : Nat) : Int), ((s.size - dN s now : Nat) : Int), now.extract (dF s now) (now.size - dN s now), 0) := by
  unfold composed; rw [if_neg h, ha, if_pos rfl]

theorem EditsAt.at_ {w wr : World} {A : Option Addr} {l : List (Int × Int × ByteArray)} {k : Nat} (h : EditsAt w w.heap.size A l) (hb : Below w.heap.size w wr) (hk : k < l.length) :
    ∃ f t x b off, l[k]? = some (f, t, x) ∧ A = some ⟨b, off, none⟩ ∧ b < w.heap.size ∧ wr.cell? ⟨b, off + k * 3, none⟩ = some (.int .i64 f) ∧ wr.cell? ⟨b, off + k * 3 + 1, none⟩ = some (.int .i64 t) ∧
      wr.cell? ⟨b, off + k * 3 + 2, none⟩ = some (.string x) ∧ x.size ≤ 140737488351232 := by
  have hk' : l[k]? = some (l[k].1, l[k].2.1, l[k].2.2) := List.getElem?_eq_getElem hk
  obtain ⟨b, off, hA, hB, c1, c2, c3, hx⟩ := h k _ _ _ hk'
  exact ⟨_, _, _, b, off, hk', hA, hB, (hb.cell (p := ⟨b, _, none⟩) hB).trans c1, (hb.cell (p := ⟨b, _, none⟩) hB).trans c2, (hb.cell (p := ⟨b, _, none⟩) hB).trans c3, hx⟩

theorem keepBlk {w w' : World} {B C : Nat} {o : Obj} (h : w.heap[B]? = some o) (hb : Below C w w') (hlt : B < C) : w'.heap[B]? = some o := (hb.block B hlt).trans h

set_option maxHeartbeats 2000000 in
theorem compose_any (s : ByteArray) (A : Option Addr) (c : Nat) (l : List (Int × Int × ByteArray)) (w : World) (hs : s.size ≤ 140737488351232) (hl : EditsAt w w.heap.size A l) (hn : l.length * 32 ≤ 140737488351232) :
    Calls Tryd.prog 19 #[.string s, .slice A l.length c] w (GivesEdit w (composed s l).1 (composed s l).2.1 (composed s l).2.2.1 (composed s l).2.2.2) := by
  by_cases h100 : 100 < l.length
  · have hc : composed s l = (0, 0, ⟨#[]⟩, 4) := by unfold composed; rw [if_pos h100]
    rw [hc]
    clear hc
    have g1 : (100 : Int) < l.length := by omega
    go_enter Tryd.func19, Tryd.ntmps19
    go_wp2
    refine bodyPost_ret (v := .tuple #[.agg #[.int .i64 0, .int .i64 0, .string ⟨#[]⟩], .int .i64 4]) ?_ rfl ?_
    · simp [results, Tryd.results19, go_sem]
    · refine ⟨rfl, ?_⟩
      exact (Below.refl _ _).alloc (Nat.le_refl _) _
  · have g1 : (l.length : Int) ≤ 100 := by omega
    have d1 : decide ((100 : Int) < (l.length : Int)) = false := by simp; omega
    have HS := Lib.hid (show CompRel w s l 0 s (w.alloc (.cells #[.int .i64 0, .int .i64 0, .string ⟨#[]⟩] 46)) from ⟨Led.zero s l, (Below.refl _ _).alloc (Nat.le_refl _) _, heap_alloc_new w _, hs⟩)
    go_enter Tryd.func19, Tryd.ntmps19
    go_wp2
    go_loopw [6, 17] (fun q i wr => ∃ (k : Nat) (now : ByteArray), k ≤ l.length ∧ i = .int .i64 k ∧ q = .string now ∧ Hid (CompRel w s l k now wr)) (fun _ i _ => l.length - (intOf i).toNat)
    case atStart => exact ⟨0, s, Nat.zero_le _, rfl, rfl, HS⟩
    case round =>
      clear HS
      obtain ⟨k, now, hk, rfl, rfl, hr⟩ := hrel
      by_cases hlt : k < l.length
      · obtain ⟨f, t, x, b, off, hlk, rfl, hB, c1, c2, c3, hx⟩ := hl.at_ hr.out.below hlt
        have HK := Lib.hid hlk
        have hns := hr.out.size
        have hsz := lt_of_blk hr.out.blk
        clear hlk
        by_cases h0 : editErr now.size f t x = 0
        · obtain ⟨e1, e2, e3, _, _⟩ := editErr_zero h0
          obtain ⟨f, rfl⟩ := Int.eq_ofNat_of_zero_le e1
          obtain ⟨t, rfl⟩ := Int.eq_ofNat_of_zero_le (by omega : 0 ≤ t)
          have H0 := Lib.hid h0
          clear h0
          go_wp2_with (go_at_call 17; refine (apply_good now f t x _ hns hx H0 (by omega) (by omega)).mono ?_; rintro e w1 ⟨rfl, hb1⟩)
          have HN := Lib.hid (hr.out.next HK.out H0.out hb1)
          clear hb1
          go_roundw
          case rel => exact ⟨k + 1, _, by omega, by go_num, rfl, HN⟩
          case measure => simp [intOf]; omega
        · have HC := Lib.hid (composed_bad h100 (hr.out.led.bad HK.out h0) h0)
          have h0' : (editErr now.size f t x != 0) = true := by simpa using h0
          have H0 := Lib.hid h0
          clear h0
          go_wp2_with (go_at_call 17; refine (apply_bad now f t x _ hns hx H0).mono ?_; rintro e w1 ⟨rfl, hb1⟩; obtain ⟨hb2, hblk⟩ := hr.out.kept hb1; obtain ⟨⟨k1, k2, k3⟩, k4, k5, k6⟩ := blk_cells hblk; have hsz1 := lt_of_blk hblk)
          refine bodyPost_ret (v := .tuple #[.agg #[.int .i64 0, .int .i64 0, .string ⟨#[]⟩], .int .i64 (editErr now.size f t x)]) ?_ rfl ?_
          · simp [results, Tryd.results19, go_sem, k1, k2, k3]
          · rw [HC.out]
            exact ⟨rfl, ((hb2.setCell (Nat.le_refl _) _).setCell (Nat.le_refl _) _).setCell (Nat.le_refl _) _⟩
      · have hke : k = l.length := by omega
        have HC := Lib.hid (composed_good h100 (hr.out.led.all hke))
        have hns := hr.out.size
        have hsz := lt_of_blk hr.out.blk
        clear hke
        go_wp2_with (go_at_call 22; refine (diff_any s now _ hs hns).mono ?_; rintro e w1 ⟨rfl, hb1⟩; have hblk := keepBlk hr.out.blk hb1 hsz; obtain ⟨⟨k1, k2, k3⟩, k4, k5, k6⟩ := blk_cells hblk; have hsz1 := lt_of_blk hblk)
        refine bodyPost_ret (v := .tuple #[.agg #[.int .i64 ((dF s now : Nat) : Int), .int .i64 ((s.size - dN s now : Nat) : Int), .string (now.extract (dF s now) (now.size - dN s now))], .int .i64 0]) ?_ rfl ?_
        · simp [results, Tryd.results19, go_sem, k1, k2, k3]
        · rw [HC.out]
          exact ⟨rfl, (((hr.out.below.trans (hb1.mono (by omega))).setCell (Nat.le_refl _) _).setCell (Nat.le_refl _) _).setCell (Nat.le_refl _) _⟩
end Go.Proofs.YtjfpaahidfhkoaaDoor.Ke
