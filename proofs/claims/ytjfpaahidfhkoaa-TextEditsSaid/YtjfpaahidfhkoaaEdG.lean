/- TextEdits, part 7: the law's own walk. -/
import Derived.Test.YtjfpaahidfhkoaaEdF
import Derived.WalkKit
import Derived.Lib.Hide
import Derived.Deep.QuietTactic
import Derived.BigQuiet
import Derived.IntWalk
import Derived.Deep.RegionHeld3
namespace Go.Proofs.Ytjfpaahidfhkoaa
open Go.RowKit

/-- What holds at the head of round k of the law. -/
structure LawRel (w : World) (s : ByteArray) (l : List (Int × Int × ByteArray)) (k : Nat) (now : ByteArray) (wr : World) : Prop where
  led : Led s l k now
  below : Below w.heap.size w wr
  size : now.size ≤ 140737488351232

theorem law_first {wr w1 : World} {o o' o'' : Obj} (hb : Below (((wr.alloc o).alloc o').alloc o'').heap.size (((wr.alloc o).alloc o').alloc o'') w1) : Below wr.heap.size wr w1 ∧ w1.heap[wr.heap.size]? = some o := by
  have hs := hb.size
  simp only [World.size_alloc] at hs
  refine ⟨((((Below.refl _ _).alloc (Nat.le_refl _) o).alloc (by simp) o').alloc (by simp; omega) o'').trans (hb.mono (by simp; omega)), ?_⟩
  rw [hb.block _ (by simp; omega), Below.heap_alloc _ _ _ (by simp; omega), Below.heap_alloc _ _ _ (by simp)]
  exact heap_alloc_new wr o

theorem cell_kept {W W1 : World} {a : Addr} {v : Value} (h : W.cell? a = some v) (hb : Below W.heap.size W W1) : W1.cell? a = some v :=
  (hb.cell (World.block_lt_of_cell? W _ h)).trans h
theorem keep6 {W W1 : World} {a0 a1 a2 a3 a4 a5 : Addr} {v0 v1 v2 v3 v4 v5 : Value} (h : W.cell? a0 = some v0 ∧ W.cell? a1 = some v1 ∧ W.cell? a2 = some v2 ∧ W.cell? a3 = some v3 ∧ W.cell? a4 = some v4 ∧ W.cell? a5 = some v5)
    (hb : Below W.heap.size W W1) : W1.cell? a0 = some v0 ∧ W1.cell? a1 = some v1 ∧ W1.cell? a2 = some v2 ∧ W1.cell? a3 = some v3 ∧ W1.cell? a4 = some v4 ∧ W1.cell? a5 = some v5 :=
  ⟨cell_kept h.1 hb, cell_kept h.2.1 hb, cell_kept h.2.2.1 hb, cell_kept h.2.2.2.1 hb, cell_kept h.2.2.2.2.1 hb, cell_kept h.2.2.2.2.2 hb⟩

theorem law_third {w2 w3 : World} {o : Obj} (hb : Below ((w2.alloc o).drew).heap.size (w2.alloc o).drew w3) : Below w2.heap.size w2 w3 :=
  (((Below.refl _ _).alloc (Nat.le_refl _) o).drew).trans (hb.mono (by simp))
theorem LawRel.next {w wr w1 w2 w3 : World} {s now : ByteArray} {l : List (Int × Int × ByteArray)} {k : Nat} {f t : Nat} {x : ByteArray} (h : LawRel w s l k now wr) (hk : l[k]? = some ((f : Int), (t : Int), x)) (h0 : editErr now.size f t x = 0)
    (h1 : Below wr.heap.size wr w1) (h2 : Below w1.heap.size w1 w2) (h3 : Below w2.heap.size w2 w3) : LawRel w s l (k + 1) (edited now f t x) w3 := by
  have e := h.led.step hk h0
  simp only [Int.toNat_natCast] at e
  have hsm := edited_small h0
  simp only [Int.toNat_natCast] at hsm
  have z0 := h.below.size
  have z1 := h1.size
  have z2 := h2.size
  exact ⟨e, ((h.below.trans (h1.mono z0)).trans (h2.mono (by omega))).trans (h3.mono (by omega)), by omega⟩

theorem EditsAt.next {w w' : World} {A : Option Addr} {l : List (Int × Int × ByteArray)} (h : EditsAt w w.heap.size A l) (hb : Below w.heap.size w w') : EditsAt w' w'.heap.size A l := fun k f t x hk => by
  obtain ⟨b, off, hA, hB, c1, c2, c3, hx⟩ := h k f t x hk
  exact ⟨b, off, hA, Nat.lt_of_lt_of_le hB hb.size, (hb.cell (p := ⟨b, _, none⟩) hB).trans c1, (hb.cell (p := ⟨b, _, none⟩) hB).trans c2, (hb.cell (p := ⟨b, _, none⟩) hB).trans c3, hx⟩

theorem compose_is {s : ByteArray} {l : List (Int × Int × ByteArray)} {p q n : Int} {z : ByteArray} (hc : Hid (composed s l = (p, q, z, n))) (A : Option Addr) (c : Nat) (w : World) (hs : s.size ≤ 140737488351232) (hl : EditsAt w w.heap.size A l) (hn : l.length * 32 ≤ 140737488351232) :
    Calls Try.prog 12 #[.string s, .slice A l.length c] w (GivesEdit w p q z n) := by
  have h := compose_any s A c l w hs hl hn
  rw [hc.out] at h
  exact h

theorem LawRel.bad {w wr w1 w2 : World} {s now : ByteArray} {l : List (Int × Int × ByteArray)} {k : Nat} {o : Obj} (h : LawRel w s l k now wr) (h1 : Below wr.heap.size wr w1) (h2 : Below w1.heap.size w1 w2) : Below w.heap.size w (w2.alloc o) := by
  have z0 := h.below.size
  have z1 := h1.size
  have z2 := h2.size
  exact ((h.below.trans (h1.mono z0)).trans (h2.mono (by omega))).alloc (by omega) o

/-- The code of the whole: too many edits, or the first error. -/
def wantOf (s : ByteArray) (l : List (Int × Int × ByteArray)) : Int := if 100 < l.length then 4 else (applyAll s l).2

set_option maxHeartbeats 4000000 in
set_option maxRecDepth 100000 in
theorem textEdits_many (s : ByteArray) (A : Option Addr) (c : Nat) (l : List (Int × Int × ByteArray)) (b : ByteArray) (w : World) (hs : s.size ≤ 140737488351232) (hb : b.size ≤ 140737488351232) (hl : EditsAt w w.heap.size A l) (hn : l.length * 32 ≤ 140737488351232)
    (h100 : 100 < l.length) :
    Calls Try.prog 3 #[.string s, .slice A l.length c, .string b] w fun e w' => e = .returned (.bool true) ∧ Below w.heap.size w w' := by
  have g1 : (100 : Int) < l.length := by omega
  go_enter Try.func3, Try.ntmps3
  go_wp2_with (first
    | (go_at_call 5; refine (diff_any s b _ hs hb).mono ?_; rintro e w1 ⟨rfl, hb1⟩)
    | (go_at_call 6; refine (diffOf_any s b _ hs hb).mono ?_; rintro e w2 ⟨rfl, hb2⟩))
  have HS := Lib.hid (show LawRel w s l 0 s w2 from ⟨Led.zero s l, hb1.trans (hb2.mono hb1.size), hs⟩)
  clear hb1 hb2
  go_loopw [7, 8, 31] (fun q u i wr => ∃ (k : Nat) (now : ByteArray), k ≤ l.length ∧ i = .int .i64 k ∧ u = .int .i64 4 ∧ q = .string now ∧ Hid (LawRel w s l k now wr)) (fun _ _ i _ => l.length - (intOf i).toNat)
  case atStart => exact ⟨0, s, Nat.zero_le _, rfl, rfl, rfl, HS⟩
  case round =>
    clear HS
    obtain ⟨k, now, hk, rfl, rfl, rfl, hr⟩ := hrel
    by_cases hlt : k < l.length
    · obtain ⟨f, t, x, b', off, hlk, rfl, hB, c1, c2, c3, hx⟩ := hl.at_ hr.out.below hlt
      have HK := Lib.hid hlk
      have hns := hr.out.size
      clear hlk
      by_cases h0 : editErr now.size f t x = 0
      · obtain ⟨e1, e2, e3, _, _⟩ := editErr_zero h0
        obtain ⟨f, rfl⟩ := Int.eq_ofNat_of_zero_le e1
        obtain ⟨t, rfl⟩ := Int.eq_ofNat_of_zero_le (by omega : 0 ≤ t)
        have H0 := Lib.hid h0
        clear h0
        go_wp2_with (first
          | (go_at_call 7; refine (editError_any now f t x _ hns hx).mono ?_; rintro e w' ⟨rfl, rfl⟩; rw [H0.out])
          | (go_at_call 8; refine (checkEdit_any now f t x _ hns hx).mono ?_; rintro e w' ⟨rfl, rfl⟩; rw [H0.out])
          | (go_at_call 9; refine (apply_good now f t x _ hns hx H0 (by omega) (by omega)).mono ?_; rintro e w1 ⟨rfl, hb1⟩; obtain ⟨hbe, hblk⟩ := law_first hb1; obtain ⟨⟨k1, k2, k3⟩, k4, k5, k6⟩ := blk_cells hblk; have hsz1 := lt_of_blk hblk; clear hb1)
          | (go_at_call 10; refine (inverse_good now f t x _ hns hx H0 (by omega) (by omega)).mono ?_; rintro e w2 ⟨rfl, hb2⟩; have hblk2 := keepBlk hblk hb2 hsz1; obtain ⟨⟨m1, m2, m3⟩, m4, m5, m6⟩ := blk_cells hblk2; have hsz2 := lt_of_blk hblk2))
        have v1 : IntKind.i64.wrap ((f : Int) + (x.size : Int)) = (f : Int) + (x.size : Int) := IntWalk.i64_in _ (by omega)
        go_region_held3 (fun W => W.cell? ⟨wr.heap.size, 0, none⟩ = some (.int .i64 f) ∧ W.cell? ⟨wr.heap.size, 1, none⟩ = some (.int .i64 t) ∧ W.cell? ⟨wr.heap.size, 2, none⟩ = some (.string x) ∧
            W.cell? ⟨w2.heap.size, 0, none⟩ = some (.int .i64 f) ∧ W.cell? ⟨w2.heap.size, 1, none⟩ = some (.int .i64 (f + x.size)) ∧ W.cell? ⟨w2.heap.size, 2, none⟩ = some (.string (now.extract f t)))
          (first
            | go_keep
            | exact keep6 (by assumption) hb3)
          (first
            | (go_at_call 11; refine (edited_any now f t x _ hns hx (by omega) (by omega)).mono ?_; rintro e w3 ⟨rfl, hb3⟩; have hb4 := law_third hb3))
        have HN := Lib.hid (hr.out.next HK.out H0.out hbe hb2 hb4)
        clear v1 hb3 hb4 hb2 hbe
        go_wp2
        go_roundw
        case rel => exact ⟨k + 1, _, by omega, by go_num, rfl, rfl, HN⟩
        case measure => simp [intOf]; omega
      · obtain ⟨n, hne⟩ : ∃ n, n = editErr now.size f t x := ⟨_, rfl⟩
        have h0' : (n != 0) = true := by rw [hne]; simpa using h0
        have HE := Lib.hid hne
        have H0 := Lib.hid h0
        have HC := Lib.hid (show composed s l = (0, 0, ⟨#[]⟩, 4) by unfold composed; rw [if_pos h100])
        clear h0 hne
        go_wp2_with (first
          | (go_at_call 7; refine (editError_any now f t x _ hns hx).mono ?_; rintro e w' ⟨rfl, rfl⟩; rw [← HE.out])
          | (go_at_call 8; refine (checkEdit_any now f t x _ hns hx).mono ?_; rintro e w' ⟨rfl, rfl⟩; rw [← HE.out])
          | (go_at_call 9; refine (apply_bad now f t x _ hns hx H0).mono ?_; rw [← HE.out]; rintro e w1 ⟨rfl, hb1⟩; obtain ⟨hbe, hblk⟩ := law_first hb1; obtain ⟨⟨k1, k2, k3⟩, k4, k5, k6⟩ := blk_cells hblk; have hsz1 := lt_of_blk hblk; clear hb1)
          | (go_at_call 10; refine (inverse_bad now f t x _ hns hx H0).mono ?_; rw [← HE.out]; rintro e w2 ⟨rfl, hb2⟩))
        have HB := Lib.hid (hr.out.bad hbe hb2 (o := .cells #[.int .i64 0, .int .i64 0, .string ⟨#[]⟩] 24))
        refine (compose_is HC _ c _ hs (hl.next HB.out) hn).mono ?_
        rintro e w3 ⟨rfl, hb3⟩
        go_wp2
        go_ret
        exact ⟨rfl, (HB.out.trans (hb3.mono HB.out.size)).alloc (by have := HB.out.size; have := hb3.size; omega) _⟩
    · have HC := Lib.hid (show composed s l = (0, 0, ⟨#[]⟩, 4) by unfold composed; rw [if_pos h100])
      have HB := Lib.hid hr.out.below
      go_wp2_with fail
      refine (compose_is HC _ c _ hs (hl.next HB.out) hn).mono ?_
      rintro e w3 ⟨rfl, hb3⟩
      go_wp2
      go_ret
      exact ⟨rfl, (HB.out.trans (hb3.mono HB.out.size)).alloc (by have := HB.out.size; have := hb3.size; omega) _⟩
end Go.Proofs.Ytjfpaahidfhkoaa
