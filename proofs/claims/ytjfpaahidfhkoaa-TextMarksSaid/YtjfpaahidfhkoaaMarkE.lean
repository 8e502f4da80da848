/- TextMarks, part 5: the law's own walk. -/
import Derived.Test.YtjfpaahidfhkoaaMarkB
import Derived.Test.YtjfpaahidfhkoaaMarkC
import Derived.Test.YtjfpaahidfhkoaaMarkD
import Derived.WalkKit
import Derived.Lib.Hide
import Derived.Deep.RegionHeld3
namespace Go.Proofs.Ytjfpaahidfhkoaa
open Go.RowKit

/-- What is owned reads as a list of numbers. -/
theorem ints_of_own {w : World} {base n : Nat} {v : Value} {xs : List Int} (h : w.ownsRow base 3 1 v n (xs.map (Value.int .i64))) :
    ∃ A c, v = .slice A xs.length c ∧ IntsAt w w.heap.size A xs ∧ xs.length ≤ maxLen := by
  have hl : xs.length = n := by have := h.1; simpa using this
  rcases h.2 with ⟨rfl, rfl⟩ | ⟨g, cap, cur, rfl, hb, hg, hnc, hcm, hcs, htake⟩
  · obtain rfl : xs = [] := List.eq_nil_of_length_eq_zero hl
    exact ⟨none, 0, rfl, fun k hk => absurd hk (by simp), by simp⟩
  · subst hl
    refine ⟨some ⟨g, 0, none⟩, cap, rfl, fun k hk => ⟨g, 0, rfl, ?_, ?_⟩, by omega⟩
    · exact (h.lt g rfl).2
    · have := h.cellAt k (by omega)
      rw [Nat.zero_add, this, List.getElem?_map, List.getElem?_eq_getElem hk, List.getD_eq_getElem?_getD, List.getElem?_eq_getElem hk]; rfl

theorem edit_first {w w1 : World} {f t : Int} {s : ByteArray} {T : TypeId} (hb0 : Below (w.alloc (.cells #[.int .i64 f, .int .i64 t, .string s] T)).drew.heap.size (w.alloc (.cells #[.int .i64 f, .int .i64 t, .string s] T)).drew w1) :
    (w1.cell? ⟨w.heap.size, 0, none⟩ = some (.int .i64 f) ∧ w1.cell? ⟨w.heap.size, 1, none⟩ = some (.int .i64 t) ∧ w1.cell? ⟨w.heap.size, 2, none⟩ = some (.string s)) ∧ Below w.heap.size w w1 ∧ w.heap.size < w1.heap.size := by
  have hb : Below (w.heap.size + 1) (w.alloc (.cells #[.int .i64 f, .int .i64 t, .string s] T)).drew w1 := by simpa using hb0
  have hs := hb.size
  simp at hs
  have h := EditAt.of_block (w' := w1) (EditAt.boxed w f t s T) (hb.block w.heap.size (by omega))
  exact ⟨h, (((Below.refl _ _).alloc (Nat.le_refl _) _).drew).trans (hb.mono (by omega)), by omega⟩
theorem edit_next {w1 w2 : World} {B : Nat} {f t : Int} {s : ByteArray} (h : w1.cell? ⟨B, 0, none⟩ = some (.int .i64 f) ∧ w1.cell? ⟨B, 1, none⟩ = some (.int .i64 t) ∧ w1.cell? ⟨B, 2, none⟩ = some (.string s)) (hlt : B < w1.heap.size)
    (hb : Below w1.heap.size w1 w2) : w2.cell? ⟨B, 0, none⟩ = some (.int .i64 f) ∧ w2.cell? ⟨B, 1, none⟩ = some (.int .i64 t) ∧ w2.cell? ⟨B, 2, none⟩ = some (.string s) :=
  EditAt.of_block (w' := w2) (show EditAt w1 B f t s from h) (hb.block B hlt)

theorem IntsAt.next {w w' : World} {A : Option Addr} {zs : List Int} (h : IntsAt w w.heap.size A zs) (hb : Below w.heap.size w w') : IntsAt w' w'.heap.size A zs := fun k hk => by
  obtain ⟨b, off, e, hlt, hcell⟩ := h k hk
  exact ⟨b, off, e, Nat.lt_of_lt_of_le hlt hb.size, (hb.cell (p := ⟨b, off + k, none⟩) hlt).trans hcell⟩

/-- Two lists of the same numbers are equal. -/
theorem equalInts_same (A A' : Option Addr) (c c' n : Nat) (xs : List Int) (w : World) (hl : xs.length = n) (hx : IntsAt w w.heap.size A xs) (hy : IntsAt w w.heap.size A' xs) (hn : n ≤ 9223372036854775807) :
    Calls Try.prog 13 #[.slice A n c, .slice A' n c'] w fun e w' => e = .returned (.bool true) ∧ Below w.heap.size w w' := by
  subst hl
  refine (equalInts_any A A' c c' xs xs w hx hy hn).mono ?_
  rintro e w' ⟨rfl, k, rfl⟩
  exact ⟨by simp, ⟨rfl, rfl, rfl, Nat.le_refl _, fun _ _ => rfl⟩⟩

set_option maxHeartbeats 4000000 in
theorem textMarks_any (A : Option Addr) (c : Nat) (zs : List Int) (f t : Int) (s : ByteArray) (af : Bool) (w : World) (hz : IntsAt w w.heap.size A zs) (hn : zs.length * 8 ≤ 140737488351232) (hs : s.size ≤ 140737488351232) :
    Calls Try.prog 4 #[.slice A zs.length c, .agg #[.int .i64 f, .int .i64 t, .string s], .bool af] w fun e w' => e = .returned (.bool true) ∧ Below w.heap.size w w' := by
  have HZ := Lib.hid (fun W (hW : Below w.heap.size w W) => hz.next hW)
  have hmn : zs.length ≤ 9223372036854775807 := by omega
  go_enter Try.func4, Try.ntmps4
  go_wp2
  go_region_held3 (fun w' => w'.cell? ⟨w.heap.size, 0, none⟩ = some (.int .i64 f) ∧ w'.cell? ⟨w.heap.size, 1, none⟩ = some (.int .i64 t) ∧ w'.cell? ⟨w.heap.size, 2, none⟩ = some (.string s))
    (go_keep)
    (first
      | (go_at_call 14; refine (shift_any _ _ _ _ _ _ _ _ (HZ.out _ ?_) hn hs).mono ?_; exact (((Below.refl _ _).alloc (Nat.le_refl _) _).drew); rintro e w1 ⟨v1, rfl, hown1, hb1⟩; obtain ⟨kk1, hB1, hs1⟩ := edit_first hb1; obtain ⟨A1, c1, rfl, hi1, hm1⟩ := ints_of_own hown1; clear hown1)
      | (go_at_call 15; refine (shiftedMarks_any _ _ _ _ _ _ _ _ (HZ.out _ ?_) hn hs).mono ?_; exact hB1; rintro e w2 ⟨v2, rfl, hown2, hb2⟩; have kk2 := edit_next kk1 hs1 hb2; obtain ⟨A2, c2, rfl, hi2, hm2⟩ := ints_of_own hown2; clear hown2)
      | (go_at_call 13; refine (equalInts_same _ _ _ _ _ _ _ (by simp) (hi1.next hb2) hi2 hmn).mono ?_; rintro e w3 ⟨rfl, hb3⟩; have kk3 := edit_next kk2 (Nat.lt_of_lt_of_le hs1 hb2.size) hb3))
  go_wp2
  go_ret
  exact ⟨rfl, (hB1.trans (hb2.mono (by have := hB1.size; omega))).trans (hb3.mono (by have := hB1.size; have := hb2.size; omega))⟩
end Go.Proofs.Ytjfpaahidfhkoaa
