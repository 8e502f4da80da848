/- TextEdits, part 8: the law's own walk where there are few edits. -/
import Derived.Test.YtjfpaahidfhkoaaEdG
import Derived.WalkKit
import Derived.Lib.Hide
import Derived.Deep.QuietTactic
import Derived.BigQuiet
import Derived.IntWalk
import Derived.Deep.RegionHeld3
namespace Go.Proofs.Ytjfpaahidfhkoaa
open Go.RowKit

theorem keep3 {W W1 : World} {a0 a1 a2 : Addr} {v0 v1 v2 : Value} (h : W.cell? a0 = some v0 ∧ W.cell? a1 = some v1 ∧ W.cell? a2 = some v2)
    (hb : Below W.heap.size W W1) : W1.cell? a0 = some v0 ∧ W1.cell? a1 = some v1 ∧ W1.cell? a2 = some v2 :=
  ⟨cell_kept h.1 hb, cell_kept h.2.1 hb, cell_kept h.2.2 hb⟩

set_option maxHeartbeats 4000000 in
set_option maxRecDepth 100000 in
theorem textEdits_few (s : ByteArray) (A : Option Addr) (c : Nat) (l : List (Int × Int × ByteArray)) (b : ByteArray) (w : World) (hs : s.size ≤ 140737488351232) (hb : b.size ≤ 140737488351232) (hl : EditsAt w w.heap.size A l) (hn : l.length * 32 ≤ 140737488351232)
    (h100 : ¬ 100 < l.length) :
    Calls Try.prog 3 #[.string s, .slice A l.length c, .string b] w fun e w' => e = .returned (.bool true) ∧ Below w.heap.size w w' := by
  have g1 : (l.length : Int) ≤ 100 := by omega
  have d1 : decide ((100 : Int) < (l.length : Int)) = false := by simp; omega
  go_enter Try.func3, Try.ntmps3
  go_wp2_with (first
    | (go_at_call 5; refine (diff_any s b _ hs hb).mono ?_; rintro e w1 ⟨rfl, hb1⟩)
    | (go_at_call 6; refine (diffOf_any s b _ hs hb).mono ?_; rintro e w2 ⟨rfl, hb2⟩))
  have HS := Lib.hid (show LawRel w s l 0 s w2 from ⟨Led.zero s l, hb1.trans (hb2.mono hb1.size), hs⟩)
  clear hb1 hb2
  go_loopw [7, 8, 31] (fun q u i wr => ∃ (k : Nat) (now : ByteArray), k ≤ l.length ∧ i = .int .i64 k ∧ u = .int .i64 0 ∧ q = .string now ∧ Hid (LawRel w s l k now wr)) (fun _ _ i _ => l.length - (intOf i).toNat)
  case atStart => exact ⟨0, s, Nat.zero_le _, rfl, rfl, rfl, HS⟩
  case round =>
    clear HS
    obtain ⟨k, now, hk, rfl, rfl, rfl, hr⟩ := hrel
    by_cases hlt : k < l.length
    · obtain ⟨f, t, x, b', off, hlk, rfl, hB, c1, c2, c3, hx⟩ := hl.at_ hr.out.below hlt
      have HK := Lib.hid hlk
      have hns := hr.out.size
      clear hlk
      by_cases h0 : editErr now.size f t x = 0
      · obtain ⟨e1, e2, e3, _, _⟩ := editErr_zero h0
        obtain ⟨f, rfl⟩ := Int.eq_ofNat_of_zero_le e1
        obtain ⟨t, rfl⟩ := Int.eq_ofNat_of_zero_le (by omega : 0 ≤ t)
        have H0 := Lib.hid h0
        clear h0
        go_wp2_with (first
          | (go_at_call 7; refine (editError_any now f t x _ hns hx).mono ?_; rintro e w' ⟨rfl, rfl⟩; rw [H0.out])
          | (go_at_call 8; refine (checkEdit_any now f t x _ hns hx).mono ?_; rintro e w' ⟨rfl, rfl⟩; rw [H0.out])
          | (go_at_call 9; refine (apply_good now f t x _ hns hx H0 (by omega) (by omega)).mono ?_; rintro e w1 ⟨rfl, hb1⟩; obtain ⟨hbe, hblk⟩ := law_first hb1; obtain ⟨⟨k1, k2, k3⟩, k4, k5, k6⟩ := blk_cells hblk; have hsz1 := lt_of_blk hblk; clear hb1)
          | (go_at_call 10; refine (inverse_good now f t x _ hns hx H0 (by omega) (by omega)).mono ?_; rintro e w2 ⟨rfl, hb2⟩; have hblk2 := keepBlk hblk hb2 hsz1; obtain ⟨⟨m1, m2, m3⟩, m4, m5, m6⟩ := blk_cells hblk2; have hsz2 := lt_of_blk hblk2))
        have v1 : IntKind.i64.wrap ((f : Int) + (x.size : Int)) = (f : Int) + (x.size : Int) := IntWalk.i64_in _ (by omega)
        go_region_held3 (fun W => W.cell? ⟨wr.heap.size, 0, none⟩ = some (.int .i64 f) ∧ W.cell? ⟨wr.heap.size, 1, none⟩ = some (.int .i64 t) ∧ W.cell? ⟨wr.heap.size, 2, none⟩ = some (.string x) ∧
            W.cell? ⟨w2.heap.size, 0, none⟩ = some (.int .i64 f) ∧ W.cell? ⟨w2.heap.size, 1, none⟩ = some (.int .i64 (f + x.size)) ∧ W.cell? ⟨w2.heap.size, 2, none⟩ = some (.string (now.extract f t)))
          (first
            | go_keep
            | exact keep6 (by assumption) hb3)
          (first
            | (go_at_call 11; refine (edited_any now f t x _ hns hx (by omega) (by omega)).mono ?_; rintro e w3 ⟨rfl, hb3⟩; have hb4 := law_third hb3))
        have HN := Lib.hid (hr.out.next HK.out H0.out hbe hb2 hb4)
        clear v1 hb3 hb4 hb2 hbe
        go_wp2
        go_roundw
        case rel => exact ⟨k + 1, _, by omega, by go_num, rfl, rfl, HN⟩
        case measure => simp [intOf]; omega
      · obtain ⟨n, hne⟩ : ∃ n, n = editErr now.size f t x := ⟨_, rfl⟩
        have h0' : (n != 0) = true := by rw [hne]; simpa using h0
        have HE := Lib.hid hne
        have H0 := Lib.hid h0
        have HC := Lib.hid (show composed s l = (0, 0, ⟨#[]⟩, n) by rw [hne]; exact composed_bad h100 (hr.out.led.bad HK.out h0) h0)
        clear h0 hne
        go_wp2_with (first
          | (go_at_call 7; refine (editError_any now f t x _ hns hx).mono ?_; rintro e w' ⟨rfl, rfl⟩; rw [← HE.out])
          | (go_at_call 8; refine (checkEdit_any now f t x _ hns hx).mono ?_; rintro e w' ⟨rfl, rfl⟩; rw [← HE.out])
          | (go_at_call 9; refine (apply_bad now f t x _ hns hx H0).mono ?_; rw [← HE.out]; rintro e w1 ⟨rfl, hb1⟩; obtain ⟨hbe, hblk⟩ := law_first hb1; obtain ⟨⟨k1, k2, k3⟩, k4, k5, k6⟩ := blk_cells hblk; have hsz1 := lt_of_blk hblk; clear hb1)
          | (go_at_call 10; refine (inverse_bad now f t x _ hns hx H0).mono ?_; rw [← HE.out]; rintro e w2 ⟨rfl, hb2⟩))
        have HB := Lib.hid (hr.out.bad hbe hb2 (o := .cells #[.int .i64 0, .int .i64 0, .string ⟨#[]⟩] 24))
        refine (compose_is HC _ c _ hs (hl.next HB.out) hn).mono ?_
        rintro e w3 ⟨rfl, hb3⟩
        go_wp2
        go_ret
        exact ⟨rfl, (HB.out.trans (hb3.mono HB.out.size)).alloc (by have := HB.out.size; have := hb3.size; omega) _⟩
    · have hke : k = l.length := by omega
      have HC := Lib.hid (composed_good h100 (hr.out.led.all hke))
      have HB := Lib.hid hr.out.below
      have hns := hr.out.size
      clear hke
      go_wp2_with fail
      refine (compose_is HC _ c _ hs (hl.next HB.out) hn).mono ?_
      rintro e w3 ⟨rfl, hb3⟩
      go_wp2
      go_region_held3 (fun W => W.cell? ⟨w3.heap.size, 0, none⟩ = some (.int .i64 ((dF s now : Nat) : Int)) ∧ W.cell? ⟨w3.heap.size, 1, none⟩ = some (.int .i64 ((s.size - dN s now : Nat) : Int)) ∧ W.cell? ⟨w3.heap.size, 2, none⟩ = some (.string (now.extract (dF s now) (now.size - dN s now))))
        (first
          | go_keep
          | exact keep3 (by assumption) hb4)
        (first
          | (go_at_call 6; refine (diffOf_any s now _ hs hns).mono ?_; rintro e w4 ⟨rfl, hb4⟩; have hb5 := law_third hb4))
      go_wp2
      go_ret
      exact ⟨rfl, (HB.out.trans (hb3.mono HB.out.size)).trans (hb5.mono (by have := HB.out.size; have := hb3.size; omega))⟩
end Go.Proofs.Ytjfpaahidfhkoaa
