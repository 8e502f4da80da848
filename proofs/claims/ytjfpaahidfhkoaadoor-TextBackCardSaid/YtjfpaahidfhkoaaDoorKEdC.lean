/- TextEdits, part 3: an edit applied, and its inverse. -/
import Derived.Test.YtjfpaahidfhkoaaDoorKEdB
import Derived.WalkKit
import Derived.Lib.Hide
import Derived.Deep.QuietTactic
import Derived.BigQuiet
import Derived.RegionTactic
namespace Go.Proofs.YtjfpaahidfhkoaaDoor.Ke
open Go.RowKit

/-- A string after an edit. -/
def edited (s : ByteArray) (f t : Nat) (x : ByteArray) : ByteArray := s.extract 0 f ++ x ++ s.extract t s.size

theorem below_drewN {B : Nat} {a w : World} (h : Below B a w) (n : Nat) : Below B a (w.drewN n) := ⟨h.os, h.tape, h.output, h.size, h.block⟩

def GivesStr (w : World) (r : ByteArray) (n : Int) (e : Ending) (w' : World) : Prop := e = .returned (.tuple #[.string r, .int .i64 n]) ∧ Below w.heap.size w w'

set_option maxHeartbeats 1000000 in
theorem apply_bad (s : ByteArray) (f t : Int) (x : ByteArray) (w : World) (hs : s.size ≤ 140737488351232) (hx : x.size ≤ 140737488351232) (hb : Hid (editErr s.size f t x ≠ 0)) :
    Calls Tryd.prog 17 #[.string s, .agg #[.int .i64 f, .int .i64 t, .string x]] w (GivesStr w ByteArray.empty (editErr s.size f t x)) := by
  obtain ⟨n, hn⟩ : ∃ n, n = editErr s.size f t x := ⟨_, rfl⟩
  have h1 : (n != 0) = true := by rw [hn]; simpa using hb.out
  have HN := Lib.hid hn
  rw [← hn]
  clear hn
  go_enter Tryd.func17, Tryd.ntmps17
  go_wp2_with (go_at_call 37; refine (checkEdit_any s f t x _ hs hx).mono ?_; rintro e w' ⟨rfl, rfl⟩; rw [← HN.out])
  go_ret2
  exact ⟨rfl, ((Below.refl _ _).alloc (Nat.le_refl _) _).alloc (by simp) _⟩

set_option maxHeartbeats 1000000 in
theorem apply_good (s : ByteArray) (f t : Nat) (x : ByteArray) (w : World) (hs : s.size ≤ 140737488351232) (hx : x.size ≤ 140737488351232) (hb : Hid (editErr s.size f t x = 0)) (h1 : f ≤ t) (h2 : t ≤ s.size) :
    Calls Tryd.prog 17 #[.string s, .agg #[.int .i64 f, .int .i64 t, .string x]] w (GivesStr w (edited s f t x) 0) := by
  have h3 : f ≤ s.size := by omega
  have h4 : (f : Int) ≤ s.size := by omega
  have h5 : (t : Int) ≤ s.size := by omega
  go_enter Tryd.func17, Tryd.ntmps17
  go_wp2_with (go_at_call 37; refine (checkEdit_any s f t x _ hs hx).mono ?_; rintro e w' ⟨rfl, rfl⟩; rw [hb.out])
  go_quiet (fail)
  go_wp2
  go_ret2
  exact ⟨rfl, below_drewN (((Below.refl _ _).alloc (Nat.le_refl _) _).alloc (by simp) _) _⟩

/-- An edit and a number are handed back. -/
def GivesEdit (w : World) (f t : Int) (x : ByteArray) (n : Int) (e : Ending) (w' : World) : Prop :=
  e = .returned (.tuple #[.agg #[.int .i64 f, .int .i64 t, .string x], .int .i64 n]) ∧ Below w.heap.size w w'

set_option maxHeartbeats 1000000 in
theorem inverse_bad (s : ByteArray) (f t : Int) (x : ByteArray) (w : World) (hs : s.size ≤ 140737488351232) (hx : x.size ≤ 140737488351232) (hb : Hid (editErr s.size f t x ≠ 0)) :
    Calls Tryd.prog 18 #[.string s, .agg #[.int .i64 f, .int .i64 t, .string x]] w (GivesEdit w 0 0 ⟨#[]⟩ (editErr s.size f t x)) := by
  obtain ⟨n, hn⟩ : ∃ n, n = editErr s.size f t x := ⟨_, rfl⟩
  have h1 : (n != 0) = true := by rw [hn]; simpa using hb.out
  have HN := Lib.hid hn
  rw [← hn]
  clear hn
  go_enter Tryd.func18, Tryd.ntmps18
  go_wp2_with (go_at_call 37; refine (checkEdit_any s f t x _ hs hx).mono ?_; rintro e w' ⟨rfl, rfl⟩; rw [← HN.out])
  refine bodyPost_ret (v := .tuple #[.agg #[.int .i64 0, .int .i64 0, .string ⟨#[]⟩], .int .i64 n]) (by simp [results, Tryd.results18, go_sem]) rfl ⟨rfl, ?_⟩
  exact (((Below.refl _ _).alloc (Nat.le_refl _) _).alloc (by simp) _).alloc (by simp; omega) _

set_option maxHeartbeats 1000000 in
theorem inverse_good (s : ByteArray) (f t : Nat) (x : ByteArray) (w : World) (hs : s.size ≤ 140737488351232) (hx : x.size ≤ 140737488351232) (hb : Hid (editErr s.size f t x = 0)) (h1 : f ≤ t) (h2 : t ≤ s.size) :
    Calls Tryd.prog 18 #[.string s, .agg #[.int .i64 f, .int .i64 t, .string x]] w (GivesEdit w f (f + x.size) (s.extract f t) 0) := by
  have h3 : f ≤ s.size := by omega
  have h4 : (f : Int) ≤ t := by omega
  have h5 : (t : Int) ≤ s.size := by omega
  go_enter Tryd.func18, Tryd.ntmps18
  go_wp2_with (go_at_call 37; refine (checkEdit_any s f t x _ hs hx).mono ?_; rintro e w' ⟨rfl, rfl⟩; rw [hb.out])
  go_region
  go_wp2
  refine bodyPost_ret (v := .tuple #[.agg #[.int .i64 f, .int .i64 (f + x.size), .string (s.extract f t)], .int .i64 0]) (by simp [results, Tryd.results18, go_sem]) rfl ⟨rfl, ?_⟩
  exact ((((Below.refl _ _).alloc (Nat.le_refl _) _).alloc (by simp) _).alloc (by simp; omega) _).drew
end Go.Proofs.YtjfpaahidfhkoaaDoor.Ke
