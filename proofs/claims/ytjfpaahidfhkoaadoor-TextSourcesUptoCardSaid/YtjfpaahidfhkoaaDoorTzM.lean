/- The law TextSources returns true, and leaves what lay in memory as it was. -/
import Derived.Test.YtjfpaahidfhkoaaDoorTzL
import Derived.WalkKit
import Derived.Lib.Hide
import Derived.Outline
import Derived.Deep.QuietTactic
import Derived.BigQuiet
import Derived.BigRegion
namespace Go.Proofs.YtjfpaahidfhkoaaDoor
open Go.RowKit

theorem srcOf_err (s : ByteArray) (n : Int) : ∃ r : Int, ∃ e : Nat, e ≤ 2 ∧ srcOf s n = (r, (e : Int)) := by
  unfold srcOf
  split
  · exact ⟨0, 2, by omega, rfl⟩
  split
  · exact ⟨_, 0, by omega, rfl⟩
  split
  · exact ⟨0, 2, by omega, rfl⟩
  · exact ⟨_, 0, by omega, rfl⟩

set_option maxRecDepth 100000 in
set_option maxHeartbeats 4000000 in
theorem textSources_any (s : ByteArray) (n : Int) (w : World) (hs : s.size ≤ 1048576) (hn : n ≤ 9223372036854775807) :
    Calls Tryd.prog 3 #[.string s, .int .i64 n] w (Quiet w (.bool true)) := by
  obtain ⟨r, e, he, hr⟩ := srcOf_err s n
  have h1 : ∀ W, Calls Tryd.prog 7 #[.string s, .int .i64 n] W (Quiet W (.tuple #[.int .i64 r, .int .i64 (e : Int)])) := fun W => by
    have := source_any s n W (by omega) hn
    rw [hr] at this; exact this
  have h2 : ∀ W, Calls Tryd.prog 8 #[.string s, .int .i64 n] W (Quiet W (.tuple #[.int .i64 r, .int .i64 (e : Int)])) := fun W => by
    have := sourceOf_any s n W hs
    rw [refSource_eq, hr] at this; exact this
  have H1 := Lib.hid h1
  have H2 := Lib.hid h2
  clear h1 h2 hr
  go_enter Tryd.func3, Tryd.ntmps3
  go_wp2_with fail
  refine (H1.out _).mono ?_
  rintro e1 w1 ⟨rfl, hb1⟩
  have HB1 := Lib.hid hb1
  clear hb1
  go_wp2_with fail
  refine (H2.out _).mono ?_
  rintro e2 w2 ⟨rfl, hb2⟩
  have HB2 := Lib.hid hb2
  clear hb2
  go_wp2_with fail
  go_ret
  exact ⟨by simp, HB1.out.trans (HB2.out.mono HB1.out.size)⟩
end Go.Proofs.YtjfpaahidfhkoaaDoor
