/- The reference's shown. -/
import Derived.Test.YtjfpaahidfhkoaaDoorTzJ
import Derived.WalkKit
import Derived.Lib.Hide
import Derived.Outline
import Derived.Deep.DeepCutAuto
import Derived.Deep.CutBlock
import Derived.Deep.LoopGhost
import Derived.Deep.QuietTactic
import Derived.BigQuiet
import Derived.BigRegion
import Derived.Lib.SmallJoins
namespace Go.Proofs.YtjfpaahidfhkoaaDoor
open Go.RowKit

theorem infoInt : (Tryd.prog.info? 3).map (fun i => (i.zero, i.size, i.bytes)) = some (some (.int .i64 0), 1, 8) := by kernel_rfl

def ints (l : List Int) : List Value := l.map (Value.int .i64)
def upL (F n : Nat) : List Int := (List.range n).map fun i => ((F + i : Nat) : Int)
theorem upL_len (F n : Nat) : (upL F n).length = n := by simp [upL]
theorem ints_len (l : List Int) : (ints l).length = l.length := by simp [ints]
theorem upL_succ (F n : Nat) : upL F (n + 1) = upL F n ++ [((F + n : Nat) : Int)] := by
  unfold upL; rw [List.range_succ, List.map_append]; rfl
theorem ints_app (a b : List Int) : ints (a ++ b) = ints a ++ ints b := by simp [ints]

def ShownRow (F n : Nat) (w : World) (v : Value) (wr : World) : Prop :=
  wr.ownsRow w.heap.size 3 1 v n (ints (upL F n)) ∧ Below w.heap.size w wr

set_option maxRecDepth 100000 in
set_option maxHeartbeats 8000000 in
theorem shown_any (x : Sp) (w : World) (hk : 1 ≤ x.kind ∧ x.kind ≤ 7) (hb : refFrom x + (refStr x).size ≤ 2000000) (h1 : x.from_ ≤ 2000000) (h3 : x.text.size ≤ 2000000) (h4 : x.shw.size ≤ 2000000) :
    Calls Tryd.prog 28 #[x.val] w fun e w' => ∃ v, e = .returned (.tuple #[.string (refStr x), v]) ∧ ShownRow (refFrom x) (refStr x).size w v w' := by
  obtain ⟨i0, hi, hz0, hz1, hz2⟩ := info_parts infoInt
  obtain ⟨T, hT⟩ : ∃ T, T = refStr x := ⟨_, rfl⟩
  obtain ⟨F, hF⟩ : ∃ F, F = refFrom x := ⟨_, rfl⟩
  have HTF := Lib.hid (And.intro hT hF)
  rw [← hT, ← hF] at hb ⊢
  clear hT hF
  obtain ⟨k, f, e, t, s, i, b⟩ := x
  simp only at hk h1 h3 h4
  unfold Sp.val
  go_enter Tryd.func28, Tryd.ntmps28
  go_upto_region 1 with (fail)
  go_quiet (fail)
  obtain ⟨w1, hw1⟩ : ∃ w1, w1 = (w.alloc (.cells #[.int .i64 k, .int .i64 f, .int .i64 e, .string t, .string s, .int .i64 i, .bool b] 34)).drewN nq := ⟨_, rfl⟩
  have hbel : Below w.heap.size w w1 := by rw [hw1]; exact one_new _ _ _
  have hblk : w1.heap[w.heap.size]? = some (.cells #[.int .i64 k, .int .i64 f, .int .i64 e, .string t, .string s, .int .i64 i, .bool b] 34 (0, 0)) := by rw [hw1]; exact heap_alloc_new w _
  rw [← hw1]
  have HBEL := Lib.hid hbel
  obtain ⟨⟨y0, y1, y2, y3, y4, y5, y6⟩, -⟩ := blk7 hblk
  clear hw1 hbel hblk
  go_upto_block 0 with (fail)
  go_cut [4, 5] (fun tv fv wx => tv = .string T ∧ fv = .int .i64 F ∧ Hid (Below w.heap.size w wx))
  case first =>
    have w1 : IntKind.i64.wrap ((f : Int) + 1) = (f : Int) + 1 := IntWalk.i64_in _ (by omega)
    have w2 : IntKind.i64.wrap ((f : Int) + 2) = (f : Int) + 2 := IntWalk.i64_in _ (by omega)
    have w3 : IntKind.i64.wrap ((f : Int) + 2 + t.size) = (f : Int) + 2 + t.size := IntWalk.i64_in _ (by omega)
    have w4 : IntKind.i64.wrap ((f : Int) + 2 + t.size + 1) = (f : Int) + 2 + t.size + 1 := IntWalk.i64_in _ (by omega)
    rcases (by omega : k = 1 ∨ k = 2 ∨ k = 3 ∨ k = 4 ∨ k = 5 ∨ k = 6 ∨ k = 7) with rfl | rfl | rfl | rfl | rfl | rfl | rfl
    · go_wp2_with fail
      go_meet
      exact ⟨by rw [HTF.out.1]; rfl, by rw [HTF.out.2]; rfl, Lib.hid (by first | exact HBEL.out | exact below_drewN' HBEL.out _)⟩
    · go_wp2_with fail
      go_meet
      exact ⟨by rw [HTF.out.1]; rfl, by rw [HTF.out.2]; rfl, Lib.hid (by first | exact HBEL.out | exact below_drewN' HBEL.out _)⟩
    · go_wp2_with fail
      go_meet
      exact ⟨by rw [HTF.out.1]; rfl, by rw [HTF.out.2]; rfl, Lib.hid (by first | exact HBEL.out | exact below_drewN' HBEL.out _)⟩
    · by_cases hs : s.toList = []
      · have hb : s.toList.isEmpty = true := by simp [hs]
        go_wp2_with fail
        go_meet
        exact ⟨by rw [HTF.out.1]; simp [refStr, str_size0.1 hs], by rw [HTF.out.2]; simp [refFrom, str_size0.1 hs], Lib.hid (by first | exact HBEL.out | exact below_drewN' HBEL.out _)⟩
      · have hb : s.toList.isEmpty = false := by simp [hs]
        have hs0 : ¬ s.size = 0 := fun e => hs (str_size0.2 e)
        go_wp2_with fail
        go_quiet (fail)
        go_wp2_with fail
        go_meet
        exact ⟨by rw [HTF.out.1]; simp [refStr, hs0], by rw [HTF.out.2]; simp [refFrom, hs0], Lib.hid (by first | exact HBEL.out | exact below_drewN' HBEL.out _)⟩
    · have z1 : 2 + t.size ≤ 4000000 := by omega
      have z2 : 2 + t.size + 2 ≤ 4000000 := by omega
      go_wp2_with fail
      go_meet
      exact ⟨by rw [HTF.out.1]; rfl, by rw [HTF.out.2]; rfl, Lib.hid (by first | exact HBEL.out | exact below_drewN' HBEL.out _)⟩
    · have z1 : 1 + t.size ≤ 4000000 := by omega
      go_wp2_with fail
      go_meet
      exact ⟨by rw [HTF.out.1]; rfl, by rw [HTF.out.2]; rfl, Lib.hid (by first | exact HBEL.out | exact below_drewN' HBEL.out _)⟩
    · go_wp2_with fail
      go_meet
      exact ⟨by rw [HTF.out.1]; rfl, by rw [HTF.out.2]; rfl, Lib.hid (by first | exact HBEL.out | exact below_drewN' HBEL.out _)⟩
  case rest =>
    obtain ⟨rfl, rfl, HB⟩ := hcut
    clear HTF
    go_wp2_with fail
    go_loopw [6, 49] (fun v ix wr => ∃ (n : Nat), ix = .int .i64 n ∧ Hid (n ≤ T.size) ∧ Hid (ShownRow F n w v wr)) (fun _ ix _ => T.size - (intOf ix).toNat)
    case atStart => exact ⟨0, rfl, Lib.hid (Nat.zero_le _), Lib.hid ⟨⟨rfl, .inl ⟨rfl, rfl⟩⟩, HB.out⟩⟩
    case round =>
      obtain ⟨n, rfl, HN, HR⟩ := hrel
      by_cases hn : n < T.size
      · have q1 : (n : Int) < T.size := by omega
        have w9 : IntKind.i64.wrap ((F : Int) + n) = (F : Int) + n := IntWalk.i64_in _ (by omega)
        have hnews : ∀ j u, [Value.int .i64 ((F : Int) + n)][j]? = some u → (wr.alloc (.cells #[.int .i64 ((F : Int) + n)] 3)).cell? ((⟨wr.heap.size, 0, none⟩ : Addr).add j) = some u := by
          intro j u hj
          have h := heap_alloc_new wr (.cells #[.int .i64 ((F : Int) + n)] 3)
          rw [addr_plus, Nat.zero_add, cell_of_row _ _ j _ _ (0, 0) h]
          simpa using hj
        have HNEWS := Lib.hid hnews
        have HNL := Lib.hid (ints_len (upL F n))
        clear hnews
        have hsz : w.heap.size ≤ wr.heap.size := HR.out.2.size
        go_wp2_with (at_builtin; refine wpList_append_own _ rfl _ _ 54 rfl w.heap.size 3 i0 _ 1 8 Tryd.underlying54 hi hz0 hz1 hz2 rfl (by omega) _ _ _ rfl (HR.out.1.alloc _) ⟨wr.heap.size, 0, none⟩ 1 1 [.int .i64 ((F : Int) + n)] rfl rfl HNEWS.out (by intro u hu; simp at hu; rw [hu]; rfl) (by unfold maxLen; omega) (by omega) (by simp; omega) ?_)
        intro v' w3 hown3 hgrow3 _
        have hbel3 : Below w.heap.size w w3 := (HR.out.2.alloc hsz _).grown hgrow3 (by simp; omega) (fun k hk => (HR.out.1.lt k hk).1)
        have HBEL3 := Lib.hid hbel3
        have HOWN3 := Lib.hid hown3
        clear hown3 hgrow3 hbel3
        go_wp2_with fail
        go_roundw
        case measure => simp [intOf]; omega
        case rel => exact ⟨n + 1, by go_num, Lib.hid hn, Lib.hid ⟨by rw [upL_succ, ints_app]; exact HOWN3.out, HBEL3.out⟩⟩
      · have q1 : ¬ (n : Int) < T.size := by omega
        have hnt : n = T.size := by have := HN.out; omega
        subst hnt
        go_wp2_with fail
        go_ret2
        exact ⟨_, rfl, HR.out⟩
end Go.Proofs.YtjfpaahidfhkoaaDoor
