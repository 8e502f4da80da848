/- Package text: Parts: what the program returns. -/
import Derived.Test.YtjfpaahidfhkoaaDoorSqG
import Derived.WalkKit
import Derived.Lib.Hide
import Derived.Outline
import Derived.Deep.QuietTactic
import Derived.BigQuiet
import Derived.Deep.RegionHeld3
namespace Go.Proofs.YtjfpaahidfhkoaaDoor
open Go.RowKit

theorem parts_start (s : ByteArray) (w : World) : PartsI s (w.heap.size + 1) (w.heap.size + 2) w.heap.size (w.heap.size + 3) [] (fun k => (k = w.heap.size + 1 ∨ k = w.heap.size + 2 ∨ k = w.heap.size) ∨ k = w.heap.size + 3)
    ((((w.alloc (.cells #[.string s] 9)).alloc (.cells #[.slice none 0 0] 42)).alloc (.cells #[.int .i64 0] 3)).alloc (.cells #[cutVal (w.heap.size + 2) (w.heap.size + 1) w.heap.size] 69)) := by
  have b0 : ∀ o, One (w.alloc o) w.heap.size (.string s) 9 ↔ (w.alloc o).heap[w.heap.size]? = some (.cells #[.string s] 9 (0, 0)) := fun o => Iff.rfl
  refine ⟨fun k => k = w.heap.size + 1, ⟨⟨.slice none 0 0, ?_, World.ownsRow_nil _ _ _ _, by simp [Value.ownBlock], ?_⟩, ?_, ?_, by omega, by omega, by omega⟩, ?_, ?_, ?_⟩
  · unfold One
    rw [Below.heap_alloc _ _ _ (by simp), Below.heap_alloc _ _ _ (by simp)]
    have := heap_alloc_new (w.alloc (.cells #[.string s] 9)) (.cells #[.slice none 0 0] 42)
    simpa using this
  · funext k; simp [Value.ownBlock]
  · unfold One
    rw [Below.heap_alloc _ _ _ (by simp)]
    have e : w.heap.size + 2 = ((w.alloc (.cells #[.string s] 9)).alloc (.cells #[.slice none 0 0] 42)).heap.size := by simp
    rw [e]
    exact heap_alloc_new _ _
  · unfold One
    rw [Below.heap_alloc _ _ _ (by simp; omega), Below.heap_alloc _ _ _ (by simp; omega), Below.heap_alloc _ _ _ (by simp)]
    exact heap_alloc_new w _
  · unfold One
    have := heap_alloc_new (((w.alloc (.cells #[.string s] 9)).alloc (.cells #[.slice none 0 0] 42)).alloc (.cells #[.int .i64 0] 3)) (.cells #[cutVal (w.heap.size + 2) (w.heap.size + 1) w.heap.size] 69)
    simpa using this
  · unfold CutF; omega
  · funext k; simp [CutF]

set_option maxRecDepth 100000 in
set_option maxHeartbeats 4000000 in
theorem parts_any (s : ByteArray) (w : World) (hs : s.size ≤ 4000000000) : Calls Tryd.prog 16 #[.string s] w (GivesRow 9 (strs (partsOf s)) w) := by
  have hmf : ∀ (fn : Fn) (first cap : Array Value) (w : World), (Instr.makeFunc fn first cap).run Tryd.prog w = .ok (.func fn first cap) w := fun _ _ _ _ => rfl
  have hsf : ∀ (a : Addr) (m : Mode) (W : World) (fn : Fn) (first cap : Array Value), (store a (.func fn first cap) m).run Tryd.prog W = stored Tryd.prog W a (.func fn first cap) m := fun a m W fn first cap => run_store_func (P := Tryd.prog) (w := W) (a := a) (m := m) fn first cap
  have h0 := parts_start s w
  have HE := Lib.hid (eachSpan_any s _ _ _ _ _ hs (parts_visits s (w.heap.size + 1) (w.heap.size + 2) w.heap.size (w.heap.size + 3) hs) h0)
  have hpre := cutAll_pre (s := s) (done := spans s) (post := []) (by simp)
  unfold cutVal at HE
  clear h0
  go_enter Tryd.func16, Tryd.ntmps16
  go_wp2_with fail
  refine HE.out.mono ?_
  rintro e1 w1 ⟨rfl, F1, ⟨Fb, hI, hC, hn, hF⟩, hg⟩
  have hlo : ∀ k, CutF (w.heap.size + 2) w.heap.size Fb k → w.heap.size ≤ k := fun k hk => by
    rcases hg.new k (by rw [hF]; exact .inl hk) with ((h | h | h) | h) | h
    · omega
    · omega
    · omega
    · omega
    · simp at h; omega
  have hbl : Below w.heap.size w w1 := ((((((Below.refl _ _).alloc (Nat.le_refl _) (.cells #[.string s] 9)).alloc (by simp) (.cells #[.slice none 0 0] 42)).alloc (by simp; omega) (.cells #[.int .i64 0] 3)).alloc (by simp; omega) (.cells #[cutVal (w.heap.size + 2) (w.heap.size + 1) w.heap.size] 69))).trans (hg.out.below (by simp; omega) (fun k hk => by omega))
  have cs1 := hI.s_.cell
  have cc1 := hC.cell
  unfold cutVal at cc1
  have hen6 : ∀ (xs : Array Value) (W : World), (callFunc 35 xs).run Tryd.prog W = .ok (.enter 35 xs) W := enters_of Tryd.func35 (by kernel_rfl) rfl
  have HI := Lib.hid hI
  have HLO := Lib.hid hlo
  have HBL := Lib.hid hbl
  clear hI hC hn hF hg hlo hbl
  go_wp2_with fail
  refine (cutAt_any s _ _ _ _ s.size Fb _ HI.out (Nat.le_refl _) (by omega) hs).mono ?_
  rintro e2 w2 ⟨rfl, F2, hI2, hg2⟩
  have hlo2 : ∀ k, F2 k → w.heap.size ≤ k := fun k hk => by
    rcases hg2.new k (.inl hk) with h | h
    · exact HLO.out k h
    · exact Nat.le_trans HBL.out.size h
  have hbl2 := HBL.out.trans (hg2.out.below HBL.out.size HLO.out)
  obtain ⟨ao, n', cap, c1, hown⟩ := VList.row hI2.v hlo2
  have HR := Lib.hid hown
  have HB := Lib.hid hbl2
  clear hI2 hg2 hlo2 hbl2 hown
  go_wp2
  go_ret
  exact ⟨_, rfl, HR.out, HB.out⟩
end Go.Proofs.YtjfpaahidfhkoaaDoor
