/- Properties: the reference's GetOf. -/
import Derived.Test.YtggnocajpnmemaaGreatDoorPaX
import Derived.Test.YtggnocajpnmemaaGreatDoorAlX
namespace Go.Proofs.YtggnocajpnmemaaGreatDoor
open Go.RowKit Go.Shelf

def zeroBox : Obj := .cells #[.int .i64 0, .int .i64 0, .int .i64 0, .string ⟨#[]⟩, .slice none 0 0] 24
structure GtRow (l : List PV) (q : ByteArray) (w : World) (j : Nat) (wx : World) : Prop where
  bel : Below w.heap.size w wx
  blk : wx.heap[w.heap.size]? = some zeroBox
  no : ∀ k (hk : k < l.length), k < j → (l[k].nm.toList == q.toList) = false

set_option maxRecDepth 100000 in
set_option maxHeartbeats 4000000 in
theorem getOf_any (l : List PV) (q : ByteArray) (A : Option Addr) (c : Nat) (w : World) (hl : PSl w w.heap.size l (.slice A l.length c)) :
    Calls Tryz.prog 23 #[.slice A l.length c, .string q] w fun e w' =>
      ((∃ (j : Nat) (hj : j < l.length) (g : Value), (l[j].nm.toList == q.toList) = true ∧ (∀ k (hk : k < l.length), k < j → (l[k].nm.toList == q.toList) = false) ∧ VAt w w.heap.size l[j].val g ∧ e = .returned (.tuple #[g, .bool true])) ∨
        ((∀ k (hk : k < l.length), (l[k].nm.toList == q.toList) = false) ∧ e = .returned (.tuple #[.agg #[.int .i64 0, .int .i64 0, .int .i64 0, .string ⟨#[]⟩, .slice none 0 0], .bool false]))) ∧ Below w.heap.size w w' := by
  have hn : l.length ≤ 1048576 := by obtain ⟨_, _, e, h1, _⟩ := hl; exact h1
  have HSL := Lib.hid hl
  obtain ⟨n, hnn⟩ : ∃ n, n = l.length := ⟨_, rfl⟩
  rw [← hnn] at hn HSL
  rw [show (Value.slice A l.length c) = Value.slice A n c from by rw [hnn]]
  have HN := Lib.hid hnn
  clear hl hnn
  go_enter Tryz.func23, Tryz.ntmps23
  go_wp2_with fail
  go_loopw [10] (fun iv wx => ∃ j : Nat, iv = .int .i64 j ∧ j ≤ n ∧ Hid (GtRow l q w j wx)) (fun iv _ => n - (intOf iv).toNat)
  case atStart => exact ⟨0, rfl, Nat.zero_le _, Lib.hid ⟨(Below.refl _ _).alloc (Nat.le_refl _) _, heap_alloc_new w _, fun _ _ h => absurd h (by omega)⟩⟩
  case round =>
    obtain ⟨j, rfl, hjl, HR⟩ := hrel
    have r0 := cell_of_row wr w.heap.size 0 _ _ (0, 0) HR.out.blk
    have r1 := cell_of_row wr w.heap.size 1 _ _ (0, 0) HR.out.blk
    have r2 := cell_of_row wr w.heap.size 2 _ _ (0, 0) HR.out.blk
    have r3 := cell_of_row wr w.heap.size 3 _ _ (0, 0) HR.out.blk
    have r4 := cell_of_row wr w.heap.size 4 _ _ (0, 0) HR.out.blk
    have f0 := frozen_of_row wr w.heap.size 0 _ _ HR.out.blk
    have f1 := frozen_of_row wr w.heap.size 1 _ _ HR.out.blk
    have f2 := frozen_of_row wr w.heap.size 2 _ _ HR.out.blk
    have f3 := frozen_of_row wr w.heap.size 3 _ _ HR.out.blk
    have f4 := frozen_of_row wr w.heap.size 4 _ _ HR.out.blk
    by_cases hj : j < n
    · have hj2 : j < l.length := by rw [← HN.out]; exact hj
      have p2 : (j : Int) < n := by omega
      obtain ⟨b, off, nm, kx, ix, tx, sx, lx, Ax, cx, rfl, hx, hlt, gn, g0, g1, g2, g3, g4, hnz, gz, gl, gs, hpv⟩ := prop_item (by rw [← HN.out]; exact HSL.out) hj2
      replace gn := (HR.out.bel.cell (p := ⟨b, off + j * 6, none⟩) hlt).trans gn
      replace g0 := (HR.out.bel.cell (p := ⟨b, off + j * 6 + 1, none⟩) hlt).trans g0
      replace g1 := (HR.out.bel.cell (p := ⟨b, off + j * 6 + 2, none⟩) hlt).trans g1
      replace g2 := (HR.out.bel.cell (p := ⟨b, off + j * 6 + 3, none⟩) hlt).trans g2
      replace g3 := (HR.out.bel.cell (p := ⟨b, off + j * 6 + 4, none⟩) hlt).trans g3
      replace g4 := (HR.out.bel.cell (p := ⟨b, off + j * 6 + 5, none⟩) hlt).trans g4
      have hnx : l[j].nm = nm := by rw [hx]
      have hvx : ∀ g, g = .agg #[.int .i64 kx, .int .i64 ix, .int .i64 tx, .string sx, .slice Ax lx.length cx] → VAt w w.heap.size l[j].val g := by intro g hg; rw [hx]; exact ⟨gz, _, hg, gs⟩
      have HVX := Lib.hid hvx
      have HNX := Lib.hid hnx
      have hszw := HR.out.bel.size
      have hszl := lt_of_blk' HR.out.blk
      obtain ⟨m, hm⟩ : ∃ m, m = lx.length := ⟨_, rfl⟩
      rw [← hm] at g4 HVX
      clear gs hm hx hpv hvx hnx gl gz
      rcases he : (nm.toList == q.toList) with _ | _
      · have HNO : Hid (∀ k (hk : k < l.length), k < j + 1 → (l[k].nm.toList == q.toList) = false) := Lib.hid (by
          intro k hk hk2
          by_cases hkj : k < j
          · exact HR.out.no k hk hkj
          · obtain rfl : k = j := by omega
            rw [HNX.out]; exact he)
        clear r0 r1 r2 r3 r4 f0 f1 f2 f3 f4
        go_wp2_with fail
        go_roundw
        case rel => exact ⟨j + 1, by go_num, hj, Lib.hid ⟨HR.out.bel.alloc hszw _, ((Below.refl _ _).alloc (Nat.le_refl _) _).block _ hszl |>.trans HR.out.blk, HNO.out⟩⟩
        case measure => simp [intOf]; omega
      · go_wp2_with fail
        (try simp only [Exit.inBlock, Exit.then])
        refine bodyPost_ret (v := .tuple #[.agg #[.int .i64 kx, .int .i64 ix, .int .i64 tx, .string sx, .slice Ax m cx], .bool true]) ?_ rfl ?_
        · simp [results, Tryz.f23]
          go_simp
        · refine ⟨.inl ⟨j, hj2, _, by rw [HNX.out]; exact he, HR.out.no, HVX.out _ rfl, rfl⟩, ?_⟩
          exact (((((HR.out.bel.setCell (Nat.le_refl _) _).setCell (Nat.le_refl _) _).setCell (Nat.le_refl _) _).setCell (Nat.le_refl _) _).setCell (Nat.le_refl _) _).alloc (by simp; exact hszw) _
    · have p2 : ¬ (j : Int) < n := by omega
      go_wp2_with fail
      (try simp only [Exit.inBlock, Exit.then])
      refine bodyPost_ret (v := .tuple #[.agg #[.int .i64 0, .int .i64 0, .int .i64 0, .string ⟨#[]⟩, .slice none 0 0], .bool false]) ?_ rfl ?_
      · simp [results, Tryz.f23]
        go_simp
      · refine ⟨.inr ⟨fun k hk => by have h := HR.out.no k hk (by rw [← HN.out] at hk; omega); simpa using h, rfl⟩, ?_⟩
        exact (((((HR.out.bel.setCell (Nat.le_refl _) _).setCell (Nat.le_refl _) _).setCell (Nat.le_refl _) _).setCell (Nat.le_refl _) _).setCell (Nat.le_refl _) _)
end Go.Proofs.YtggnocajpnmemaaGreatDoor
