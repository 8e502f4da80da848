/- The reference's alikeValue, at two values that are the same tree. The reference's alikeValue, of any two values that are the same tree. Properties: the program's Get. The reference's alikeProp, slices.EqualFunc at properties, and Alike, of what is the same. The reference's Alike, of two values, and of two lists of properties, that are the same. -/
import Derived.Test.YtggnocajpnmemaaGreatDoorCpX
import Derived.StillTailTactics
import Derived.Shelf.Abstract
import Derived.KernelRfl
namespace Go.Proofs.YtggnocajpnmemaaGreatDoor
open Go.RowKit Go.Shelf

theorem ret_boolA {a b : Bool} (h : a = b) : Ending.returned (.bool a) = .returned (.bool b) := by rw [h]
theorem nodes_in {x : V} : ∀ {l : List V}, x ∈ l → nodesV x ≤ nodesL l
  | [], h => absurd h (by simp)
  | y :: l, h => by
    rw [nodesL_cons]
    rcases List.mem_cons.1 h with rfl | h
    · omega
    · have := nodes_in h; omega
def Quiet (w : World) (v : Value) (e : Ending) (w' : World) : Prop := e = .returned v ∧ Below w.heap.size w w'
/-- alikeValue is true of two values of at most K nodes that are the same tree. -/
def AlikeTo (K : Nat) : Prop := ∀ (v : V) (g1 g2 : Value) (W : World), nodesV v ≤ K → VAt W W.heap.size v g1 → VAt W W.heap.size v g2 → Calls Tryz.prog 50 #[g1, g2] W (Quiet W (.bool true))

set_option maxRecDepth 100000 in
set_option maxHeartbeats 8000000 in
theorem valsEqual_any {K : Nat} (hK : AlikeTo K) (l : List V) (A1 A2 : Option Addr) (c1 c2 : Nat) (w : World) (hn : nodesL l ≤ K) (h1 : SlAt w w.heap.size l (.slice A1 l.length c1)) (h2 : SlAt w w.heap.size l (.slice A2 l.length c2)) :
    Calls Tryz.prog 116 #[.slice A1 l.length c1, .slice A2 l.length c2, .func (Fn.func 50) #[] #[]] w (Quiet w (.bool true)) := by
  have hle : l.length ≤ 1048576 := by obtain ⟨_, _, e, h1, _⟩ := h1; exact h1
  have hen := enters_of Tryz.func50 (by kernel_rfl) rfl
  have H1 := Lib.hid h1
  have H2 := Lib.hid h2
  have HK := Lib.hid hK
  have HNO := Lib.hid hn
  obtain ⟨n, hnn⟩ : ∃ n, n = l.length := ⟨_, rfl⟩
  rw [← hnn] at hle H1 H2 ⊢
  have HN := Lib.hid hnn
  clear h1 h2 hnn hK hn
  go_enter Tryz.func116, Tryz.ntmps116
  go_wp2_with fail
  go_loopw [17] (fun iv wx => ∃ j : Nat, iv = .int .i64 j ∧ j ≤ n ∧ Hid (Below w.heap.size w wx)) (fun iv _ => n - (intOf iv).toNat)
  case atStart => exact ⟨0, rfl, Nat.zero_le _, Lib.hid (Below.refl _ _)⟩
  case round =>
    obtain ⟨j, rfl, hjl, HR⟩ := hrel
    by_cases hj : j < n
    · have hj2 : j < l.length := by rw [← HN.out]; exact hj
      have p2 : (j : Int) < n := by omega
      obtain ⟨b1, o1, rfl, r1⟩ : ∃ b o, A1 = some ⟨b, o, none⟩ ∧ RowAt w w.heap.size l b o := by
        obtain ⟨A, c, e, _, _, h⟩ := H1.out
        simp only [Value.slice.injEq] at e
        obtain ⟨rfl, _, _⟩ := e
        rcases h with h | h
        · rw [h] at hj2; exact absurd hj2 (by simp)
        · exact h
      obtain ⟨b2, o2, rfl, r2⟩ : ∃ b o, A2 = some ⟨b, o, none⟩ ∧ RowAt w w.heap.size l b o := by
        obtain ⟨A, c, e, _, _, h⟩ := H2.out
        simp only [Value.slice.injEq] at e
        obtain ⟨rfl, _, _⟩ := e
        rcases h with h | h
        · rw [h] at hj2; exact absurd hj2 (by simp)
        · exact h
      obtain ⟨x, hx, e1⟩ := RowAt.get l b1 o1 j r1 hj2
      obtain ⟨y, hy, e2⟩ := RowAt.get l b2 o2 j r2 hj2
      rw [hx] at hy
      obtain rfl := Option.some.inj hy
      have hxm : x ∈ l := List.mem_of_getElem? hx
      obtain ⟨k1, i1, t1, s1, A1', n1, c1', q0, q1, q2, q3, q4, q5, q6⟩ := e1.hand
      obtain ⟨k2, i2, t2, s2, A2', n2, c2', u0, u1, u2, u3, u4, u5, u6⟩ := e2.hand
      have HC := Lib.hid (fun W (hW : Below w.heap.size w W) => HK.out x _ _ W (Nat.le_trans (nodes_in hxm) HNO.out) ((q6.below hW (Nat.le_refl _)).up hW.size) ((u6.below hW (Nat.le_refl _)).up hW.size))
      have hbel := HR.out
      replace q1 := (hbel.cell (p := ⟨b1, o1 + j * 5, none⟩) q0).trans q1
      replace q2 := (hbel.cell (p := ⟨b1, o1 + j * 5 + 1, none⟩) q0).trans q2
      replace q3 := (hbel.cell (p := ⟨b1, o1 + j * 5 + 2, none⟩) q0).trans q3
      replace q4 := (hbel.cell (p := ⟨b1, o1 + j * 5 + 3, none⟩) q0).trans q4
      replace q5 := (hbel.cell (p := ⟨b1, o1 + j * 5 + 4, none⟩) q0).trans q5
      replace u1 := (hbel.cell (p := ⟨b2, o2 + j * 5, none⟩) u0).trans u1
      replace u2 := (hbel.cell (p := ⟨b2, o2 + j * 5 + 1, none⟩) u0).trans u2
      replace u3 := (hbel.cell (p := ⟨b2, o2 + j * 5 + 2, none⟩) u0).trans u3
      replace u4 := (hbel.cell (p := ⟨b2, o2 + j * 5 + 3, none⟩) u0).trans u4
      replace u5 := (hbel.cell (p := ⟨b2, o2 + j * 5 + 4, none⟩) u0).trans u5
      have hszw := hbel.size
      have l2 : b2 < wr.heap.size := by omega
      have HBL := Lib.hid hbel
      clear q6 u6 e1 e2 r1 r2 hx hy hxm hbel
      go_wp2_with fail
      refine (HC.out _ ((HBL.out.alloc hszw _).alloc (by simp; omega) _)).mono ?_
      rintro e3 w3 ⟨rfl, hb3⟩
      have HB3 := Lib.hid (((HBL.out.alloc hszw _).alloc (by simp; omega) _).trans (hb3.mono (by simp; omega)))
      clear hb3
      go_wp2_with fail
      go_roundw
      case rel => exact ⟨j + 1, by go_num, hj, HB3⟩
      case measure => simp [intOf]; omega
    · have p2 : ¬ (j : Int) < n := by omega
      go_wp2_with fail
      go_ret
      exact ⟨rfl, HR.out⟩
end Go.Proofs.YtggnocajpnmemaaGreatDoor
namespace Go.Proofs.YtggnocajpnmemaaGreatDoor
open Go.RowKit Go.Shelf

set_option maxRecDepth 100000 in
set_option maxHeartbeats 8000000 in
theorem alike_step {K : Nat} (hK : AlikeTo K) : AlikeTo (K + 1) := by
  intro v g1 g2 w hn h1 h2
  obtain ⟨k, i, t, s, l⟩ := v
  rw [nodesV_mk] at hn
  obtain ⟨hz, sl1, rfl, hl1⟩ := h1
  obtain ⟨_, sl2, rfl, hl2⟩ := h2
  obtain ⟨A1, c1, rfl, hr1⟩ := hl1
  obtain ⟨A2, c2, rfl, hr2⟩ := hl2
  have HC := Lib.hid (fun W (hW : Below w.heap.size w W) => valsEqual_any hK l A1 A2 c1 c2 W (by omega) (SlAt.up (SlAt.below ⟨A1, c1, rfl, hr1⟩ hW (Nat.le_refl _)) hW.size) (SlAt.up (SlAt.below ⟨A2, c2, rfl, hr2⟩ hW (Nat.le_refl _)) hW.size))
  generalize l.length = n at HC ⊢
  clear hr1 hr2 hK hn
  go_enter Tryz.func50, Tryz.ntmps50
  go_wp2_with fail
  refine (HC.out _ (((Below.refl _ w).alloc (Nat.le_refl _) _).alloc (by simp) _)).mono ?_
  rintro e3 w3 ⟨rfl, hb3⟩
  have HB3 := Lib.hid ((((Below.refl _ w).alloc (Nat.le_refl _) _).alloc (by simp) _).trans (hb3.mono (by simp; omega)))
  clear hb3
  go_wp2_with fail
  go_ret
  exact ⟨ret_boolA (by simp), HB3.out⟩
theorem alike_all : ∀ K, AlikeTo K
  | 0 => fun v _ _ _ h => by obtain ⟨k, i, t, s, l⟩ := v; rw [nodesV_mk] at h; omega
  | K + 1 => alike_step (alike_all K)
/-- alikeValue, of any two values that are the same tree. -/
theorem alikeValue_any (v : V) (g1 g2 : Value) (w : World) (h1 : VAt w w.heap.size v g1) (h2 : VAt w w.heap.size v g2) : Calls Tryz.prog 50 #[g1, g2] w (Quiet w (.bool true)) :=
  alike_all (nodesV v) v g1 g2 w (Nat.le_refl _) h1 h2
end Go.Proofs.YtggnocajpnmemaaGreatDoor
namespace Go.Proofs.YtggnocajpnmemaaGreatDoor
open Go.RowKit Go.Shelf

structure GpRow (l : List PV) (q : ByteArray) (w : World) (j : Nat) (wx : World) : Prop where
  bel : Below w.heap.size w wx
  blk : wx.heap[w.heap.size]? = some resBox
  no : ∀ k (hk : k < l.length), k < j → (l[k].nm.toList == q.toList) = false
def GotIt (l : List PV) (q : ByteArray) (w : World) (e : Ending) (w' : World) : Prop :=
  ((∃ (j : Nat) (hj : j < l.length) (g : Value), (l[j].nm.toList == q.toList) = true ∧ (∀ k (hk : k < l.length), k < j → (l[k].nm.toList == q.toList) = false) ∧ VAt w' w'.heap.size l[j].val g ∧ e = .returned (.tuple #[g, .bool true])) ∨
    ((∀ k (hk : k < l.length), (l[k].nm.toList == q.toList) = false) ∧ e = .returned (.tuple #[.agg #[.int .i64 0, .int .i64 0, .int .i64 0, .string ⟨#[]⟩, .slice none 0 0], .bool false]))) ∧ Below w.heap.size w w'

set_option maxRecDepth 100000 in
set_option maxHeartbeats 8000000 in
theorem propGet_any (l : List PV) (q : ByteArray) (A : Option Addr) (c : Nat) (w : World) (hl : PSl w w.heap.size l (.slice A l.length c)) (hN : ∀ p ∈ l, nodesV p.val ≤ 1048576) :
    Calls Tryz.prog 22 #[.slice A l.length c, .string q] w (GotIt l q w) := by
  have hn : l.length ≤ 1048576 := by obtain ⟨_, _, e, h1, _⟩ := hl; exact h1
  have HSL := Lib.hid hl
  have HNO := Lib.hid hN
  obtain ⟨n, hnn⟩ : ∃ n, n = l.length := ⟨_, rfl⟩
  rw [← hnn] at hn HSL
  rw [show (Value.slice A l.length c) = Value.slice A n c from by rw [hnn]]
  have HN := Lib.hid hnn
  clear hl hnn hN
  go_enter Tryz.func22, Tryz.ntmps22
  go_wp2_with fail
  go_loopw [10] (fun iv wx => ∃ j : Nat, iv = .int .i64 j ∧ j ≤ n ∧ Hid (GpRow l q w j wx)) (fun iv _ => n - (intOf iv).toNat)
  case atStart => exact ⟨0, rfl, Nat.zero_le _, Lib.hid ⟨(Below.refl _ _).alloc (Nat.le_refl _) _, heap_alloc_new w _, fun _ _ h => absurd h (by omega)⟩⟩
  case round =>
    obtain ⟨j, rfl, hjl, HR⟩ := hrel
    by_cases hj : j < n
    · have hj2 : j < l.length := by rw [← HN.out]; exact hj
      have p2 : (j : Int) < n := by omega
      obtain ⟨b, off, nm, kx, ix, tx, sx, lx, Ax, cx, rfl, hx, hlt, gn, g0, g1, g2, g3, g4, hnz, gz, gl, gs, hpv⟩ := prop_item (by rw [← HN.out]; exact HSL.out) hj2
      replace gn := (HR.out.bel.cell (p := ⟨b, off + j * 6, none⟩) hlt).trans gn
      replace g0 := (HR.out.bel.cell (p := ⟨b, off + j * 6 + 1, none⟩) hlt).trans g0
      replace g1 := (HR.out.bel.cell (p := ⟨b, off + j * 6 + 2, none⟩) hlt).trans g1
      replace g2 := (HR.out.bel.cell (p := ⟨b, off + j * 6 + 3, none⟩) hlt).trans g2
      replace g3 := (HR.out.bel.cell (p := ⟨b, off + j * 6 + 4, none⟩) hlt).trans g3
      replace g4 := (HR.out.bel.cell (p := ⟨b, off + j * 6 + 5, none⟩) hlt).trans g4
      have hnx : l[j].nm = nm := by rw [hx]
      have hno := HNO.out l[j] (List.getElem_mem hj2)
      rw [hx] at hno
      have hno' : nodesL lx ≤ 1048576 := by rw [show nodesV (PV.val ⟨nm, .mk kx ix tx sx lx⟩) = 1 + nodesL lx from nodesV_mk _ _ _ _ _] at hno; omega
      have HCO := Lib.hid (fun W (hW : Below w.heap.size w W) => copyOf_any kx ix tx sx lx Ax cx w.heap.size W hW.size gz (gs.below hW (Nat.le_refl _)) hno')
      have HV : Hid (∀ (W : World) A' c', SlAt W W.heap.size lx (.slice A' lx.length c') → VAt W W.heap.size l[j].val (.agg #[.int .i64 kx, .int .i64 ix, .int .i64 tx, .string sx, .slice A' lx.length c'])) := Lib.hid (fun W A' c' h => by rw [hx]; exact ⟨gz, _, rfl, h⟩)
      have HNX := Lib.hid hnx
      have hszw := HR.out.bel.size
      have hszl := lt_of_blkC HR.out.blk
      obtain ⟨m, hm⟩ : ∃ m, m = lx.length := ⟨_, rfl⟩
      rw [← hm] at g4 HCO HV
      have HM := Lib.hid hm
      clear gs hm hx hpv hnx gl gz hno hno'
      rcases he : (nm.toList == q.toList) with _ | _
      · have HNOX : Hid (∀ k (hk : k < l.length), k < j + 1 → (l[k].nm.toList == q.toList) = false) := Lib.hid (by
          intro k hk hk2
          by_cases hkj : k < j
          · exact HR.out.no k hk hkj
          · obtain rfl : k = j := by omega
            rw [HNX.out]; exact he)
        go_wp2_with fail
        go_roundw
        case rel => exact ⟨j + 1, by go_num, hj, Lib.hid ⟨HR.out.bel.alloc hszw _, ((Below.refl _ _).alloc (Nat.le_refl _) _).block _ hszl |>.trans HR.out.blk, HNOX.out⟩⟩
        case measure => simp [intOf]; omega
      · have HNOY := Lib.hid HR.out.no
        have HBL := Lib.hid HR.out.bel
        have HBK := Lib.hid HR.out.blk
        go_wp2_with fail
        refine (HCO.out _ (HBL.out.alloc hszw _)).mono ?_
        rintro e3 w3 ⟨A', c', rfl, hs3, hb3⟩
        have HB3 := Lib.hid ((HBL.out.alloc hszw _).trans (hb3.mono (by simp; omega)))
        have hblk3 : w3.heap[w.heap.size]? = some resBox := by
          rw [hb3.block _ (by simp; omega), Below.heap_alloc _ _ _ hszl]
          exact HBK.out
        unfold resBox at hblk3
        have r0 := cell_of_row w3 w.heap.size 0 _ _ (0, 0) hblk3
        have r1 := cell_of_row w3 w.heap.size 1 _ _ (0, 0) hblk3
        have r2 := cell_of_row w3 w.heap.size 2 _ _ (0, 0) hblk3
        have r3 := cell_of_row w3 w.heap.size 3 _ _ (0, 0) hblk3
        have r4 := cell_of_row w3 w.heap.size 4 _ _ (0, 0) hblk3
        have f0 := frozen_of_row w3 w.heap.size 0 _ _ hblk3
        have f1 := frozen_of_row w3 w.heap.size 1 _ _ hblk3
        have f2 := frozen_of_row w3 w.heap.size 2 _ _ hblk3
        have f3 := frozen_of_row w3 w.heap.size 3 _ _ hblk3
        have f4 := frozen_of_row w3 w.heap.size 4 _ _ hblk3
        have HS3 : Hid (∀ wf : World, (∀ b, b ≠ w.heap.size → wf.heap[b]? = w3.heap[b]?) → wf.heap.size = w3.heap.size → SlAt wf wf.heap.size lx (.slice A' m c')) := Lib.hid (fun wf hk hs => by
          have h1 := hs3.keep (w' := wf) (G := fun b => b < wf.heap.size) (fun b hb => hk b (fun e => by rcases hb.1 with h | h; omega; simp at h; omega)) (fun b hb => by rw [hs]; exact hb.2)
          exact h1.toAt (fun _ h => h))
        clear hb3 hblk3 hs3
        go_wp2_with fail
        (try simp only [Exit.inBlock, Exit.then])
        refine bodyPost_ret (v := .tuple #[.agg #[.int .i64 kx, .int .i64 ix, .int .i64 tx, .string sx, .slice A' m c'], .bool true]) ?_ rfl ?_
        · simp [results, Tryz.f22]
          go_simp
        · refine ⟨.inl ⟨j, hj2, _, by rw [HNX.out]; exact he, HNOY.out, HV.out _ _ _ (HS3.out _ (fun b hb => by simp [World.setCell, Array.getElem?_modify, Ne.symm hb]) (by simp [World.setCell])), rfl⟩, ?_⟩
          exact (((((HB3.out.setCell (Nat.le_refl _) _).setCell (Nat.le_refl _) _).setCell (Nat.le_refl _) _).setCell (Nat.le_refl _) _).setCell (Nat.le_refl _) _)
    · have p2 : ¬ (j : Int) < n := by omega
      have hb := HR.out.blk
      unfold resBox at hb
      have r0 := cell_of_row wr w.heap.size 0 _ _ (0, 0) hb
      have r1 := cell_of_row wr w.heap.size 1 _ _ (0, 0) hb
      have r2 := cell_of_row wr w.heap.size 2 _ _ (0, 0) hb
      have r3 := cell_of_row wr w.heap.size 3 _ _ (0, 0) hb
      have r4 := cell_of_row wr w.heap.size 4 _ _ (0, 0) hb
      have f0 := frozen_of_row wr w.heap.size 0 _ _ hb
      have f1 := frozen_of_row wr w.heap.size 1 _ _ hb
      have f2 := frozen_of_row wr w.heap.size 2 _ _ hb
      have f3 := frozen_of_row wr w.heap.size 3 _ _ hb
      have f4 := frozen_of_row wr w.heap.size 4 _ _ hb
      have HB := Lib.hid HR.out.bel
      have HNO2 := Lib.hid HR.out.no
      clear hb
      go_wp2_with fail
      (try simp only [Exit.inBlock, Exit.then])
      refine bodyPost_ret (v := .tuple #[.agg #[.int .i64 0, .int .i64 0, .int .i64 0, .string ⟨#[]⟩, .slice none 0 0], .bool false]) ?_ rfl ?_
      · simp [results, Tryz.f22]
        go_simp
      · refine ⟨.inr ⟨fun k hk => by have h := HNO2.out k hk (by rw [← HN.out] at hk; omega); simpa using h, rfl⟩, ?_⟩
        exact (((((HB.out.setCell (Nat.le_refl _) _).setCell (Nat.le_refl _) _).setCell (Nat.le_refl _) _).setCell (Nat.le_refl _) _).setCell (Nat.le_refl _) _)
end Go.Proofs.YtggnocajpnmemaaGreatDoor
namespace Go.Proofs.YtggnocajpnmemaaGreatDoor
open Go.RowKit Go.Shelf

set_option maxRecDepth 100000 in
set_option maxHeartbeats 8000000 in
theorem alikeProp_any (nm : ByteArray) (k i t : Int) (s : ByteArray) (l : List V) (A1 A2 : Option Addr) (c1 c2 : Nat) (w : World) (hz : s.size ≤ 1048576) (h1 : SlAt w w.heap.size l (.slice A1 l.length c1)) (h2 : SlAt w w.heap.size l (.slice A2 l.length c2)) :
    Calls Tryz.prog 52 #[.agg #[.string nm, .int .i64 k, .int .i64 i, .int .i64 t, .string s, .slice A1 l.length c1], .agg #[.string nm, .int .i64 k, .int .i64 i, .int .i64 t, .string s, .slice A2 l.length c2]] w (Quiet w (.bool true)) := by
  have HC := Lib.hid (fun W (hW : Below w.heap.size w W) => alikeValue_any (.mk k i t s l) (.agg #[.int .i64 k, .int .i64 i, .int .i64 t, .string s, .slice A1 l.length c1]) (.agg #[.int .i64 k, .int .i64 i, .int .i64 t, .string s, .slice A2 l.length c2]) W ⟨hz, _, rfl, (h1.below hW (Nat.le_refl _)).up hW.size⟩ ⟨hz, _, rfl, (h2.below hW (Nat.le_refl _)).up hW.size⟩)
  clear h1 h2
  generalize l.length = n at HC ⊢
  go_enter Tryz.func52, Tryz.ntmps52
  go_wp2_with fail
  refine (HC.out _ (((Below.refl _ w).alloc (Nat.le_refl _) _).alloc (by simp) _)).mono ?_
  rintro e3 w3 ⟨rfl, hb3⟩
  have HB3 := Lib.hid ((((Below.refl _ w).alloc (Nat.le_refl _) _).alloc (by simp) _).trans (hb3.mono (by simp; omega)))
  clear hb3
  go_wp2_with fail
  go_ret
  exact ⟨ret_boolA (by simp), HB3.out⟩

set_option maxRecDepth 100000 in
set_option maxHeartbeats 8000000 in
theorem propsEqual_any (l : List PV) (A1 A2 : Option Addr) (c1 c2 : Nat) (w : World) (h1 : PSl w w.heap.size l (.slice A1 l.length c1)) (h2 : PSl w w.heap.size l (.slice A2 l.length c2)) :
    Calls Tryz.prog 51 #[.slice A1 l.length c1, .slice A2 l.length c2, .func (Fn.func 52) #[] #[]] w (Quiet w (.bool true)) := by
  have hle : l.length ≤ 1048576 := by obtain ⟨_, _, e, h1, _⟩ := h1; exact h1
  have hen := enters_of Tryz.func52 (by kernel_rfl) rfl
  have H1 := Lib.hid h1
  have H2 := Lib.hid h2
  obtain ⟨n, hnn⟩ : ∃ n, n = l.length := ⟨_, rfl⟩
  rw [← hnn] at hle H1 H2 ⊢
  have HN := Lib.hid hnn
  clear h1 h2 hnn
  go_enter Tryz.func51, Tryz.ntmps51
  go_wp2_with fail
  go_loopw [17] (fun iv wx => ∃ j : Nat, iv = .int .i64 j ∧ j ≤ n ∧ Hid (Below w.heap.size w wx)) (fun iv _ => n - (intOf iv).toNat)
  case atStart => exact ⟨0, rfl, Nat.zero_le _, Lib.hid (Below.refl _ _)⟩
  case round =>
    obtain ⟨j, rfl, hjl, HR⟩ := hrel
    by_cases hj : j < n
    · have hj2 : j < l.length := by rw [← HN.out]; exact hj
      have p2 : (j : Int) < n := by omega
      obtain ⟨b1, o1, nm, kx, ix, tx, sx, lx, Ax1, cx1, rfl, hx, hlt1, q0, q1, q2, q3, q4, q5, hnz, gz, gl, gs1, _⟩ := prop_item (by rw [← HN.out]; exact H1.out) hj2
      obtain ⟨b2, o2, nm2, kx2, ix2, tx2, sx2, lx2, Ax2, cx2, rfl, hx2, hlt2, u0, u1, u2, u3, u4, u5, _, _, _, gs2, _⟩ := prop_item (by rw [← HN.out]; exact H2.out) hj2
      rw [hx] at hx2
      simp only [PV.mk.injEq, V.mk.injEq] at hx2
      obtain ⟨rfl, rfl, rfl, rfl, rfl, rfl⟩ := hx2
      have HC := Lib.hid (fun W (hW : Below w.heap.size w W) => alikeProp_any nm kx ix tx sx lx Ax1 Ax2 cx1 cx2 W gz ((gs1.below hW (Nat.le_refl _)).up hW.size) ((gs2.below hW (Nat.le_refl _)).up hW.size))
      have hbel := HR.out
      replace q0 := (hbel.cell (p := ⟨b1, o1 + j * 6, none⟩) hlt1).trans q0
      replace q1 := (hbel.cell (p := ⟨b1, o1 + j * 6 + 1, none⟩) hlt1).trans q1
      replace q2 := (hbel.cell (p := ⟨b1, o1 + j * 6 + 2, none⟩) hlt1).trans q2
      replace q3 := (hbel.cell (p := ⟨b1, o1 + j * 6 + 3, none⟩) hlt1).trans q3
      replace q4 := (hbel.cell (p := ⟨b1, o1 + j * 6 + 4, none⟩) hlt1).trans q4
      replace q5 := (hbel.cell (p := ⟨b1, o1 + j * 6 + 5, none⟩) hlt1).trans q5
      replace u0 := (hbel.cell (p := ⟨b2, o2 + j * 6, none⟩) hlt2).trans u0
      replace u1 := (hbel.cell (p := ⟨b2, o2 + j * 6 + 1, none⟩) hlt2).trans u1
      replace u2 := (hbel.cell (p := ⟨b2, o2 + j * 6 + 2, none⟩) hlt2).trans u2
      replace u3 := (hbel.cell (p := ⟨b2, o2 + j * 6 + 3, none⟩) hlt2).trans u3
      replace u4 := (hbel.cell (p := ⟨b2, o2 + j * 6 + 4, none⟩) hlt2).trans u4
      replace u5 := (hbel.cell (p := ⟨b2, o2 + j * 6 + 5, none⟩) hlt2).trans u5
      have hszw := hbel.size
      have l2 : b2 < wr.heap.size := by omega
      have HBL := Lib.hid hbel
      obtain ⟨m, hm⟩ : ∃ m, m = lx.length := ⟨_, rfl⟩
      rw [← hm] at q5 u5 HC
      clear gs1 gs2 hx hbel gl gz hnz hm
      go_wp2_with fail
      refine (HC.out _ ((HBL.out.alloc hszw _).alloc (by simp; omega) _)).mono ?_
      rintro e3 w3 ⟨rfl, hb3⟩
      have HB3 := Lib.hid (((HBL.out.alloc hszw _).alloc (by simp; omega) _).trans (hb3.mono (by simp; omega)))
      clear hb3
      go_wp2_with fail
      go_roundw
      case rel => exact ⟨j + 1, by go_num, hj, HB3⟩
      case measure => simp [intOf]; omega
    · have p2 : ¬ (j : Int) < n := by omega
      go_wp2_with fail
      go_ret
      exact ⟨rfl, HR.out⟩
end Go.Proofs.YtggnocajpnmemaaGreatDoor
namespace Go.Proofs.YtggnocajpnmemaaGreatDoor
open Go.RowKit Go.Shelf

theorem ta_val (v : Value) (W : World) : (Instr.typeAssert (.iface 24 v) 20 24 true).run Tryz.prog W = .ok (.tuple #[v, .bool true]) W := by kernel_rfl
theorem ta_props (v : Value) (W : World) : (Instr.typeAssert (.iface 31 v) 20 31 true).run Tryz.prog W = .ok (.tuple #[v, .bool true]) W := by kernel_rfl
theorem ta_noval (v : Value) (W : World) : (Instr.typeAssert (.iface 31 v) 20 24 true).run Tryz.prog W = .ok (.tuple #[.agg #[.int .i64 0, .int .i64 0, .int .i64 0, .string ⟨#[]⟩, .slice none 0 0], .bool false]) W := by kernel_rfl

set_option maxRecDepth 100000 in
set_option maxHeartbeats 8000000 in
theorem alikeV_any (k i t : Int) (s : ByteArray) (l : List V) (A1 A2 : Option Addr) (c1 c2 : Nat) (w : World) (hz : s.size ≤ 1048576) (h1 : SlAt w w.heap.size l (.slice A1 l.length c1)) (h2 : SlAt w w.heap.size l (.slice A2 l.length c2)) :
    Calls Tryz.prog 24 #[.iface 24 (.agg #[.int .i64 k, .int .i64 i, .int .i64 t, .string s, .slice A1 l.length c1]), .iface 24 (.agg #[.int .i64 k, .int .i64 i, .int .i64 t, .string s, .slice A2 l.length c2])] w (Quiet w (.bool true)) := by
  have HC := Lib.hid (fun W (hW : Below w.heap.size w W) => alikeValue_any (.mk k i t s l) (.agg #[.int .i64 k, .int .i64 i, .int .i64 t, .string s, .slice A1 l.length c1]) (.agg #[.int .i64 k, .int .i64 i, .int .i64 t, .string s, .slice A2 l.length c2]) W ⟨hz, _, rfl, (h1.below hW (Nat.le_refl _)).up hW.size⟩ ⟨hz, _, rfl, (h2.below hW (Nat.le_refl _)).up hW.size⟩)
  have t1 := ta_val (.agg #[.int .i64 k, .int .i64 i, .int .i64 t, .string s, .slice A1 l.length c1])
  have t2 := ta_val (.agg #[.int .i64 k, .int .i64 i, .int .i64 t, .string s, .slice A2 l.length c2])
  clear h1 h2
  generalize l.length = n at HC t1 t2 ⊢
  go_enter Tryz.func24, Tryz.ntmps24
  go_wp2_with fail
  refine (HC.out _ (((Below.refl _ w).alloc (Nat.le_refl _) _).alloc (by simp) _)).mono ?_
  rintro e3 w3 ⟨rfl, hb3⟩
  have HB3 := Lib.hid ((((Below.refl _ w).alloc (Nat.le_refl _) _).alloc (by simp) _).trans (hb3.mono (by simp; omega)))
  clear hb3
  go_wp2_with fail
  go_ret
  exact ⟨ret_boolA (by simp), HB3.out⟩
set_option maxRecDepth 100000 in
set_option maxHeartbeats 8000000 in
theorem alikeL_any (l : List PV) (A1 A2 : Option Addr) (c1 c2 : Nat) (w : World) (h1 : PSl w w.heap.size l (.slice A1 l.length c1)) (h2 : PSl w w.heap.size l (.slice A2 l.length c2)) :
    Calls Tryz.prog 24 #[.iface 31 (.slice A1 l.length c1), .iface 31 (.slice A2 l.length c2)] w (Quiet w (.bool true)) := by
  have HC := Lib.hid (propsEqual_any l A1 A2 c1 c2 w h1 h2)
  have t1 := ta_props (.slice A1 l.length c1)
  have t2 := ta_props (.slice A2 l.length c2)
  have t3 := ta_noval (.slice A1 l.length c1)
  clear h1 h2
  generalize l.length = n at HC t1 t2 t3 ⊢
  go_enter Tryz.func24, Tryz.ntmps24
  go_wp2_with fail
  refine HC.out.mono ?_
  rintro e3 w3 ⟨rfl, hb3⟩
  go_wp2_with fail
  go_ret
  exact ⟨ret_boolA (by simp), hb3⟩
end Go.Proofs.YtggnocajpnmemaaGreatDoor
