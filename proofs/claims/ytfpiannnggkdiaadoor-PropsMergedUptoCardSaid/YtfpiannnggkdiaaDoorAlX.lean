/- The reference's alikeValue, at two values that are the same tree. The reference's alikeValue, of any two values that are the same tree. The reference's alikeProp, slices.EqualFunc at properties, and Alike, of what is the same. The reference's Alike, of two values, and of two lists of properties, that are the same. -/
import Derived.Test.YtfpiannnggkdiaaDoorPnA
import Derived.StillTailTactics
import Derived.Shelf.Abstract
import Derived.KernelRfl
namespace Go.Proofs.YtfpiannnggkdiaaDoor
open Go.RowKit Go.Shelf

theorem ret_boolA {a b : Bool} (h : a = b) : Ending.returned (.bool a) = .returned (.bool b) := by rw [h]
theorem nodes_in {x : V} : ∀ {l : List V}, x ∈ l → nodesV x ≤ nodesL l
  | [], h => absurd h (by simp)
  | y :: l, h => by
    rw [nodesL_cons]
    rcases List.mem_cons.1 h with rfl | h
    · omega
    · have := nodes_in h; omega
def Quiet (w : World) (v : Value) (e : Ending) (w' : World) : Prop := e = .returned v ∧ Below w.heap.size w w'
/-- alikeValue is true of two values of at most K nodes that are the same tree. -/
def AlikeTo (K : Nat) : Prop := ∀ (v : V) (g1 g2 : Value) (W : World), nodesV v ≤ K → VAt W W.heap.size v g1 → VAt W W.heap.size v g2 → Calls Tryd.prog 24 #[g1, g2] W (Quiet W (.bool true))

set_option maxRecDepth 100000 in
set_option maxHeartbeats 8000000 in
theorem valsEqual_any {K : Nat} (hK : AlikeTo K) (l : List V) (A1 A2 : Option Addr) (c1 c2 : Nat) (w : World) (hn : nodesL l ≤ K) (h1 : SlAt w w.heap.size l (.slice A1 l.length c1)) (h2 : SlAt w w.heap.size l (.slice A2 l.length c2)) :
    Calls Tryd.prog 53 #[.slice A1 l.length c1, .slice A2 l.length c2, .func (Fn.func 24) #[] #[]] w (Quiet w (.bool true)) := by
  have hle : l.length ≤ 1048576 := by obtain ⟨_, _, e, h1, _⟩ := h1; exact h1
  have hen := enters_of Tryd.func24 (by kernel_rfl) rfl
  have H1 := Lib.hid h1
  have H2 := Lib.hid h2
  have HK := Lib.hid hK
  have HNO := Lib.hid hn
  obtain ⟨n, hnn⟩ : ∃ n, n = l.length := ⟨_, rfl⟩
  rw [← hnn] at hle H1 H2 ⊢
  have HN := Lib.hid hnn
  clear h1 h2 hnn hK hn
  go_enter Tryd.func53, Tryd.ntmps53
  go_wp2_with fail
  go_loopw [17] (fun iv wx => ∃ j : Nat, iv = .int .i64 j ∧ j ≤ n ∧ Hid (Below w.heap.size w wx)) (fun iv _ => n - (intOf iv).toNat)
  case atStart => exact ⟨0, rfl, Nat.zero_le _, Lib.hid (Below.refl _ _)⟩
  case round =>
    obtain ⟨j, rfl, hjl, HR⟩ := hrel
    by_cases hj : j < n
    · have hj2 : j < l.length := by rw [← HN.out]; exact hj
      have p2 : (j : Int) < n := by omega
      obtain ⟨b1, o1, rfl, r1⟩ : ∃ b o, A1 = some ⟨b, o, none⟩ ∧ RowAt w w.heap.size l b o := by
        obtain ⟨A, c, e, _, _, h⟩ := H1.out
        simp only [Value.slice.injEq] at e
        obtain ⟨rfl, _, _⟩ := e
        rcases h with h | h
        · rw [h] at hj2; exact absurd hj2 (by simp)
        · exact h
      obtain ⟨b2, o2, rfl, r2⟩ : ∃ b o, A2 = some ⟨b, o, none⟩ ∧ RowAt w w.heap.size l b o := by
        obtain ⟨A, c, e, _, _, h⟩ := H2.out
        simp only [Value.slice.injEq] at e
        obtain ⟨rfl, _, _⟩ := e
        rcases h with h | h
        · rw [h] at hj2; exact absurd hj2 (by simp)
        · exact h
      obtain ⟨x, hx, e1⟩ := RowAt.get l b1 o1 j r1 hj2
      obtain ⟨y, hy, e2⟩ := RowAt.get l b2 o2 j r2 hj2
      rw [hx] at hy
      obtain rfl := Option.some.inj hy
      have hxm : x ∈ l := List.mem_of_getElem? hx
      obtain ⟨k1, i1, t1, s1, A1', n1, c1', q0, q1, q2, q3, q4, q5, q6⟩ := e1.hand
      obtain ⟨k2, i2, t2, s2, A2', n2, c2', u0, u1, u2, u3, u4, u5, u6⟩ := e2.hand
      have HC := Lib.hid (fun W (hW : Below w.heap.size w W) => HK.out x _ _ W (Nat.le_trans (nodes_in hxm) HNO.out) ((q6.below hW (Nat.le_refl _)).up hW.size) ((u6.below hW (Nat.le_refl _)).up hW.size))
      have hbel := HR.out
      replace q1 := (hbel.cell (p := ⟨b1, o1 + j * 5, none⟩) q0).trans q1
      replace q2 := (hbel.cell (p := ⟨b1, o1 + j * 5 + 1, none⟩) q0).trans q2
      replace q3 := (hbel.cell (p := ⟨b1, o1 + j * 5 + 2, none⟩) q0).trans q3
      replace q4 := (hbel.cell (p := ⟨b1, o1 + j * 5 + 3, none⟩) q0).trans q4
      replace q5 := (hbel.cell (p := ⟨b1, o1 + j * 5 + 4, none⟩) q0).trans q5
      replace u1 := (hbel.cell (p := ⟨b2, o2 + j * 5, none⟩) u0).trans u1
      replace u2 := (hbel.cell (p := ⟨b2, o2 + j * 5 + 1, none⟩) u0).trans u2
      replace u3 := (hbel.cell (p := ⟨b2, o2 + j * 5 + 2, none⟩) u0).trans u3
      replace u4 := (hbel.cell (p := ⟨b2, o2 + j * 5 + 3, none⟩) u0).trans u4
      replace u5 := (hbel.cell (p := ⟨b2, o2 + j * 5 + 4, none⟩) u0).trans u5
      have hszw := hbel.size
      have l2 : b2 < wr.heap.size := by omega
      have HBL := Lib.hid hbel
      clear q6 u6 e1 e2 r1 r2 hx hy hxm hbel
      go_wp2_with fail
      refine (HC.out _ ((HBL.out.alloc hszw _).alloc (by simp; omega) _)).mono ?_
      rintro e3 w3 ⟨rfl, hb3⟩
      have HB3 := Lib.hid (((HBL.out.alloc hszw _).alloc (by simp; omega) _).trans (hb3.mono (by simp; omega)))
      clear hb3
      go_wp2_with fail
      go_roundw
      case rel => exact ⟨j + 1, by go_num, hj, HB3⟩
      case measure => simp [intOf]; omega
    · have p2 : ¬ (j : Int) < n := by omega
      go_wp2_with fail
      go_ret
      exact ⟨rfl, HR.out⟩
end Go.Proofs.YtfpiannnggkdiaaDoor
namespace Go.Proofs.YtfpiannnggkdiaaDoor
open Go.RowKit Go.Shelf

set_option maxRecDepth 100000 in
set_option maxHeartbeats 8000000 in
theorem alike_step {K : Nat} (hK : AlikeTo K) : AlikeTo (K + 1) := by
  intro v g1 g2 w hn h1 h2
  obtain ⟨k, i, t, s, l⟩ := v
  rw [nodesV_mk] at hn
  obtain ⟨hz, sl1, rfl, hl1⟩ := h1
  obtain ⟨_, sl2, rfl, hl2⟩ := h2
  obtain ⟨A1, c1, rfl, hr1⟩ := hl1
  obtain ⟨A2, c2, rfl, hr2⟩ := hl2
  have HC := Lib.hid (fun W (hW : Below w.heap.size w W) => valsEqual_any hK l A1 A2 c1 c2 W (by omega) (SlAt.up (SlAt.below ⟨A1, c1, rfl, hr1⟩ hW (Nat.le_refl _)) hW.size) (SlAt.up (SlAt.below ⟨A2, c2, rfl, hr2⟩ hW (Nat.le_refl _)) hW.size))
  generalize l.length = n at HC ⊢
  clear hr1 hr2 hK hn
  go_enter Tryd.func24, Tryd.ntmps24
  go_wp2_with fail
  refine (HC.out _ (((Below.refl _ w).alloc (Nat.le_refl _) _).alloc (by simp) _)).mono ?_
  rintro e3 w3 ⟨rfl, hb3⟩
  have HB3 := Lib.hid ((((Below.refl _ w).alloc (Nat.le_refl _) _).alloc (by simp) _).trans (hb3.mono (by simp; omega)))
  clear hb3
  go_wp2_with fail
  go_ret
  exact ⟨ret_boolA (by simp), HB3.out⟩
theorem alike_all : ∀ K, AlikeTo K
  | 0 => fun v _ _ _ h => by obtain ⟨k, i, t, s, l⟩ := v; rw [nodesV_mk] at h; omega
  | K + 1 => alike_step (alike_all K)
/-- alikeValue, of any two values that are the same tree. -/
theorem alikeValue_any (v : V) (g1 g2 : Value) (w : World) (h1 : VAt w w.heap.size v g1) (h2 : VAt w w.heap.size v g2) : Calls Tryd.prog 24 #[g1, g2] w (Quiet w (.bool true)) :=
  alike_all (nodesV v) v g1 g2 w (Nat.le_refl _) h1 h2
end Go.Proofs.YtfpiannnggkdiaaDoor
namespace Go.Proofs.YtfpiannnggkdiaaDoor
open Go.RowKit Go.Shelf

set_option maxRecDepth 100000 in
set_option maxHeartbeats 8000000 in
theorem alikeProp_any (nm : ByteArray) (k i t : Int) (s : ByteArray) (l : List V) (A1 A2 : Option Addr) (c1 c2 : Nat) (w : World) (hz : s.size ≤ 1048576) (h1 : SlAt w w.heap.size l (.slice A1 l.length c1)) (h2 : SlAt w w.heap.size l (.slice A2 l.length c2)) :
    Calls Tryd.prog 26 #[.agg #[.string nm, .int .i64 k, .int .i64 i, .int .i64 t, .string s, .slice A1 l.length c1], .agg #[.string nm, .int .i64 k, .int .i64 i, .int .i64 t, .string s, .slice A2 l.length c2]] w (Quiet w (.bool true)) := by
  have HC := Lib.hid (fun W (hW : Below w.heap.size w W) => alikeValue_any (.mk k i t s l) (.agg #[.int .i64 k, .int .i64 i, .int .i64 t, .string s, .slice A1 l.length c1]) (.agg #[.int .i64 k, .int .i64 i, .int .i64 t, .string s, .slice A2 l.length c2]) W ⟨hz, _, rfl, (h1.below hW (Nat.le_refl _)).up hW.size⟩ ⟨hz, _, rfl, (h2.below hW (Nat.le_refl _)).up hW.size⟩)
  clear h1 h2
  generalize l.length = n at HC ⊢
  go_enter Tryd.func26, Tryd.ntmps26
  go_wp2_with fail
  refine (HC.out _ (((Below.refl _ w).alloc (Nat.le_refl _) _).alloc (by simp) _)).mono ?_
  rintro e3 w3 ⟨rfl, hb3⟩
  have HB3 := Lib.hid ((((Below.refl _ w).alloc (Nat.le_refl _) _).alloc (by simp) _).trans (hb3.mono (by simp; omega)))
  clear hb3
  go_wp2_with fail
  go_ret
  exact ⟨ret_boolA (by simp), HB3.out⟩

set_option maxRecDepth 100000 in
set_option maxHeartbeats 8000000 in
theorem propsEqual_any (l : List PV) (A1 A2 : Option Addr) (c1 c2 : Nat) (w : World) (h1 : PSl w w.heap.size l (.slice A1 l.length c1)) (h2 : PSl w w.heap.size l (.slice A2 l.length c2)) :
    Calls Tryd.prog 25 #[.slice A1 l.length c1, .slice A2 l.length c2, .func (Fn.func 26) #[] #[]] w (Quiet w (.bool true)) := by
  have hle : l.length ≤ 1048576 := by obtain ⟨_, _, e, h1, _⟩ := h1; exact h1
  have hen := enters_of Tryd.func26 (by kernel_rfl) rfl
  have H1 := Lib.hid h1
  have H2 := Lib.hid h2
  obtain ⟨n, hnn⟩ : ∃ n, n = l.length := ⟨_, rfl⟩
  rw [← hnn] at hle H1 H2 ⊢
  have HN := Lib.hid hnn
  clear h1 h2 hnn
  go_enter Tryd.func25, Tryd.ntmps25
  go_wp2_with fail
  go_loopw [17] (fun iv wx => ∃ j : Nat, iv = .int .i64 j ∧ j ≤ n ∧ Hid (Below w.heap.size w wx)) (fun iv _ => n - (intOf iv).toNat)
  case atStart => exact ⟨0, rfl, Nat.zero_le _, Lib.hid (Below.refl _ _)⟩
  case round =>
    obtain ⟨j, rfl, hjl, HR⟩ := hrel
    by_cases hj : j < n
    · have hj2 : j < l.length := by rw [← HN.out]; exact hj
      have p2 : (j : Int) < n := by omega
      obtain ⟨b1, o1, nm, kx, ix, tx, sx, lx, Ax1, cx1, rfl, hx, hlt1, q0, q1, q2, q3, q4, q5, hnz, gz, gl, gs1, _⟩ := prop_item (by rw [← HN.out]; exact H1.out) hj2
      obtain ⟨b2, o2, nm2, kx2, ix2, tx2, sx2, lx2, Ax2, cx2, rfl, hx2, hlt2, u0, u1, u2, u3, u4, u5, _, _, _, gs2, _⟩ := prop_item (by rw [← HN.out]; exact H2.out) hj2
      rw [hx] at hx2
      simp only [PV.mk.injEq, V.mk.injEq] at hx2
      obtain ⟨rfl, rfl, rfl, rfl, rfl, rfl⟩ := hx2
      have HC := Lib.hid (fun W (hW : Below w.heap.size w W) => alikeProp_any nm kx ix tx sx lx Ax1 Ax2 cx1 cx2 W gz ((gs1.below hW (Nat.le_refl _)).up hW.size) ((gs2.below hW (Nat.le_refl _)).up hW.size))
      have hbel := HR.out
      replace q0 := (hbel.cell (p := ⟨b1, o1 + j * 6, none⟩) hlt1).trans q0
      replace q1 := (hbel.cell (p := ⟨b1, o1 + j * 6 + 1, none⟩) hlt1).trans q1
      replace q2 := (hbel.cell (p := ⟨b1, o1 + j * 6 + 2, none⟩) hlt1).trans q2
      replace q3 := (hbel.cell (p := ⟨b1, o1 + j * 6 + 3, none⟩) hlt1).trans q3
      replace q4 := (hbel.cell (p := ⟨b1, o1 + j * 6 + 4, none⟩) hlt1).trans q4
      replace q5 := (hbel.cell (p := ⟨b1, o1 + j * 6 + 5, none⟩) hlt1).trans q5
      replace u0 := (hbel.cell (p := ⟨b2, o2 + j * 6, none⟩) hlt2).trans u0
      replace u1 := (hbel.cell (p := ⟨b2, o2 + j * 6 + 1, none⟩) hlt2).trans u1
      replace u2 := (hbel.cell (p := ⟨b2, o2 + j * 6 + 2, none⟩) hlt2).trans u2
      replace u3 := (hbel.cell (p := ⟨b2, o2 + j * 6 + 3, none⟩) hlt2).trans u3
      replace u4 := (hbel.cell (p := ⟨b2, o2 + j * 6 + 4, none⟩) hlt2).trans u4
      replace u5 := (hbel.cell (p := ⟨b2, o2 + j * 6 + 5, none⟩) hlt2).trans u5
      have hszw := hbel.size
      have l2 : b2 < wr.heap.size := by omega
      have HBL := Lib.hid hbel
      obtain ⟨m, hm⟩ : ∃ m, m = lx.length := ⟨_, rfl⟩
      rw [← hm] at q5 u5 HC
      clear gs1 gs2 hx hbel gl gz hnz hm
      go_wp2_with fail
      refine (HC.out _ ((HBL.out.alloc hszw _).alloc (by simp; omega) _)).mono ?_
      rintro e3 w3 ⟨rfl, hb3⟩
      have HB3 := Lib.hid (((HBL.out.alloc hszw _).alloc (by simp; omega) _).trans (hb3.mono (by simp; omega)))
      clear hb3
      go_wp2_with fail
      go_roundw
      case rel => exact ⟨j + 1, by go_num, hj, HB3⟩
      case measure => simp [intOf]; omega
    · have p2 : ¬ (j : Int) < n := by omega
      go_wp2_with fail
      go_ret
      exact ⟨rfl, HR.out⟩
end Go.Proofs.YtfpiannnggkdiaaDoor
namespace Go.Proofs.YtfpiannnggkdiaaDoor
open Go.RowKit Go.Shelf

theorem ta_val (v : Value) (W : World) : (Instr.typeAssert (.iface 53 v) 20 53 true).run Tryd.prog W = .ok (.tuple #[v, .bool true]) W := by kernel_rfl
theorem ta_props (v : Value) (W : World) : (Instr.typeAssert (.iface 31 v) 20 31 true).run Tryd.prog W = .ok (.tuple #[v, .bool true]) W := by kernel_rfl
theorem ta_noval (v : Value) (W : World) : (Instr.typeAssert (.iface 31 v) 20 53 true).run Tryd.prog W = .ok (.tuple #[.agg #[.int .i64 0, .int .i64 0, .int .i64 0, .string ⟨#[]⟩, .slice none 0 0], .bool false]) W := by kernel_rfl

set_option maxRecDepth 100000 in
set_option maxHeartbeats 8000000 in
theorem alikeV_any (k i t : Int) (s : ByteArray) (l : List V) (A1 A2 : Option Addr) (c1 c2 : Nat) (w : World) (hz : s.size ≤ 1048576) (h1 : SlAt w w.heap.size l (.slice A1 l.length c1)) (h2 : SlAt w w.heap.size l (.slice A2 l.length c2)) :
    Calls Tryd.prog 9 #[.iface 53 (.agg #[.int .i64 k, .int .i64 i, .int .i64 t, .string s, .slice A1 l.length c1]), .iface 53 (.agg #[.int .i64 k, .int .i64 i, .int .i64 t, .string s, .slice A2 l.length c2])] w (Quiet w (.bool true)) := by
  have HC := Lib.hid (fun W (hW : Below w.heap.size w W) => alikeValue_any (.mk k i t s l) (.agg #[.int .i64 k, .int .i64 i, .int .i64 t, .string s, .slice A1 l.length c1]) (.agg #[.int .i64 k, .int .i64 i, .int .i64 t, .string s, .slice A2 l.length c2]) W ⟨hz, _, rfl, (h1.below hW (Nat.le_refl _)).up hW.size⟩ ⟨hz, _, rfl, (h2.below hW (Nat.le_refl _)).up hW.size⟩)
  have t1 := ta_val (.agg #[.int .i64 k, .int .i64 i, .int .i64 t, .string s, .slice A1 l.length c1])
  have t2 := ta_val (.agg #[.int .i64 k, .int .i64 i, .int .i64 t, .string s, .slice A2 l.length c2])
  clear h1 h2
  generalize l.length = n at HC t1 t2 ⊢
  go_enter Tryd.func9, Tryd.ntmps9
  go_wp2_with fail
  refine (HC.out _ (((Below.refl _ w).alloc (Nat.le_refl _) _).alloc (by simp) _)).mono ?_
  rintro e3 w3 ⟨rfl, hb3⟩
  have HB3 := Lib.hid ((((Below.refl _ w).alloc (Nat.le_refl _) _).alloc (by simp) _).trans (hb3.mono (by simp; omega)))
  clear hb3
  go_wp2_with fail
  go_ret
  exact ⟨ret_boolA (by simp), HB3.out⟩
set_option maxRecDepth 100000 in
set_option maxHeartbeats 8000000 in
theorem alikeL_any (l : List PV) (A1 A2 : Option Addr) (c1 c2 : Nat) (w : World) (h1 : PSl w w.heap.size l (.slice A1 l.length c1)) (h2 : PSl w w.heap.size l (.slice A2 l.length c2)) :
    Calls Tryd.prog 9 #[.iface 31 (.slice A1 l.length c1), .iface 31 (.slice A2 l.length c2)] w (Quiet w (.bool true)) := by
  have HC := Lib.hid (propsEqual_any l A1 A2 c1 c2 w h1 h2)
  have t1 := ta_props (.slice A1 l.length c1)
  have t2 := ta_props (.slice A2 l.length c2)
  have t3 := ta_noval (.slice A1 l.length c1)
  clear h1 h2
  generalize l.length = n at HC t1 t2 t3 ⊢
  go_enter Tryd.func9, Tryd.ntmps9
  go_wp2_with fail
  refine HC.out.mono ?_
  rintro e3 w3 ⟨rfl, hb3⟩
  go_wp2_with fail
  go_ret
  exact ⟨ret_boolA (by simp), hb3⟩
end Go.Proofs.YtfpiannnggkdiaaDoor
