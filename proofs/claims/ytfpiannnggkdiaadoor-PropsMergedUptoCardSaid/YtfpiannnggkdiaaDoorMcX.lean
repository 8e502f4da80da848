/- The program's mergeItems: what is wanted. The program's mergeItems. The program's mergeValues. The program's mergeValues: the walk. (Made by gen_mgj.py.) -/
import Derived.Test.YtfpiannnggkdiaaDoorMbX
namespace Go.Proofs.YtfpiannnggkdiaaDoor
open Go.RowKit Go.Shelf

theorem ret_boolB {a b : Bool} (h : a = b) : Ending.returned (.bool a) = .returned (.bool b) := by rw [h]
set_option maxRecDepth 100000 in
set_option maxHeartbeats 4000000 in
theorem want2_any (la lb : List V) (A1 A2 : Option Addr) (c1 c2 q1 q2 : Nat) (x : V) (g : Value) (w : World) (h1 : w.cell? ⟨q1, 0, none⟩ = some (.slice A1 la.length c1)) (h2 : w.cell? ⟨q2, 0, none⟩ = some (.slice A2 lb.length c2)) (l1 : q1 < w.heap.size) (l2 : q2 < w.heap.size)
    (hl1 : SlAt w w.heap.size la (.slice A1 la.length c1)) (hl2 : SlAt w w.heap.size lb (.slice A2 lb.length c2)) (hx : VAt w w.heap.size x g) (hN1 : ∀ v ∈ la, nodesV v ≤ 1000) (hN2 : ∀ v ∈ lb, nodesV v ≤ 1000) :
    Calls Tryd.prog 79 #[g, .pointer (some ⟨q1, 0, none⟩), .pointer (some ⟨q2, 0, none⟩)] w (Quiet w (.bool (hasT la x && hasT lb x))) := by
  have HC1 := Lib.hid (fun W (hW : Below w.heap.size w W) => has_any la A1 c1 x g W ((hl1.below hW (Nat.le_refl _)).up hW.size) (hx.later hW) hN1)
  have HC2 := Lib.hid (fun W (hW : Below w.heap.size w W) => has_any lb A2 c2 x g W ((hl2.below hW (Nat.le_refl _)).up hW.size) (hx.later hW) hN2)
  obtain ⟨k, i, t, s, lx, A, c, rfl, rfl, hz, hs⟩ := hx.hand
  generalize hb1 : hasT la (.mk k i t s lx) = b1 at HC1 ⊢
  generalize hb2 : hasT lb (.mk k i t s lx) = b2 at HC2 ⊢
  generalize la.length = n1 at h1 HC1
  generalize lb.length = n2 at h2 HC2
  generalize lx.length = m at HC1 HC2 ⊢
  clear hl1 hl2 hx hN1 hN2 hs hb1 hb2
  have HQ := Lib.hid h2
  cases b1 with
  | false =>
    go_enter Tryd.func79, Tryd.ntmps79
    go_wp2_with fail
    refine (HC1.out _ ((Below.refl _ w).alloc (Nat.le_refl _) _)).mono ?_
    rintro e1 w1 ⟨rfl, hb1⟩
    have HB1 := Lib.hid (((Below.refl _ w).alloc (Nat.le_refl _) (.cells #[.int .i64 k, .int .i64 i, .int .i64 t, .string s, .slice A m c] 53)).trans (hb1.mono (by simp)))
    clear hb1
    go_wp2_with fail
    go_ret
    exact ⟨ret_boolB (by simp), HB1.out⟩
  | true =>
    go_enter Tryd.func79, Tryd.ntmps79
    go_wp2_with fail
    refine (HC1.out _ ((Below.refl _ w).alloc (Nat.le_refl _) _)).mono ?_
    rintro e1 w1 ⟨rfl, hb1⟩
    have hbx := (hb1.block w.heap.size (by simp)).trans (heap_alloc_new w _)
    have HB1 := Lib.hid (((Below.refl _ w).alloc (Nat.le_refl _) (.cells #[.int .i64 k, .int .i64 i, .int .i64 t, .string s, .slice A m c] 53)).trans (hb1.mono (by simp)))
    have x0 := cell_of_row w1 _ 0 _ _ (0, 0) hbx
    have x1 := cell_of_row w1 _ 1 _ _ (0, 0) hbx
    have x2 := cell_of_row w1 _ 2 _ _ (0, 0) hbx
    have x3 := cell_of_row w1 _ 3 _ _ (0, 0) hbx
    have x4 := cell_of_row w1 _ 4 _ _ (0, 0) hbx
    have h2' := (HB1.out.cell (p := ⟨q2, 0, none⟩) l2).trans HQ.out
    clear hb1 hbx
    go_wp2_with fail
    refine (HC2.out _ HB1.out).mono ?_
    rintro e2 w2 ⟨rfl, hb2⟩
    have HB2 := Lib.hid (HB1.out.trans (hb2.mono HB1.out.size))
    clear hb2
    go_wp2_with fail
    go_ret
    exact ⟨ret_boolB (by simp), HB2.out⟩
set_option maxRecDepth 100000 in
set_option maxHeartbeats 4000000 in
theorem want3_any (la : List V) (A1 : Option Addr) (c1 q1 : Nat) (x : V) (g : Value) (w : World) (h1 : w.cell? ⟨q1, 0, none⟩ = some (.slice A1 la.length c1)) (l1 : q1 < w.heap.size)
    (hl1 : SlAt w w.heap.size la (.slice A1 la.length c1)) (hx : VAt w w.heap.size x g) (hN1 : ∀ v ∈ la, nodesV v ≤ 1000) :
    Calls Tryd.prog 80 #[g, .pointer (some ⟨q1, 0, none⟩)] w (Quiet w (.bool (!hasT la x))) := by
  have HC1 := Lib.hid (fun W (hW : Below w.heap.size w W) => has_any la A1 c1 x g W ((hl1.below hW (Nat.le_refl _)).up hW.size) (hx.later hW) hN1)
  obtain ⟨k, i, t, s, lx, A, c, rfl, rfl, hz, hs⟩ := hx.hand
  generalize hasT la (.mk k i t s lx) = b1 at HC1 ⊢
  generalize la.length = n1 at h1 HC1
  generalize lx.length = m at HC1 ⊢
  clear hl1 hx hN1 hs
  go_enter Tryd.func80, Tryd.ntmps80
  go_wp2_with fail
  refine (HC1.out _ ((Below.refl _ w).alloc (Nat.le_refl _) _)).mono ?_
  rintro e1 w1 ⟨rfl, hb1⟩
  have HB1 := Lib.hid (((Below.refl _ w).alloc (Nat.le_refl _) (.cells #[.int .i64 k, .int .i64 i, .int .i64 t, .string s, .slice A m c] 53)).trans (hb1.mono (by simp)))
  clear hb1
  go_wp2_with fail
  go_ret
  exact ⟨ret_boolB (by cases b1 <;> rfl), HB1.out⟩
set_option maxRecDepth 100000 in
set_option maxHeartbeats 4000000 in
theorem want4_any (la lb : List V) (A1 A2 : Option Addr) (c1 c2 q1 q2 : Nat) (x : V) (g : Value) (w : World) (h1 : w.cell? ⟨q1, 0, none⟩ = some (.slice A1 la.length c1)) (h2 : w.cell? ⟨q2, 0, none⟩ = some (.slice A2 lb.length c2)) (l1 : q1 < w.heap.size) (l2 : q2 < w.heap.size)
    (hl1 : SlAt w w.heap.size la (.slice A1 la.length c1)) (hl2 : SlAt w w.heap.size lb (.slice A2 lb.length c2)) (hx : VAt w w.heap.size x g) (hN1 : ∀ v ∈ la, nodesV v ≤ 1000) (hN2 : ∀ v ∈ lb, nodesV v ≤ 1000) :
    Calls Tryd.prog 81 #[g, .pointer (some ⟨q1, 0, none⟩), .pointer (some ⟨q2, 0, none⟩)] w (Quiet w (.bool (!hasT la x && !hasT lb x))) := by
  have HC1 := Lib.hid (fun W (hW : Below w.heap.size w W) => has_any la A1 c1 x g W ((hl1.below hW (Nat.le_refl _)).up hW.size) (hx.later hW) hN1)
  have HC2 := Lib.hid (fun W (hW : Below w.heap.size w W) => has_any lb A2 c2 x g W ((hl2.below hW (Nat.le_refl _)).up hW.size) (hx.later hW) hN2)
  obtain ⟨k, i, t, s, lx, A, c, rfl, rfl, hz, hs⟩ := hx.hand
  generalize hb1 : hasT la (.mk k i t s lx) = b1 at HC1 ⊢
  generalize hb2 : hasT lb (.mk k i t s lx) = b2 at HC2 ⊢
  generalize la.length = n1 at h1 HC1
  generalize lb.length = n2 at h2 HC2
  generalize lx.length = m at HC1 HC2 ⊢
  clear hl1 hl2 hx hN1 hN2 hs hb1 hb2
  have HQ := Lib.hid h2
  cases b1 with
  | true =>
    go_enter Tryd.func81, Tryd.ntmps81
    go_wp2_with fail
    refine (HC1.out _ ((Below.refl _ w).alloc (Nat.le_refl _) _)).mono ?_
    rintro e1 w1 ⟨rfl, hb1⟩
    have HB1 := Lib.hid (((Below.refl _ w).alloc (Nat.le_refl _) (.cells #[.int .i64 k, .int .i64 i, .int .i64 t, .string s, .slice A m c] 53)).trans (hb1.mono (by simp)))
    clear hb1
    go_wp2_with fail
    go_ret
    exact ⟨ret_boolB (by simp), HB1.out⟩
  | false =>
    go_enter Tryd.func81, Tryd.ntmps81
    go_wp2_with fail
    refine (HC1.out _ ((Below.refl _ w).alloc (Nat.le_refl _) _)).mono ?_
    rintro e1 w1 ⟨rfl, hb1⟩
    have hbx := (hb1.block w.heap.size (by simp)).trans (heap_alloc_new w _)
    have HB1 := Lib.hid (((Below.refl _ w).alloc (Nat.le_refl _) (.cells #[.int .i64 k, .int .i64 i, .int .i64 t, .string s, .slice A m c] 53)).trans (hb1.mono (by simp)))
    have x0 := cell_of_row w1 _ 0 _ _ (0, 0) hbx
    have x1 := cell_of_row w1 _ 1 _ _ (0, 0) hbx
    have x2 := cell_of_row w1 _ 2 _ _ (0, 0) hbx
    have x3 := cell_of_row w1 _ 3 _ _ (0, 0) hbx
    have x4 := cell_of_row w1 _ 4 _ _ (0, 0) hbx
    have h2' := (HB1.out.cell (p := ⟨q2, 0, none⟩) l2).trans HQ.out
    clear hb1 hbx
    go_wp2_with fail
    refine (HC2.out _ HB1.out).mono ?_
    rintro e2 w2 ⟨rfl, hb2⟩
    have HB2 := Lib.hid (HB1.out.trans (hb2.mono HB1.out.size))
    clear hb2
    go_wp2_with fail
    go_ret
    exact ⟨ret_boolB (by cases b2 <;> simp), HB2.out⟩
/-- What the items come to. -/
def itemsM (lo la lb : List V) : List V :=
  addL (addL (addL [] (fun x => hasT la x && hasT lb x) lo) (fun x => !hasT lo x) la) (fun x => !hasT lo x && !hasT la x) lb
end Go.Proofs.YtfpiannnggkdiaaDoor
namespace Go.Proofs.YtfpiannnggkdiaaDoor
open Go.RowKit Go.Shelf

theorem ItemSt.old {w0 w : World} {ib base B0 : Nat} {T : TypeId} {pre suf : List Value} {L : List V} (h : ItemSt w0 ib base B0 T pre suf L w) {q : Nat} {cs : Array Value} {t : TypeId} (hq : q < base) (hne : q ≠ ib) (hb : w0.heap[q]? = some (.cells cs t (0, 0))) : w.heap[q]? = some (.cells cs t (0, 0)) := (h.block q hq hne).trans hb
theorem ItemSt.src {w0 w : World} {ib base B0 : Nat} {T : TypeId} {pre suf : List Value} {L : List V} (h : ItemSt w0 ib base B0 T pre suf L w) (hB : B0 ≤ ib) (hib : ib < base) {l : List V} {g : Value} (hl : SlF w0 (fun k => k < B0) l g) : SlAt w w.heap.size l g :=
  (hl.keep (w' := w) (G := fun k => k < B0) (fun b hb => h.block b (by omega) (by omega)) (fun _ h => h)).toAt (fun b hb => by have := h.size; omega)

set_option maxRecDepth 100000 in
set_option maxHeartbeats 8000000 in
theorem mergeItems_any (lo la lb : List V) (Ao Aa Ab : Option Addr) (co ca cb B0 : Nat) (w : World) (hB0 : B0 ≤ w.heap.size) (ho : SlAt w B0 lo (.slice Ao lo.length co)) (ha : SlAt w B0 la (.slice Aa la.length ca)) (hb : SlAt w B0 lb (.slice Ab lb.length cb))
    (hlo : lo.length ≤ 20) (hla : la.length ≤ 20) (hlb : lb.length ≤ 20) (hNo : ∀ v ∈ lo, nodesV v ≤ 1000) (hNa : ∀ v ∈ la, nodesV v ≤ 1000) (hNb : ∀ v ∈ lb, nodesV v ≤ 1000) :
    Calls Tryd.prog 63 #[.slice Ao lo.length co, .slice Aa la.length ca, .slice Ab lb.length cb] w fun e w' => ∃ A c, e = .returned (.slice A (itemsM lo la lb).length c) ∧ SlF w' (fun k => (k < B0 ∨ w.heap.size ≤ k) ∧ k < w'.heap.size) (itemsM lo la lb) (.slice A (itemsM lo la lb).length c) ∧ Below w.heap.size w w' := by
  have en2 : ∀ (ys : Array Value) (W : World), (callFunc 79 ys).run Tryd.prog W = .ok (.enter 79 ys) W := enters_of Tryd.func79 (by kernel_rfl) rfl
  have en3 : ∀ (ys : Array Value) (W : World), (callFunc 80 ys).run Tryd.prog W = .ok (.enter 80 ys) W := enters_of Tryd.func80 (by kernel_rfl) rfl
  have en4 : ∀ (ys : Array Value) (W : World), (callFunc 81 ys).run Tryd.prog W = .ok (.enter 81 ys) W := enters_of Tryd.func81 (by kernel_rfl) rfl
  have en1 : ∀ (ys : Array Value) (W : World), (callFunc 77 ys).run Tryd.prog W = .ok (.enter 77 ys) W := enters_of Tryd.func77 (by kernel_rfl) rfl
  obtain ⟨W0, hW0⟩ : ∃ W0, W0 = (((w.alloc (.cells #[.slice Ao lo.length co] 51)).alloc (.cells #[.slice Aa la.length ca] 51)).alloc (.cells #[.slice Ab lb.length cb] 51)).alloc (.cells #[.slice none 0 0] 51) := ⟨_, rfl⟩
  have hbel : Below w.heap.size w W0 := by rw [hW0]; exact ((((Below.refl _ w).alloc (Nat.le_refl _) _).alloc (by simp) _).alloc (by simp <;> omega) _).alloc (by simp <;> omega) _
  have hs0 : W0.heap.size = w.heap.size + 4 := by rw [hW0]; simp
  have q0 : W0.heap[w.heap.size]? = some (.cells #[.slice Ao lo.length co] 51 (0, 0)) := by
    rw [hW0, Below.heap_alloc _ _ _ (by simp <;> omega), Below.heap_alloc _ _ _ (by simp <;> omega), Below.heap_alloc _ _ _ (by simp)]
    exact heap_alloc_new w _
  have q1 : W0.heap[w.heap.size + 1]? = some (.cells #[.slice Aa la.length ca] 51 (0, 0)) := by
    rw [hW0, Below.heap_alloc _ _ _ (by simp <;> omega), Below.heap_alloc _ _ _ (by simp)]
    have := heap_alloc_new (w.alloc (.cells #[.slice Ao lo.length co] 51)) (.cells #[.slice Aa la.length ca] 51)
    simpa using this
  have q2 : W0.heap[w.heap.size + 1 + 1]? = some (.cells #[.slice Ab lb.length cb] 51 (0, 0)) := by
    rw [hW0, Below.heap_alloc _ _ _ (by simp)]
    have := heap_alloc_new ((w.alloc (.cells #[.slice Ao lo.length co] 51)).alloc (.cells #[.slice Aa la.length ca] 51)) (.cells #[.slice Ab lb.length cb] 51)
    simpa using this
  have q3 : W0.heap[w.heap.size + 1 + 1 + 1]? = some (.cells #[.slice none 0 0] 51 (0, 0)) := by
    rw [hW0]
    have := heap_alloc_new (((w.alloc (.cells #[.slice Ao lo.length co] 51)).alloc (.cells #[.slice Aa la.length ca] 51)).alloc (.cells #[.slice Ab lb.length cb] 51)) (.cells #[.slice none 0 0] 51)
    simpa using this
  have HST0 : Hid (ItemSt W0 (w.heap.size + 1 + 1 + 1) (w.heap.size + 4) B0 51 [] [] [] W0) := Lib.hid ⟨rfl, rfl, rfl, by omega, by omega, fun _ _ _ => rfl, fun _ => False, [], none, 0, q3, World.ownsRow_nil _ _ _ _, rfl, fun _ h => h.elim, fun _ h => by simp [Value.ownBlock] at h⟩
  have fo : SlF W0 (fun k => k < B0) lo (.slice Ao lo.length co) := (ho.toF (fun _ h => h)).keep (fun b hb => hbel.block b (by omega)) (fun _ h => h)
  have fa : SlF W0 (fun k => k < B0) la (.slice Aa la.length ca) := (ha.toF (fun _ h => h)).keep (fun b hb => hbel.block b (by omega)) (fun _ h => h)
  have fb : SlF W0 (fun k => k < B0) lb (.slice Ab lb.length cb) := (hb.toF (fun _ h => h)).keep (fun b hb => hbel.block b (by omega)) (fun _ h => h)
  have hc1 : ∀ {p : V → Bool} {L : List V}, (addL L p lo).length ≤ L.length + 20 := fun {p L} => Nat.le_trans (addL_len p lo L) (by omega)
  have K2 : Wants W0 (w.heap.size + 1 + 1 + 1) (w.heap.size + 4) B0 51 [] [] lo 79 #[.pointer (some ⟨w.heap.size + 1, 0, none⟩), .pointer (some ⟨w.heap.size + 1 + 1, 0, none⟩)] (fun x => hasT la x && hasT lb x) := ⟨en2, fun W L v g _ hS hvat =>
    want2_any la lb Aa Ab ca cb (w.heap.size + 1) (w.heap.size + 1 + 1) v g W (cell_of_row W _ 0 _ _ (0, 0) (hS.old (by omega) (by omega) q1)) (cell_of_row W _ 0 _ _ (0, 0) (hS.old (by omega) (by omega) q2)) (by have := hS.size; omega) (by have := hS.size; omega) (hS.src (by omega) (by omega) fa) (hS.src (by omega) (by omega) fb) hvat hNa hNb⟩
  have K3 : Wants W0 (w.heap.size + 1 + 1 + 1) (w.heap.size + 4) B0 51 [] [] la 80 #[.pointer (some ⟨w.heap.size, 0, none⟩)] (fun x => !hasT lo x) := ⟨en3, fun W L v g _ hS hvat =>
    want3_any lo Ao co w.heap.size v g W (cell_of_row W _ 0 _ _ (0, 0) (hS.old (by omega) (by omega) q0)) (by have := hS.size; omega) (hS.src (by omega) (by omega) fo) hvat hNo⟩
  have K4 : Wants W0 (w.heap.size + 1 + 1 + 1) (w.heap.size + 4) B0 51 [] [] lb 81 #[.pointer (some ⟨w.heap.size, 0, none⟩), .pointer (some ⟨w.heap.size + 1, 0, none⟩)] (fun x => !hasT lo x && !hasT la x) := ⟨en4, fun W L v g _ hS hvat =>
    want4_any lo la Ao Aa co ca w.heap.size (w.heap.size + 1) v g W (cell_of_row W _ 0 _ _ (0, 0) (hS.old (by omega) (by omega) q0)) (cell_of_row W _ 0 _ _ (0, 0) (hS.old (by omega) (by omega) q1)) (by have := hS.size; omega) (by have := hS.size; omega) (hS.src (by omega) (by omega) fo) (hS.src (by omega) (by omega) fa) hvat hNo hNa⟩
  obtain ⟨L1, hL1⟩ : ∃ L1, L1 = addL [] (fun x => hasT la x && hasT lb x) lo := ⟨_, rfl⟩
  obtain ⟨L2, hL2⟩ : ∃ L2, L2 = addL L1 (fun x => !hasT lo x) la := ⟨_, rfl⟩
  have hL1l : L1.length ≤ 20 := by have := addL_len (fun x => hasT la x && hasT lb x) lo []; rw [← hL1] at this; simp at this; omega
  have hL2l : L2.length ≤ 40 := by have := addL_len (fun x => !hasT lo x) la L1; rw [← hL2] at this; omega
  have hN1 : ∀ v ∈ L1, nodesV v ≤ 1000 := fun v hv => by rw [hL1] at hv; rcases addL_mem _ _ _ v hv with h | h; simp at h; exact hNo v h
  have hN2 : ∀ v ∈ L2, nodesV v ≤ 1000 := fun v hv => by rw [hL2] at hv; rcases addL_mem _ _ _ v hv with h | h; exact hN1 v h; exact hNa v h
  have hEnd : itemsM lo la lb = addL L2 (fun x => !hasT lo x && !hasT la x) lb := by unfold itemsM; rw [hL2, hL1]
  have hEl : (itemsM lo la lb).length ≤ 60 := by rw [hEnd]; have := addL_len (fun x => !hasT lo x && !hasT la x) lb L2; omega
  have C1 := Lib.hid (add_any lo (fun x => hasT la x && hasT lb x) 79 #[.pointer (some ⟨w.heap.size + 1, 0, none⟩), .pointer (some ⟨w.heap.size + 1 + 1, 0, none⟩)] Ao co (w.heap.size + 1 + 1 + 1) (w.heap.size + 4) B0 [] W0 W0 HST0.out (by omega) (by omega) (by omega) fo K2 (fun v hv => by rcases hv with h | h; simp at h; exact hNo v h) (by simp <;> omega))
  have C2 := Lib.hid (fun (W : World) (hW : ItemSt W0 (w.heap.size + 1 + 1 + 1) (w.heap.size + 4) B0 51 [] [] L1 W) => add_any la (fun x => !hasT lo x) 80 #[.pointer (some ⟨w.heap.size, 0, none⟩)] Aa ca (w.heap.size + 1 + 1 + 1) (w.heap.size + 4) B0 L1 W0 W hW (by omega) (by omega) (by omega) fa K3 (fun v hv => by rcases hv with h | h; exact hN1 v h; exact hNa v h) (by omega))
  have C3 := Lib.hid (fun (W : World) (hW : ItemSt W0 (w.heap.size + 1 + 1 + 1) (w.heap.size + 4) B0 51 [] [] L2 W) => add_any lb (fun x => !hasT lo x && !hasT la x) 81 #[.pointer (some ⟨w.heap.size, 0, none⟩), .pointer (some ⟨w.heap.size + 1, 0, none⟩)] Ab cb (w.heap.size + 1 + 1 + 1) (w.heap.size + 4) B0 L2 W0 W hW (by omega) (by omega) (by omega) fb K4 (fun v hv => by rcases hv with h | h; exact hN2 v h; exact hNb v h) (by omega))
  rw [← hL1] at C1
  rw [← hL2] at C2
  rw [← hEnd] at C3
  have Q0 := Lib.hid q0
  have Q1 := Lib.hid q1
  have Q2 := Lib.hid q2
  have HBEL := Lib.hid hbel
  generalize itemsM lo la lb = L3 at C3 hEl ⊢
  generalize lo.length = no at C1 Q0 hW0 ⊢
  generalize la.length = na at C2 Q1 hW0 ⊢
  generalize lb.length = nb at C3 Q2 hW0 ⊢
  clear ho ha hb hlo hla hlb hNo hNa hNb fo fa fb K2 K3 K4 hL1 hL2 hL1l hL2l hN1 hN2 hEnd q0 q1 q2 q3 hbel hc1
  go_enter Tryd.func63, Tryd.ntmps63
  go_wp2_with fail
  rw [← hW0]
  refine C1.out.mono ?_
  rintro e1 w1 ⟨rfl, hS1⟩
  have HS1 := Lib.hid hS1
  have x1 := cell_of_row w1 _ 0 _ _ (0, 0) (hS1.old (by omega) (by omega) Q1.out)
  clear hS1
  go_wp2_with fail
  refine (C2.out w1 HS1.out).mono ?_
  rintro e2 w2 ⟨rfl, hS2⟩
  have HS2 := Lib.hid hS2
  have x2 := cell_of_row w2 _ 0 _ _ (0, 0) (hS2.old (by omega) (by omega) Q2.out)
  clear hS2
  go_wp2_with fail
  refine (C3.out w2 HS2.out).mono ?_
  rintro e3 w3 ⟨rfl, hS3⟩
  obtain ⟨F, xs, A, c, k1, k2, k3, k4, k5⟩ := hS3.rep
  have x3 := cell_of_row w3 _ 0 _ _ (0, 0) k1
  have HSL := Lib.hid (vown_slF (G := fun k => (k < B0 ∨ w.heap.size ≤ k) ∧ k < w3.heap.size) k2 k3 (fun k hk => by have := k4 k hk; have := hS3.size; omega) (fun g h1 h2 => by omega) (by omega))
  have HB3 : Hid (Below w.heap.size w w3) := Lib.hid ⟨hS3.os.trans HBEL.out.os, hS3.tape.trans HBEL.out.tape, hS3.output.trans HBEL.out.output, by have := hS3.size; omega, fun k hk => (hS3.block k (by omega) (by omega)).trans (HBEL.out.block k hk)⟩
  generalize hz : L3.length = z at x3 HSL ⊢
  clear hS3 k1 k2 k3 k4 k5
  go_wp2_with fail
  go_ret
  exact ⟨A, c, by first | rfl | (rw [hz]; rfl), by first | exact HSL.out | (rw [hz]; exact HSL.out), HB3.out⟩
end Go.Proofs.YtfpiannnggkdiaaDoor
namespace Go.Proofs.YtfpiannnggkdiaaDoor
open Go.RowKit Go.Shelf

def listB (k : Int) : Bool := decide (k = 7) || decide (k = 0)
/-- What becomes of the values of one name. -/
def mergeT (o a b : V) : V × Bool :=
  if sameT a o = true then (b, true) else if (sameT b o || sameT a b) = true then (a, true)
  else if (listB o.kind && listB a.kind && listB b.kind) = true ∧ (itemsM o.kids a.kids b.kids).length ≤ 20 then (.mk 7 0 0 ⟨#[]⟩ (itemsM o.kids a.kids b.kids), true)
  else if a.kind = 0 then (b, false) else (a, false)
theorem five_cells {w : World} {b : Nat} {x0 x1 x2 x3 x4 : Value} {T : TypeId} (h : w.heap[b]? = some (.cells #[x0, x1, x2, x3, x4] T (0, 0))) :
    w.cell? ⟨b, 0, none⟩ = some x0 ∧ w.cell? ⟨b, 1, none⟩ = some x1 ∧ w.cell? ⟨b, 2, none⟩ = some x2 ∧ w.cell? ⟨b, 3, none⟩ = some x3 ∧ w.cell? ⟨b, 4, none⟩ = some x4 :=
  ⟨cell_of_row w b 0 _ _ (0, 0) h, cell_of_row w b 1 _ _ (0, 0) h, cell_of_row w b 2 _ _ (0, 0) h, cell_of_row w b 3 _ _ (0, 0) h, cell_of_row w b 4 _ _ (0, 0) h⟩
theorem five_frozen {w : World} {b : Nat} {x0 x1 x2 x3 x4 : Value} {T : TypeId} (h : w.heap[b]? = some (.cells #[x0, x1, x2, x3, x4] T (0, 0))) :
    w.frozen? ⟨b, 0, none⟩ = false ∧ w.frozen? ⟨b, 1, none⟩ = false ∧ w.frozen? ⟨b, 2, none⟩ = false ∧ w.frozen? ⟨b, 3, none⟩ = false ∧ w.frozen? ⟨b, 4, none⟩ = false :=
  ⟨frozen_of_row w b 0 _ _ h, frozen_of_row w b 1 _ _ h, frozen_of_row w b 2 _ _ h, frozen_of_row w b 3 _ _ h, frozen_of_row w b 4 _ _ h⟩
set_option maxRecDepth 100000 in
set_option maxHeartbeats 4000000 in
theorem mayBeList_any (k i t : Int) (s : ByteArray) (g : Value) (w : World) :
    Calls Tryd.prog 62 #[.agg #[.int .i64 k, .int .i64 i, .int .i64 t, .string s, g]] w (Quiet w (.bool (listB k))) := by
  by_cases h7 : k = 7
  · subst h7
    go_enter Tryd.func62, Tryd.ntmps62
    go_wp2_with fail
    go_ret
    exact ⟨ret_boolB (by simp [listB]), (Below.refl _ w).alloc (Nat.le_refl _) _⟩
  · by_cases h0 : k = 0
    · subst h0
      go_enter Tryd.func62, Tryd.ntmps62
      go_wp2_with fail
      go_ret
      exact ⟨ret_boolB (by simp [listB]), (Below.refl _ w).alloc (Nat.le_refl _) _⟩
    · go_enter Tryd.func62, Tryd.ntmps62
      go_wp2_with fail
      go_ret
      exact ⟨ret_boolB (by simp [listB, h7, h0]), (Below.refl _ w).alloc (Nat.le_refl _) _⟩
/-- What mergeValues gives. -/
def MergeTo (w : World) (r : V × Bool) (e : Ending) (w' : World) : Prop :=
  ∃ g, e = .returned (.tuple #[g, .bool r.2]) ∧ VAt w' w'.heap.size r.1 g ∧ Below w.heap.size w w'
def zeroV5 : Obj := .cells #[.int .i64 0, .int .i64 0, .int .i64 0, .string ⟨#[]⟩, .slice none 0 0] 53
/-- The result's box, filled. -/
theorem merge_done {w wx : World} {v : V} {k i t : Int} {s : ByteArray} {A : Option Addr} {n c q : Nat} {b : Bool} (hq : w.heap.size ≤ q) (hb : Below w.heap.size w wx)
    (hne : ∀ (F : World), (∀ j, j ≠ q → F.heap[j]? = wx.heap[j]?) → F.heap.size = wx.heap.size → VAt F F.heap.size v (.agg #[.int .i64 k, .int .i64 i, .int .i64 t, .string s, .slice A n c])) :
    MergeTo w (v, b) (.returned (.tuple #[.agg #[.int .i64 k, .int .i64 i, .int .i64 t, .string s, .slice A n c], .bool b])) (((((wx.setCell ⟨q, 0, none⟩ (.int .i64 k)).setCell ⟨q, 1, none⟩ (.int .i64 i)).setCell ⟨q, 2, none⟩ (.int .i64 t)).setCell ⟨q, 3, none⟩ (.string s)).setCell ⟨q, 4, none⟩ (.slice A n c)) := by
  refine ⟨_, rfl, hne _ (fun j hj => ?_) (by simp [World.setCell]), ((((hb.setCell hq _).setCell hq _).setCell hq _).setCell hq _).setCell hq _⟩
  simp [World.setCell, Array.getElem?_modify, Ne.symm hj]
end Go.Proofs.YtfpiannnggkdiaaDoor
namespace Go.Proofs.YtfpiannnggkdiaaDoor
open Go.RowKit Go.Shelf

theorem arg_later {w wx F : World} {v : V} {g : Value} {q : Nat} (h : VAt w w.heap.size v g) (hb : Below w.heap.size w wx) (hq : w.heap.size ≤ q) (h1 : ∀ j, j ≠ q → F.heap[j]? = wx.heap[j]?) (h2 : F.heap.size = wx.heap.size) : VAt F F.heap.size v g := by
  obtain ⟨k, i, t, s, l⟩ := v
  obtain ⟨hz, sl, rfl, hs⟩ := h
  have hsz := hb.size
  exact ⟨hz, sl, rfl, ((hs.toF (F := fun b => b < w.heap.size) (fun _ h => h)).keep (w' := F) (G := fun b => b < w.heap.size) (fun b hb' => (h1 b (by omega)).trans (hb.block b hb')) (fun _ h => h)).toAt (fun b hb' => by omega)⟩
/-- The boxes of mergeValues. -/
structure MvBox (w : World) (B : Nat) (co ca cb : Array Value) (W : World) : Prop where
  bel : Below w.heap.size w W
  o : W.heap[B]? = some (.cells co 53 (0, 0))
  a : W.heap[B + 1]? = some (.cells ca 53 (0, 0))
  b : W.heap[B + 1 + 1]? = some (.cells cb 53 (0, 0))
  r : W.heap[B + 1 + 1 + 1]? = some (.cells #[.int .i64 0, .int .i64 0, .int .i64 0, .string ⟨#[]⟩, .slice none 0 0] 53 (0, 0))
theorem MvBox.later {w W W' : World} {B : Nat} {co ca cb : Array Value} (h : MvBox w B co ca cb W) (hb : Below W.heap.size W W') : MvBox w B co ca cb W' :=
  ⟨h.bel.trans (hb.mono h.bel.size), (hb.block _ (lt_of_blk' h.o)).trans h.o, (hb.block _ (lt_of_blk' h.a)).trans h.a, (hb.block _ (lt_of_blk' h.b)).trans h.b, (hb.block _ (lt_of_blk' h.r)).trans h.r⟩
theorem mv_start (w : World) (co ca cb : Array Value) : MvBox w w.heap.size co ca cb ((((w.alloc (.cells co 53)).alloc (.cells ca 53)).alloc (.cells cb 53)).alloc (.cells #[.int .i64 0, .int .i64 0, .int .i64 0, .string ⟨#[]⟩, .slice none 0 0] 53)) := by
  refine ⟨((((Below.refl _ w).alloc (Nat.le_refl _) _).alloc (by simp) _).alloc (by simp <;> omega) _).alloc (by simp <;> omega) _, ?_, ?_, ?_, ?_⟩
  · rw [Below.heap_alloc _ _ _ (by simp <;> omega), Below.heap_alloc _ _ _ (by simp <;> omega), Below.heap_alloc _ _ _ (by simp)]
    exact heap_alloc_new w _
  · rw [Below.heap_alloc _ _ _ (by simp <;> omega), Below.heap_alloc _ _ _ (by simp)]
    have := heap_alloc_new (w.alloc (.cells co 53)) (.cells ca 53)
    simpa using this
  · rw [Below.heap_alloc _ _ _ (by simp)]
    have := heap_alloc_new ((w.alloc (.cells co 53)).alloc (.cells ca 53)) (.cells cb 53)
    simpa using this
  · have := heap_alloc_new (((w.alloc (.cells co 53)).alloc (.cells ca 53)).alloc (.cells cb 53)) (.cells #[.int .i64 0, .int .i64 0, .int .i64 0, .string ⟨#[]⟩, .slice none 0 0] 53)
    simpa using this

set_option maxRecDepth 100000 in
set_option maxHeartbeats 16000000 in
theorem mergeValues_any (o a b : V) (go ga gb : Value) (w : World) (ho : VAt w w.heap.size o go) (ha : VAt w w.heap.size a ga) (hb : VAt w w.heap.size b gb) (Ro : Right o) (Ra : Right a) (Rb : Right b) :
    Calls Tryd.prog 42 #[go, ga, gb] w (MergeTo w (mergeT o a b)) := by
  have HC1 := Lib.hid (fun W (hW : Below w.heap.size w W) => compareP_any a o ga go W (ha.later hW) (ho.later hW) (by have := Ra.nodes; omega))
  have HC2 := Lib.hid (fun W (hW : Below w.heap.size w W) => compareP_any b o gb go W (hb.later hW) (ho.later hW) (by have := Rb.nodes; omega))
  have HC3 := Lib.hid (fun W (hW : Below w.heap.size w W) => compareP_any a b ga gb W (ha.later hW) (hb.later hW) (by have := Ra.nodes; omega))
  have HE : Hid (mergeT o a b = if sameT a o = true then (b, true) else if (sameT b o || sameT a b) = true then (a, true)
    else if (listB o.kind && listB a.kind && listB b.kind) = true ∧ (itemsM o.kids a.kids b.kids).length ≤ 20 then (.mk 7 0 0 ⟨#[]⟩ (itemsM o.kids a.kids b.kids), true)
    else if a.kind = 0 then (b, false) else (a, false)) := Lib.hid rfl
  have S1 : Hid (sameT a o = decide (cmpT a o = 0)) := Lib.hid rfl
  have S2 : Hid (sameT b o = decide (cmpT b o = 0)) := Lib.hid rfl
  have S3 : Hid (sameT a b = decide (cmpT a b = 0)) := Lib.hid rfl
  have HA := Lib.hid ha
  have HB := Lib.hid hb
  generalize hmt : mergeT o a b = mt at HE ⊢
  generalize cmpT a o = r1 at HC1 S1
  generalize cmpT b o = r2 at HC2 S2
  generalize cmpT a b = r3 at HC3 S3
  obtain ⟨ko, io, to1, so, lo, Ao, co, rfl, rfl, hzo, hso⟩ := ho.hand
  obtain ⟨ka, ia, ta1, sa, la, Aa, ca, rfl, rfl, hza, hsa⟩ := ha.hand
  obtain ⟨kb, ib, tb1, sb, lb, Ab, cb, rfl, rfl, hzb, hsb⟩ := hb.hand
  have LO : lo.length ≤ 20 := Ro.few
  have LA : la.length ≤ 20 := Ra.few
  have LB : lb.length ≤ 20 := Rb.few
  have HIT := Lib.hid (fun W (hW : Below w.heap.size w W) => mergeItems_any lo la lb Ao Aa Ab co ca cb w.heap.size W hW.size (hso.below hW (Nat.le_refl _)) (hsa.below hW (Nat.le_refl _)) (hsb.below hW (Nat.le_refl _)) LO LA LB (fun v hv => by have := Ro.leaf v hv; omega) (fun v hv => by have := Ra.leaf v hv; omega) (fun v hv => by have := Rb.leaf v hv; omega))
  have HE2 : Hid (mt = if sameT (.mk ka ia ta1 sa la) (.mk ko io to1 so lo) = true then ((.mk kb ib tb1 sb lb : V), true) else if (sameT (.mk kb ib tb1 sb lb) (.mk ko io to1 so lo) || sameT (.mk ka ia ta1 sa la) (.mk kb ib tb1 sb lb)) = true then (.mk ka ia ta1 sa la, true)
    else if (listB ko && listB ka && listB kb) = true ∧ (itemsM lo la lb).length ≤ 20 then (.mk 7 0 0 ⟨#[]⟩ (itemsM lo la lb), true)
    else if ka = 0 then (.mk kb ib tb1 sb lb, false) else (.mk ka ia ta1 sa la, false)) := HE
  rw [S1.out, S2.out, S3.out] at HE2
  have HIL : (itemsM lo la lb).length ≤ 60 := by
    unfold itemsM
    have h1 := addL_len (fun x => hasT la x && hasT lb x) lo []
    have h2 := addL_len (fun x => !hasT lo x) la (addL [] (fun x => hasT la x && hasT lb x) lo)
    have h3 := addL_len (fun x => !hasT lo x && !hasT la x) lb (addL (addL [] (fun x => hasT la x && hasT lb x) lo) (fun x => !hasT lo x) la)
    simp at h1
    omega
  generalize itemsM lo la lb = its at HIT HE2 HIL
  have HV0 := Lib.hid hmt
  generalize lo.length = no at HC1 HC2 HIT ⊢
  generalize la.length = na at HC1 HC3 HIT HA ⊢
  generalize lb.length = nb at HC2 HC3 HIT HB ⊢
  clear ho ha hb Ro Ra Rb HE S1 S2 S3 hmt hso hsa hsb LO LA LB HV0
  have HML := Lib.hid (fun (k i t : Int) (s : ByteArray) (g : Value) (W : World) => mayBeList_any k i t s g W)
  have HM0 := Lib.hid (mv_start w #[.int .i64 ko, .int .i64 io, .int .i64 to1, .string so, .slice Ao no co] #[.int .i64 ka, .int .i64 ia, .int .i64 ta1, .string sa, .slice Aa na ca] #[.int .i64 kb, .int .i64 ib, .int .i64 tb1, .string sb, .slice Ab nb cb])
  go_enter Tryd.func42, Tryd.ntmps42
  go_wp2_with fail
  refine (HC1.out _ HM0.out.bel).mono ?_
  rintro e1 w1 ⟨rfl, hb1⟩
  have HM1 := Lib.hid (HM0.out.later hb1)
  clear hb1
  by_cases h1 : r1 = 0
  · subst h1
    obtain ⟨x0, x1, x2, x3, x4⟩ := five_cells HM1.out.b
    obtain ⟨r0, r1, r2, r3, r4⟩ := five_cells HM1.out.r
    obtain ⟨f0, f1, f2, f3, f4⟩ := five_frozen HM1.out.r
    go_wp2_with fail
    (try simp only [Exit.inBlock, Exit.then])
    refine bodyPost_ret (v := .tuple #[.agg #[.int .i64 kb, .int .i64 ib, .int .i64 tb1, .string sb, .slice Ab nb cb], .bool true]) ?_ rfl ?_
    · simp [results, Tryd.f42]
      go_simp
    · have e : mt = (.mk kb ib tb1 sb lb, true) := by have := HE2.out; simpa using this
      rw [e]
      exact merge_done (by omega) HM1.out.bel (fun F h1 h2 => arg_later HB.out HM1.out.bel (by omega) h1 h2)
  · have p1 : ¬ r1 = 0 := h1
    obtain ⟨x0, x1, x2, x3, x4⟩ := five_cells HM1.out.b
    obtain ⟨y0, y1, y2, y3, y4⟩ := five_cells HM1.out.o
    go_wp2_with fail
    refine (HC2.out _ HM1.out.bel).mono ?_
    rintro e2 w2 ⟨rfl, hb2⟩
    have HM2 := Lib.hid (HM1.out.later hb2)
    clear hb2 x0 x1 x2 x3 x4 y0 y1 y2 y3 y4
    by_cases h2 : r2 = 0
    · subst h2
      obtain ⟨x0, x1, x2, x3, x4⟩ := five_cells HM2.out.a
      obtain ⟨r0, r1, r2, r3, r4⟩ := five_cells HM2.out.r
      obtain ⟨f0, f1, f2, f3, f4⟩ := five_frozen HM2.out.r
      go_wp2_with fail
      (try simp only [Exit.inBlock, Exit.then])
      refine bodyPost_ret (v := .tuple #[.agg #[.int .i64 ka, .int .i64 ia, .int .i64 ta1, .string sa, .slice Aa na ca], .bool true]) ?_ rfl ?_
      · simp [results, Tryd.f42]
        go_simp
      · have e : mt = (.mk ka ia ta1 sa la, true) := by have := HE2.out; simpa [h1] using this
        rw [e]
        exact merge_done (by omega) HM2.out.bel (fun F h1 h2 => arg_later HA.out HM2.out.bel (by omega) h1 h2)
    · have q2 : (r2 == 0) = false := by simp [h2]
      obtain ⟨x0, x1, x2, x3, x4⟩ := five_cells HM2.out.a
      obtain ⟨y0, y1, y2, y3, y4⟩ := five_cells HM2.out.b
      go_wp2_with fail
      refine (HC3.out _ HM2.out.bel).mono ?_
      rintro e3 w3 ⟨rfl, hb3⟩
      have HM3 := Lib.hid (HM2.out.later hb3)
      clear hb3 x0 x1 x2 x3 x4 y0 y1 y2 y3 y4
      by_cases h3 : r3 = 0
      · subst h3
        obtain ⟨x0, x1, x2, x3, x4⟩ := five_cells HM3.out.a
        obtain ⟨r0, r1, r2, r3, r4⟩ := five_cells HM3.out.r
        obtain ⟨f0, f1, f2, f3, f4⟩ := five_frozen HM3.out.r
        go_wp2_with fail
        (try simp only [Exit.inBlock, Exit.then])
        refine bodyPost_ret (v := .tuple #[.agg #[.int .i64 ka, .int .i64 ia, .int .i64 ta1, .string sa, .slice Aa na ca], .bool true]) ?_ rfl ?_
        · simp [results, Tryd.f42]
          go_simp
        · have e : mt = (.mk ka ia ta1 sa la, true) := by have := HE2.out; simpa [h1, h2] using this
          rw [e]
          exact merge_done (by omega) HM3.out.bel (fun F h1 h2 => arg_later HA.out HM3.out.bel (by omega) h1 h2)
      · have q3 : (r3 == 0) = false := by simp [h3]
        obtain ⟨x0, x1, x2, x3, x4⟩ := five_cells HM3.out.o
        go_wp2_with fail
        refine (HML.out ko io to1 so _ _).mono ?_
        rintro e4 w4 ⟨rfl, hb4⟩
        have HM4 := Lib.hid (HM3.out.later hb4)
        clear hb4 x0 x1 x2 x3 x4
        rcases ho7 : listB ko with _ | _
        · have q1 : True := trivial
          by_cases hk0 : ka = 0
          · subst hk0
            obtain ⟨y0, y1, y2, y3, y4⟩ := five_cells HM4.out.a
            obtain ⟨x0, x1, x2, x3, x4⟩ := five_cells HM4.out.b
            obtain ⟨r0, r1, r2, r3, r4⟩ := five_cells HM4.out.r
            obtain ⟨f0, f1, f2, f3, f4⟩ := five_frozen HM4.out.r
            go_wp2_with fail
            (try simp only [Exit.inBlock, Exit.then])
            refine bodyPost_ret (v := .tuple #[.agg #[.int .i64 kb, .int .i64 ib, .int .i64 tb1, .string sb, .slice Ab nb cb], .bool false]) ?_ rfl ?_
            · simp [results, Tryd.f42]
              go_simp
            · have e : mt = (.mk kb ib tb1 sb lb, false) := by have := HE2.out; simpa [h1, h2, h3, ho7] using this
              rw [e]
              exact merge_done (by omega) HM4.out.bel (fun F h1 h2 => arg_later HB.out HM4.out.bel (by omega) h1 h2)
          · obtain ⟨y0, y1, y2, y3, y4⟩ := five_cells HM4.out.a
            obtain ⟨x0, x1, x2, x3, x4⟩ := five_cells HM4.out.a
            obtain ⟨r0, r1, r2, r3, r4⟩ := five_cells HM4.out.r
            obtain ⟨f0, f1, f2, f3, f4⟩ := five_frozen HM4.out.r
            go_wp2_with fail
            (try simp only [Exit.inBlock, Exit.then])
            refine bodyPost_ret (v := .tuple #[.agg #[.int .i64 ka, .int .i64 ia, .int .i64 ta1, .string sa, .slice Aa na ca], .bool false]) ?_ rfl ?_
            · simp [results, Tryd.f42]
              go_simp
            · have e : mt = (.mk ka ia ta1 sa la, false) := by have := HE2.out; simpa [h1, h2, h3, ho7, hk0] using this
              rw [e]
              exact merge_done (by omega) HM4.out.bel (fun F h1 h2 => arg_later HA.out HM4.out.bel (by omega) h1 h2)
        · obtain ⟨x0, x1, x2, x3, x4⟩ := five_cells HM4.out.a
          go_wp2_with fail
          refine (HML.out ka ia ta1 sa _ _).mono ?_
          rintro e5 w5 ⟨rfl, hb5⟩
          have HM5 := Lib.hid (HM4.out.later hb5)
          clear hb5 x0 x1 x2 x3 x4
          rcases ha7 : listB ka with _ | _
          · have q1 : True := trivial
            by_cases hk0 : ka = 0
            · subst hk0
              obtain ⟨y0, y1, y2, y3, y4⟩ := five_cells HM5.out.a
              obtain ⟨x0, x1, x2, x3, x4⟩ := five_cells HM5.out.b
              obtain ⟨r0, r1, r2, r3, r4⟩ := five_cells HM5.out.r
              obtain ⟨f0, f1, f2, f3, f4⟩ := five_frozen HM5.out.r
              go_wp2_with fail
              (try simp only [Exit.inBlock, Exit.then])
              refine bodyPost_ret (v := .tuple #[.agg #[.int .i64 kb, .int .i64 ib, .int .i64 tb1, .string sb, .slice Ab nb cb], .bool false]) ?_ rfl ?_
              · simp [results, Tryd.f42]
                go_simp
              · have e : mt = (.mk kb ib tb1 sb lb, false) := by have := HE2.out; simpa [h1, h2, h3, ho7, ha7] using this
                rw [e]
                exact merge_done (by omega) HM5.out.bel (fun F h1 h2 => arg_later HB.out HM5.out.bel (by omega) h1 h2)
            · obtain ⟨y0, y1, y2, y3, y4⟩ := five_cells HM5.out.a
              obtain ⟨x0, x1, x2, x3, x4⟩ := five_cells HM5.out.a
              obtain ⟨r0, r1, r2, r3, r4⟩ := five_cells HM5.out.r
              obtain ⟨f0, f1, f2, f3, f4⟩ := five_frozen HM5.out.r
              go_wp2_with fail
              (try simp only [Exit.inBlock, Exit.then])
              refine bodyPost_ret (v := .tuple #[.agg #[.int .i64 ka, .int .i64 ia, .int .i64 ta1, .string sa, .slice Aa na ca], .bool false]) ?_ rfl ?_
              · simp [results, Tryd.f42]
                go_simp
              · have e : mt = (.mk ka ia ta1 sa la, false) := by have := HE2.out; simpa [h1, h2, h3, ho7, ha7, hk0] using this
                rw [e]
                exact merge_done (by omega) HM5.out.bel (fun F h1 h2 => arg_later HA.out HM5.out.bel (by omega) h1 h2)
          · obtain ⟨x0, x1, x2, x3, x4⟩ := five_cells HM5.out.b
            go_wp2_with fail
            refine (HML.out kb ib tb1 sb _ _).mono ?_
            rintro e6 w6 ⟨rfl, hb6⟩
            have HM6 := Lib.hid (HM5.out.later hb6)
            clear hb6 x0 x1 x2 x3 x4
            rcases hb7 : listB kb with _ | _
            · have q1 : True := trivial
              by_cases hk0 : ka = 0
              · subst hk0
                obtain ⟨y0, y1, y2, y3, y4⟩ := five_cells HM6.out.a
                obtain ⟨x0, x1, x2, x3, x4⟩ := five_cells HM6.out.b
                obtain ⟨r0, r1, r2, r3, r4⟩ := five_cells HM6.out.r
                obtain ⟨f0, f1, f2, f3, f4⟩ := five_frozen HM6.out.r
                go_wp2_with fail
                (try simp only [Exit.inBlock, Exit.then])
                refine bodyPost_ret (v := .tuple #[.agg #[.int .i64 kb, .int .i64 ib, .int .i64 tb1, .string sb, .slice Ab nb cb], .bool false]) ?_ rfl ?_
                · simp [results, Tryd.f42]
                  go_simp
                · have e : mt = (.mk kb ib tb1 sb lb, false) := by have := HE2.out; simpa [h1, h2, h3, ho7, ha7, hb7] using this
                  rw [e]
                  exact merge_done (by omega) HM6.out.bel (fun F h1 h2 => arg_later HB.out HM6.out.bel (by omega) h1 h2)
              · obtain ⟨y0, y1, y2, y3, y4⟩ := five_cells HM6.out.a
                obtain ⟨x0, x1, x2, x3, x4⟩ := five_cells HM6.out.a
                obtain ⟨r0, r1, r2, r3, r4⟩ := five_cells HM6.out.r
                obtain ⟨f0, f1, f2, f3, f4⟩ := five_frozen HM6.out.r
                go_wp2_with fail
                (try simp only [Exit.inBlock, Exit.then])
                refine bodyPost_ret (v := .tuple #[.agg #[.int .i64 ka, .int .i64 ia, .int .i64 ta1, .string sa, .slice Aa na ca], .bool false]) ?_ rfl ?_
                · simp [results, Tryd.f42]
                  go_simp
                · have e : mt = (.mk ka ia ta1 sa la, false) := by have := HE2.out; simpa [h1, h2, h3, ho7, ha7, hb7, hk0] using this
                  rw [e]
                  exact merge_done (by omega) HM6.out.bel (fun F h1 h2 => arg_later HA.out HM6.out.bel (by omega) h1 h2)
            · obtain ⟨x0, x1, x2, x3, x4⟩ := five_cells HM6.out.o
              obtain ⟨y0, y1, y2, y3, y4⟩ := five_cells HM6.out.a
              obtain ⟨z0, z1, z2, z3, z4⟩ := five_cells HM6.out.b
              go_wp2_with fail
              refine (HIT.out w6 HM6.out.bel).mono ?_
              rintro e7 w7 ⟨Ai, ci, rfl, hsi, hb7'⟩
              have HM7 := Lib.hid (HM6.out.later hb7')
              have HSI := Lib.hid hsi
              have hlt6 := lt_of_blk' HM6.out.r
              obtain ⟨ni, hni⟩ : ∃ ni, ni = its.length := ⟨_, rfl⟩
              rw [← hni] at HSI HIL ⊢
              have HNI := Lib.hid hni
              clear hsi hb7' hni x0 x1 x2 x3 x4 y0 y1 y2 y3 y4 z0 z1 z2 z3 z4
              by_cases hfew : ni ≤ 20
              · have p2 : (ni : Int) ≤ 20 := by omega
                obtain ⟨r0, r1, r2, r3, r4⟩ := five_cells HM7.out.r
                obtain ⟨f0, f1, f2, f3, f4⟩ := five_frozen HM7.out.r
                go_wp2_with fail
                (try simp only [Exit.inBlock, Exit.then])
                refine bodyPost_ret (v := .tuple #[.agg #[.int .i64 7, .int .i64 0, .int .i64 0, .string ⟨#[]⟩, .slice Ai ni ci], .bool true]) ?_ rfl ?_
                · simp [results, Tryd.f42]
                  go_simp
                · have e : mt = (.mk 7 0 0 ⟨#[]⟩ its, true) := by
                    have := HE2.out
                    have hl : its.length ≤ 20 := by rw [← HNI.out]; exact hfew
                    simpa [h1, h2, h3, ho7, ha7, hb7, hl] using this
                  rw [e]
                  refine merge_done (by omega) HM7.out.bel (fun F g1 g2 => ⟨by decide, _, rfl, ?_⟩)
                  have := (HSI.out.keep (w' := F) (G := fun k => k < F.heap.size) (fun j hj => g1 j (by omega)) (fun j hj => by omega)).toAt (B := F.heap.size) (fun _ h => h)
                  exact this
              · have p2 : ¬ (ni : Int) ≤ 20 := by omega
                have hl : ¬ its.length ≤ 20 := by rw [← HNI.out]; exact hfew
                by_cases hk0 : ka = 0
                · subst hk0
                  obtain ⟨y0, y1, y2, y3, y4⟩ := five_cells HM7.out.a
                  obtain ⟨x0, x1, x2, x3, x4⟩ := five_cells HM7.out.b
                  obtain ⟨r0, r1, r2, r3, r4⟩ := five_cells HM7.out.r
                  obtain ⟨f0, f1, f2, f3, f4⟩ := five_frozen HM7.out.r
                  go_wp2_with fail
                  (try simp only [Exit.inBlock, Exit.then])
                  refine bodyPost_ret (v := .tuple #[.agg #[.int .i64 kb, .int .i64 ib, .int .i64 tb1, .string sb, .slice Ab nb cb], .bool false]) ?_ rfl ?_
                  · simp [results, Tryd.f42]
                    go_simp
                  · have e : mt = (.mk kb ib tb1 sb lb, false) := by have := HE2.out; simpa [h1, h2, h3, ho7, ha7, hb7, hl] using this
                    rw [e]
                    exact merge_done (by omega) HM7.out.bel (fun F h1 h2 => arg_later HB.out HM7.out.bel (by omega) h1 h2)
                · obtain ⟨y0, y1, y2, y3, y4⟩ := five_cells HM7.out.a
                  obtain ⟨x0, x1, x2, x3, x4⟩ := five_cells HM7.out.a
                  obtain ⟨r0, r1, r2, r3, r4⟩ := five_cells HM7.out.r
                  obtain ⟨f0, f1, f2, f3, f4⟩ := five_frozen HM7.out.r
                  go_wp2_with fail
                  (try simp only [Exit.inBlock, Exit.then])
                  refine bodyPost_ret (v := .tuple #[.agg #[.int .i64 ka, .int .i64 ia, .int .i64 ta1, .string sa, .slice Aa na ca], .bool false]) ?_ rfl ?_
                  · simp [results, Tryd.f42]
                    go_simp
                  · have e : mt = (.mk ka ia ta1 sa la, false) := by have := HE2.out; simpa [h1, h2, h3, ho7, ha7, hb7, hl, hk0] using this
                    rw [e]
                    exact merge_done (by omega) HM7.out.bel (fun F h1 h2 => arg_later HA.out HM7.out.bel (by omega) h1 h2)
end Go.Proofs.YtfpiannnggkdiaaDoor
