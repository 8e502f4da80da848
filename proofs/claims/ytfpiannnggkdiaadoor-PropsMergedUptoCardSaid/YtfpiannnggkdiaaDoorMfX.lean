/- The program's Get, and where its value lies; what both Gets give. (Made by gen_mgr.py.) Merge: what both sides come to; two lists of one's own side by side. Merge: names and values of right lists. The program's Merge. The program's Merge: the walk. -/
import Derived.Test.YtfpiannnggkdiaaDoorMeX
import Derived.Test.YtfpiannnggkdiaaDoorPeX
namespace Go.Proofs.YtfpiannnggkdiaaDoor
open Go.RowKit Go.Shelf

theorem prop_itemB {w : World} {B : Nat} {l : List PV} {A : Option Addr} {c j : Nat} (h : PSl w B l (.slice A l.length c)) (hj : j < l.length) :
    ∃ b off nm kx ix tx sx lx Ax cx, A = some ⟨b, off, none⟩ ∧ l[j] = ⟨nm, .mk kx ix tx sx lx⟩ ∧ b < B ∧ w.cell? ⟨b, off + j * 6, none⟩ = some (.string nm) ∧ w.cell? ⟨b, off + j * 6 + 1, none⟩ = some (.int .i64 kx) ∧ w.cell? ⟨b, off + j * 6 + 2, none⟩ = some (.int .i64 ix) ∧ w.cell? ⟨b, off + j * 6 + 3, none⟩ = some (.int .i64 tx) ∧
      w.cell? ⟨b, off + j * 6 + 4, none⟩ = some (.string sx) ∧ w.cell? ⟨b, off + j * 6 + 5, none⟩ = some (.slice Ax lx.length cx) ∧ nm.size ≤ 1048576 ∧ sx.size ≤ 1048576 ∧ lx.length ≤ 1048576 ∧ SlAt w B lx (.slice Ax lx.length cx) ∧
      ∀ jp, j = jp + 1 → ∃ q, prevOf l j = some q ∧ w.cell? ⟨b, off + jp * 6, none⟩ = some (.string q) := by
  obtain ⟨A', c', e, h1, h2, h3⟩ := h
  injection e with e1 e2 e3
  subst e1
  rcases h3 with h3 | ⟨b, off, rfl, h3⟩
  · rw [h3] at hj; exact absurd hj (by simp)
  · obtain ⟨g0, gn, gz, hc⟩ := PRow.get l b off j h3 hj
    obtain ⟨nm, kx, ix, tx, sx, lx, hx⟩ : ∃ nm kx ix tx sx lx, l[j] = ⟨nm, .mk kx ix tx sx lx⟩ := by
      generalize l[j] = p
      rcases p with ⟨nm, ⟨kx, ix, tx, sx, lx⟩⟩
      exact ⟨nm, kx, ix, tx, sx, lx, rfl⟩
    rw [hx] at gn gz hc
    unfold CellsAt at hc
    obtain ⟨_, q1, q2, q3, q4, qz, Ax, cx, q5, q6, q7, q8⟩ := hc
    refine ⟨b, off, nm, kx, ix, tx, sx, lx, Ax, cx, rfl, hx, g0, gn, q1, q2, q3, q4, q5, gz, qz, q6, ⟨Ax, cx, rfl, q6, q7, q8⟩, ?_⟩
    intro jp hjp
    subst hjp
    have hjl : jp < l.length := by omega
    refine ⟨l[jp].nm, ?_, (PRow.get l b off jp h3 hjl).2.1⟩
    show (l[jp]?).map (·.nm) = _
    rw [List.getElem?_eq_getElem hjl]; rfl
def GotF (B : Nat) (l : List PV) (q : ByteArray) (w : World) (e : Ending) (w' : World) : Prop :=
  ((∃ (j : Nat) (hj : j < l.length) (g : Value), (l[j].nm.toList == q.toList) = true ∧ (∀ k (hk : k < l.length), k < j → (l[k].nm.toList == q.toList) = false) ∧ VF w' (fun k => (k < B ∨ w.heap.size ≤ k) ∧ k < w'.heap.size) l[j].val g ∧ e = .returned (.tuple #[g, .bool true])) ∨
    ((∀ k (hk : k < l.length), (l[k].nm.toList == q.toList) = false) ∧ e = .returned (.tuple #[.agg #[.int .i64 0, .int .i64 0, .int .i64 0, .string ⟨#[]⟩, .slice none 0 0], .bool false]))) ∧ Below w.heap.size w w'
set_option maxRecDepth 100000 in
set_option maxHeartbeats 8000000 in
theorem propGetF_any (B : Nat) (l : List PV) (q : ByteArray) (A : Option Addr) (c : Nat) (w : World) (hB : B ≤ w.heap.size) (hl : PSl w B l (.slice A l.length c)) (hN : ∀ p ∈ l, nodesV p.val ≤ 1048576) :
    Calls Tryd.prog 41 #[.slice A l.length c, .string q] w (GotF B l q w) := by
  have hn : l.length ≤ 1048576 := by obtain ⟨_, _, e, h1, _⟩ := hl; exact h1
  have HSL := Lib.hid hl
  have HNO := Lib.hid hN
  obtain ⟨n, hnn⟩ : ∃ n, n = l.length := ⟨_, rfl⟩
  rw [← hnn] at hn HSL
  rw [show (Value.slice A l.length c) = Value.slice A n c from by rw [hnn]]
  have HN := Lib.hid hnn
  clear hl hnn hN
  go_enter Tryd.func41, Tryd.ntmps41
  go_wp2_with fail
  go_loopw [10] (fun iv wx => ∃ j : Nat, iv = .int .i64 j ∧ j ≤ n ∧ Hid (GpRow l q w j wx)) (fun iv _ => n - (intOf iv).toNat)
  case atStart => exact ⟨0, rfl, Nat.zero_le _, Lib.hid ⟨(Below.refl _ _).alloc (Nat.le_refl _) _, heap_alloc_new w _, fun _ _ h => absurd h (by omega)⟩⟩
  case round =>
    obtain ⟨j, rfl, hjl, HR⟩ := hrel
    by_cases hj : j < n
    · have hj2 : j < l.length := by rw [← HN.out]; exact hj
      have p2 : (j : Int) < n := by omega
      obtain ⟨b, off, nm, kx, ix, tx, sx, lx, Ax, cx, rfl, hx, hlt, gn, g0, g1, g2, g3, g4, hnz, gz, gl, gs, hpv⟩ := prop_itemB (by rw [← HN.out]; exact HSL.out) hj2
      replace hlt : b < w.heap.size := Nat.lt_of_lt_of_le hlt hB
      replace gn := (HR.out.bel.cell (p := ⟨b, off + j * 6, none⟩) hlt).trans gn
      replace g0 := (HR.out.bel.cell (p := ⟨b, off + j * 6 + 1, none⟩) hlt).trans g0
      replace g1 := (HR.out.bel.cell (p := ⟨b, off + j * 6 + 2, none⟩) hlt).trans g1
      replace g2 := (HR.out.bel.cell (p := ⟨b, off + j * 6 + 3, none⟩) hlt).trans g2
      replace g3 := (HR.out.bel.cell (p := ⟨b, off + j * 6 + 4, none⟩) hlt).trans g3
      replace g4 := (HR.out.bel.cell (p := ⟨b, off + j * 6 + 5, none⟩) hlt).trans g4
      have hnx : l[j].nm = nm := by rw [hx]
      have hno := HNO.out l[j] (List.getElem_mem hj2)
      rw [hx] at hno
      have hno' : nodesL lx ≤ 1048576 := by rw [show nodesV (PV.val ⟨nm, .mk kx ix tx sx lx⟩) = 1 + nodesL lx from nodesV_mk _ _ _ _ _] at hno; omega
      have HCO := Lib.hid (fun W (hW : Below w.heap.size w W) => copyOf_any kx ix tx sx lx Ax cx B W (Nat.le_trans hB hW.size) gz (gs.below hW hB) hno')
      have HV : Hid (∀ (W : World) (G : Nat → Prop) A' c', SlF W G lx (.slice A' lx.length c') → VF W G l[j].val (.agg #[.int .i64 kx, .int .i64 ix, .int .i64 tx, .string sx, .slice A' lx.length c'])) := Lib.hid (fun W G A' c' h => by rw [hx]; exact ⟨gz, _, rfl, h⟩)
      have HNX := Lib.hid hnx
      have hszw := HR.out.bel.size
      have hszl := lt_of_blkC HR.out.blk
      obtain ⟨m, hm⟩ : ∃ m, m = lx.length := ⟨_, rfl⟩
      rw [← hm] at g4 HCO HV
      have HM := Lib.hid hm
      clear gs hm hx hpv hnx gl gz hno hno'
      rcases he : (nm.toList == q.toList) with _ | _
      · have HNOX : Hid (∀ k (hk : k < l.length), k < j + 1 → (l[k].nm.toList == q.toList) = false) := Lib.hid (by
          intro k hk hk2
          by_cases hkj : k < j
          · exact HR.out.no k hk hkj
          · obtain rfl : k = j := by omega
            rw [HNX.out]; exact he)
        go_wp2_with fail
        go_roundw
        case rel => exact ⟨j + 1, by go_num, hj, Lib.hid ⟨HR.out.bel.alloc hszw _, ((Below.refl _ _).alloc (Nat.le_refl _) _).block _ hszl |>.trans HR.out.blk, HNOX.out⟩⟩
        case measure => simp [intOf]; omega
      · have HNOY := Lib.hid HR.out.no
        have HBL := Lib.hid HR.out.bel
        have HBK := Lib.hid HR.out.blk
        go_wp2_with fail
        refine (HCO.out _ (HBL.out.alloc hszw _)).mono ?_
        rintro e3 w3 ⟨A', c', rfl, hs3, hb3⟩
        have HB3 := Lib.hid ((HBL.out.alloc hszw _).trans (hb3.mono (by simp; omega)))
        have hblk3 : w3.heap[w.heap.size]? = some resBox := by
          rw [hb3.block _ (by simp; omega), Below.heap_alloc _ _ _ hszl]
          exact HBK.out
        unfold resBox at hblk3
        have r0 := cell_of_row w3 w.heap.size 0 _ _ (0, 0) hblk3
        have r1 := cell_of_row w3 w.heap.size 1 _ _ (0, 0) hblk3
        have r2 := cell_of_row w3 w.heap.size 2 _ _ (0, 0) hblk3
        have r3 := cell_of_row w3 w.heap.size 3 _ _ (0, 0) hblk3
        have r4 := cell_of_row w3 w.heap.size 4 _ _ (0, 0) hblk3
        have f0 := frozen_of_row w3 w.heap.size 0 _ _ hblk3
        have f1 := frozen_of_row w3 w.heap.size 1 _ _ hblk3
        have f2 := frozen_of_row w3 w.heap.size 2 _ _ hblk3
        have f3 := frozen_of_row w3 w.heap.size 3 _ _ hblk3
        have f4 := frozen_of_row w3 w.heap.size 4 _ _ hblk3
        have HS3 : Hid (∀ wf : World, (∀ b, b ≠ w.heap.size → wf.heap[b]? = w3.heap[b]?) → wf.heap.size = w3.heap.size → SlF wf (fun k => (k < B ∨ w.heap.size ≤ k) ∧ k < wf.heap.size) lx (.slice A' m c')) := Lib.hid (fun wf hk hs => by
          exact hs3.keep (w' := wf) (G := fun k => (k < B ∨ w.heap.size ≤ k) ∧ k < wf.heap.size) (fun b hb => hk b (fun e => by rcases hb.1 with h | h; omega; simp at h; omega)) (fun b hb => ⟨by rcases hb.1 with h | h; exact .inl h; exact .inr (by simp at h; omega), by rw [hs]; exact hb.2⟩))
        clear hb3 hblk3 hs3
        go_wp2_with fail
        (try simp only [Exit.inBlock, Exit.then])
        refine bodyPost_ret (v := .tuple #[.agg #[.int .i64 kx, .int .i64 ix, .int .i64 tx, .string sx, .slice A' m c'], .bool true]) ?_ rfl ?_
        · simp [results, Tryd.f41]
          go_simp
        · refine ⟨.inl ⟨j, hj2, _, by rw [HNX.out]; exact he, HNOY.out, HV.out _ _ _ _ (HS3.out _ (fun b hb => by simp [World.setCell, Array.getElem?_modify, Ne.symm hb]) (by simp [World.setCell])), rfl⟩, ?_⟩
          exact (((((HB3.out.setCell (Nat.le_refl _) _).setCell (Nat.le_refl _) _).setCell (Nat.le_refl _) _).setCell (Nat.le_refl _) _).setCell (Nat.le_refl _) _)
    · have p2 : ¬ (j : Int) < n := by omega
      have hb := HR.out.blk
      unfold resBox at hb
      have r0 := cell_of_row wr w.heap.size 0 _ _ (0, 0) hb
      have r1 := cell_of_row wr w.heap.size 1 _ _ (0, 0) hb
      have r2 := cell_of_row wr w.heap.size 2 _ _ (0, 0) hb
      have r3 := cell_of_row wr w.heap.size 3 _ _ (0, 0) hb
      have r4 := cell_of_row wr w.heap.size 4 _ _ (0, 0) hb
      have f0 := frozen_of_row wr w.heap.size 0 _ _ hb
      have f1 := frozen_of_row wr w.heap.size 1 _ _ hb
      have f2 := frozen_of_row wr w.heap.size 2 _ _ hb
      have f3 := frozen_of_row wr w.heap.size 3 _ _ hb
      have f4 := frozen_of_row wr w.heap.size 4 _ _ hb
      have HB := Lib.hid HR.out.bel
      have HNO2 := Lib.hid HR.out.no
      clear hb
      go_wp2_with fail
      (try simp only [Exit.inBlock, Exit.then])
      refine bodyPost_ret (v := .tuple #[.agg #[.int .i64 0, .int .i64 0, .int .i64 0, .string ⟨#[]⟩, .slice none 0 0], .bool false]) ?_ rfl ?_
      · simp [results, Tryd.f41]
        go_simp
      · refine ⟨.inr ⟨fun k hk => by have h := HNO2.out k hk (by rw [← HN.out] at hk; omega); simpa using h, rfl⟩, ?_⟩
        exact (((((HB.out.setCell (Nat.le_refl _) _).setCell (Nat.le_refl _) _).setCell (Nat.le_refl _) _).setCell (Nat.le_refl _) _).setCell (Nat.le_refl _) _)
/-- The value of a name, or none's. -/
def valOf (l : List PV) (q : ByteArray) : V := (getV l q).getD (.mk 0 0 0 ⟨#[]⟩ [])
def ValF (B : Nat) (v : V) (w : World) (e : Ending) (w' : World) : Prop :=
  ∃ g bl, e = .returned (.tuple #[g, .bool bl]) ∧ VF w' (fun k => (k < B ∨ w.heap.size ≤ k) ∧ k < w'.heap.size) v g ∧ Below w.heap.size w w'
theorem zeroVF (w : World) (F : Nat → Prop) : VF w F (.mk 0 0 0 ⟨#[]⟩ []) (.agg #[.int .i64 0, .int .i64 0, .int .i64 0, .string ⟨#[]⟩, .slice none 0 0]) :=
  ⟨by decide, _, rfl, none, 0, rfl, by simp, by simp, .inl rfl⟩
theorem gotF_val {B : Nat} {l : List PV} {q : ByteArray} {w w' : World} {e : Ending} (h : GotF B l q w e w') : ValF B (valOf l q) w e w' := by
  obtain ⟨h, hb⟩ := h
  rcases h with ⟨j, hj, g, hy, hno, hv, rfl⟩ | ⟨hno, rfl⟩
  · refine ⟨g, true, rfl, ?_, hb⟩
    unfold valOf
    rw [getV_at hj hy hno]
    exact hv
  · refine ⟨_, false, rfl, ?_, hb⟩
    unfold valOf
    rw [getV_none hno]
    exact zeroVF _ _
/-- The reference's GetOf, so. -/
theorem getOf_val {l : List PV} {q : ByteArray} {w w' : World} {e : Ending}
    (h : ((∃ (j : Nat) (hj : j < l.length) (g : Value), (l[j].nm.toList == q.toList) = true ∧ (∀ k (hk : k < l.length), k < j → (l[k].nm.toList == q.toList) = false) ∧ VAt w w.heap.size l[j].val g ∧ e = .returned (.tuple #[g, .bool true])) ∨
        ((∀ k (hk : k < l.length), (l[k].nm.toList == q.toList) = false) ∧ e = .returned (.tuple #[.agg #[.int .i64 0, .int .i64 0, .int .i64 0, .string ⟨#[]⟩, .slice none 0 0], .bool false]))) ∧ Below w.heap.size w w') :
    ∃ g bl, e = .returned (.tuple #[g, .bool bl]) ∧ VAt w' w'.heap.size (valOf l q) g ∧ Below w.heap.size w w' := by
  obtain ⟨h, hb⟩ := h
  rcases h with ⟨j, hj, g, hy, hno, hv, rfl⟩ | ⟨hno, rfl⟩
  · refine ⟨g, true, rfl, ?_, hb⟩
    unfold valOf
    rw [getV_at hj hy hno]
    exact hv.later hb
  · refine ⟨_, false, rfl, ?_, hb⟩
    unfold valOf
    rw [getV_none hno]
    exact (zeroVF _ (fun _ => False)).at (fun _ h => h.elim)
end Go.Proofs.YtfpiannnggkdiaaDoor
namespace Go.Proofs.YtfpiannnggkdiaaDoor
open Go.RowKit Go.Shelf Go.Sort

/-- What becomes of one name. -/
def mgOf (lo la lb : List PV) (q : List UInt8) : V × Bool := mergeT (valOf lo ⟨q.toArray⟩) (valOf la ⟨q.toArray⟩) (valOf lb ⟨q.toArray⟩)
def mgP (lo la lb : List PV) (q : List UInt8) : List PV := if (mgOf lo la lb q).1.kind = 0 then [] else [⟨⟨q.toArray⟩, (mgOf lo la lb q).1⟩]
def tnP (lo la lb : List PV) (q : List UInt8) : List (List UInt8) := if (mgOf lo la lb q).2 = true then [] else [q]
def mergedL (lo la lb : List PV) (N : List (List UInt8)) : List PV := N.flatMap (mgP lo la lb)
def tornL (lo la lb : List PV) (N : List (List UInt8)) : List (List UInt8) := N.flatMap (tnP lo la lb)
def mergeE (lo la lb : List PV) : Int :=
  if propsE lo ≠ 0 then propsE lo else if propsE la ≠ 0 then propsE la else if propsE lb ≠ 0 then propsE lb else if 20 < (mergedL lo la lb (namesS [lo, la, lb])).length then 4 else 0
theorem mergedL_snoc {lo la lb : List PV} {N : List (List UInt8)} {j : Nat} (hj : j < N.length) : mergedL lo la lb (N.take (j + 1)) = mergedL lo la lb (N.take j) ++ mgP lo la lb N[j] := by
  unfold mergedL
  rw [List.take_succ_eq_append_getElem hj, List.flatMap_append, List.flatMap_cons, List.flatMap_nil, List.append_nil]
theorem tornL_snoc {lo la lb : List PV} {N : List (List UInt8)} {j : Nat} (hj : j < N.length) : tornL lo la lb (N.take (j + 1)) = tornL lo la lb (N.take j) ++ tnP lo la lb N[j] := by
  unfold tornL
  rw [List.take_succ_eq_append_getElem hj, List.flatMap_append, List.flatMap_cons, List.flatMap_nil, List.append_nil]
theorem mergedL_len (lo la lb : List PV) : ∀ N : List (List UInt8), (mergedL lo la lb N).length ≤ N.length
  | [] => by simp [mergedL]
  | q :: N => by
    have h1 := mergedL_len lo la lb N
    unfold mergedL at h1 ⊢
    rw [List.flatMap_cons, List.length_append, List.length_cons]
    have h2 : (mgP lo la lb q).length ≤ 1 := by unfold mgP; split <;> simp
    omega
theorem tornL_len (lo la lb : List PV) : ∀ N : List (List UInt8), (tornL lo la lb N).length ≤ N.length
  | [] => by simp [tornL]
  | q :: N => by
    have h1 := tornL_len lo la lb N
    unfold tornL at h1 ⊢
    rw [List.flatMap_cons, List.length_append, List.length_cons]
    have h2 : (tnP lo la lb q).length ≤ 1 := by unfold tnP; split <;> simp
    omega
/-- A list of properties and one of strings of one's own, side by side. -/
structure MgSt (W : World) (M : List PV) (T : List (List UInt8)) (vm vt : Value) (wx : World) : Prop where
  bel : Below W.heap.size W wx
  rep : ∃ (F : Nat → Prop) (xs : List Value), wx.ownsRow W.heap.size 59 6 vm M.length xs ∧ PRep wx F M xs ∧ (∀ k, F k → k < wx.heap.size) ∧ (∀ g, vm.ownBlock = some g → ¬ F g) ∧ ∀ g, vt.ownBlock = some g → ¬ F g
  torn : wx.ownsRow W.heap.size 9 1 vt T.length (T.map encStr)
theorem MgSt.nil {W wx : World} (hb : Below W.heap.size W wx) : MgSt W [] [] (.slice none 0 0) (.slice none 0 0) wx :=
  ⟨hb, ⟨fun _ => False, [], World.ownsRow_nil _ _ _ _, rfl, fun _ h => h.elim, fun _ h => by simp [Value.ownBlock] at h, fun _ h => by simp [Value.ownBlock] at h⟩, World.ownsRow_nil _ _ _ _⟩
theorem MgSt.later {W w w' : World} {M : List PV} {T : List (List UInt8)} {vm vt : Value} (h : MgSt W M T vm vt w) (hb : Below w.heap.size w w') : MgSt W M T vm vt w' := by
  obtain ⟨F, xs, h1, h2, h3, h4, h5⟩ := h.rep
  exact ⟨h.bel.trans (hb.mono h.bel.size), ⟨F, xs, own_kept h1 (fun g hg => hb.block g (h1.lt g hg).2), h2.keep (fun k hk => hb.block k (h3 k hk)) (fun _ h => h), fun k hk => Nat.lt_of_lt_of_le (h3 k hk) hb.size, h4, h5⟩, own_kept h.torn (fun g hg => hb.block g (h.torn.lt g hg).2)⟩
theorem MgSt.lower {w W wx : World} {M : List PV} {T : List (List UInt8)} {vm vt : Value} (h : MgSt W M T vm vt wx) (hb : Below w.heap.size w W) : MgSt w M T vm vt wx := by
  obtain ⟨F, xs, h1, h2, h3, h4, h5⟩ := h.rep
  have hs := hb.size
  exact ⟨hb.trans (h.bel.mono hs), ⟨F, xs, own_base h1 (fun g hg => by have := (h1.lt g hg).1; omega), h2, h3, h4, h5⟩, own_base h.torn (fun g hg => by have := (h.torn.lt g hg).1; omega)⟩
theorem MgSt.apart {W wx : World} {M : List PV} {T : List (List UInt8)} {vm vt : Value} (h : MgSt W M T vm vt wx) {g : Nat} (h1 : vm.ownBlock = some g) (h2 : vt.ownBlock = some g) : False := by
  obtain ⟨F, xs, k1, _⟩ := h.rep
  rcases k1.2 with ⟨rfl, _⟩ | ⟨g1, _, _, rfl, _, e1, _⟩
  · simp [Value.ownBlock] at h1
  · rcases h.torn.2 with ⟨rfl, _⟩ | ⟨g2, _, _, rfl, _, e2, _⟩
    · simp [Value.ownBlock] at h2
    · simp only [Value.ownBlock, Option.some.injEq] at h1 h2
      subst h1 h2
      rw [e1] at e2
      simp at e2
/-- One property more. -/
theorem MgSt.pushM {W w w4 : World} {M : List PV} {T : List (List UInt8)} {vm vt : Value} (h : MgSt W M T vm vt w) {o : Obj} {F P : Nat → Prop} {xs : List Value} {nm sx : ByteArray} {kx ix tx : Int} {lx : List V} {A' : Option Addr} {c' gg cap : Nat}
    (h1 : w.ownsRow W.heap.size 59 6 vm M.length xs) (h2 : PRep w F M xs) (h3 : ∀ k, F k → k < w.heap.size) (h4 : ∀ g, vm.ownBlock = some g → ¬ F g) (h5 : ∀ g, vt.ownBlock = some g → ¬ F g)
    (hs : SlF w P lx (.slice A' lx.length c')) (hz : nm.size ≤ 1048576 ∧ sx.size ≤ 1048576) (hP : ∀ k, P k → k < w.heap.size ∧ vm.ownBlock ≠ some k ∧ vt.ownBlock ≠ some k)
    (ho4 : w4.ownsRow W.heap.size 59 6 (.slice (some ⟨gg, 0, none⟩) (M.length + 1) cap) (M.length + 1) (xs ++ [.string nm, .int .i64 kx, .int .i64 ix, .int .i64 tx, .string sx, .slice A' lx.length c']))
    (hg : (w.alloc o).grownBy w4 vm.ownBlock) (hat : vm.ownBlock = some gg ∨ gg = w.heap.size + 1) : MgSt W (M ++ [⟨nm, .mk kx ix tx sx lx⟩]) T (.slice (some ⟨gg, 0, none⟩) (M.length + 1) cap) vt w4 := by
  have hbel := h.bel
  have hle := hbel.size
  have hsz4 := hg.size
  simp only [World.size_alloc] at hsz4
  have hlt : ∀ g, vm.ownBlock = some g → W.heap.size ≤ g ∧ g < w.heap.size := fun g hg => h1.lt g hg
  have hk4 : ∀ b, b < w.heap.size → vm.ownBlock ≠ some b → w4.heap[b]? = w.heap[b]? := fun b hb hne => by
    rw [hg.block b (by simp; omega) (fun e => hne e.symm)]
    exact Below.heap_alloc _ _ _ hb
  refine ⟨(hbel.alloc hle o).grown hg (by simp; omega) (fun k hk => (hlt k hk).1), ⟨fun b => F b ∨ P b, _, ?_, PRep.snoc hz.1 hz.2 (hs.keep (fun b hb => hk4 b (hP b hb).1 (hP b hb).2.1) (fun b hb => .inr hb)) (h2.keep (fun b hb => hk4 b (h3 b hb) (fun e => h4 b e hb)) (fun b hb => .inl hb)), fun k hk => ?_, fun g hg2 => ?_, fun g hg2 => ?_⟩, own_kept h.torn (fun g hg2 => hk4 g (h.torn.lt g hg2).2 (fun e => h.apart e hg2))⟩
  · rw [List.length_append]
    exact ho4
  · rcases hk with hk | hk
    · have := h3 k hk; omega
    · have := (hP k hk).1; omega
  · simp only [Value.ownBlock, Option.some.injEq] at hg2
    subst hg2
    rcases hat with e | e
    · rintro (h6 | h6)
      · exact h4 _ e h6
      · exact (hP _ h6).2.1 e
    · rintro (h6 | h6)
      · have := h3 _ h6; omega
      · have := (hP _ h6).1; omega
  · rintro (h6 | h6)
    · exact h5 _ hg2 h6
    · exact (hP _ h6).2.2 hg2
/-- One string more. -/
theorem MgSt.pushT {W w w4 : World} {M : List PV} {T : List (List UInt8)} {vm vt : Value} (h : MgSt W M T vm vt w) {o : Obj} {x : ByteArray} {gg cap : Nat}
    (ho4 : w4.ownsRow W.heap.size 9 1 (.slice (some ⟨gg, 0, none⟩) (T.length + 1) cap) (T.length + 1) (T.map encStr ++ [.string x])) (hg : (w.alloc o).grownBy w4 vt.ownBlock) (hat : vt.ownBlock = some gg ∨ gg = w.heap.size + 1) :
    MgSt W M (T ++ [x.data.toList]) vm (.slice (some ⟨gg, 0, none⟩) (T.length + 1) cap) w4 := by
  have hbel := h.bel
  have hle := hbel.size
  have hsz4 := hg.size
  simp only [World.size_alloc] at hsz4
  obtain ⟨F, xs, h1, h2, h3, h4, h5⟩ := h.rep
  have hk4 : ∀ b, b < w.heap.size → vt.ownBlock ≠ some b → w4.heap[b]? = w.heap[b]? := fun b hb hne => by
    rw [hg.block b (by simp; omega) (fun e => hne e.symm)]
    exact Below.heap_alloc _ _ _ hb
  refine ⟨(hbel.alloc hle o).grown hg (by simp; omega) (fun k hk => (h.torn.lt k hk).1), ⟨F, xs, own_kept h1 (fun g hg2 => hk4 g (h1.lt g hg2).2 (fun e => h.apart hg2 e)), h2.keep (fun b hb => hk4 b (h3 b hb) (fun e => h5 b e hb)) (fun _ h => h), fun k hk => by have := h3 k hk; omega, h4, fun g hg2 => ?_⟩, ?_⟩
  · simp only [Value.ownBlock, Option.some.injEq] at hg2
    subst hg2
    rcases hat with e | e
    · exact h5 _ e
    · intro h6; have := h3 _ h6; omega
  · rw [List.length_append, List.map_append]
    exact ho4
/-- What Merge gives. -/
def MergeGives (w : World) (err : Int) (M : List PV) (T : List (List UInt8)) (e : Ending) (w' : World) : Prop :=
  ∃ vm vt, e = .returned (.tuple #[vm, vt, .int .i64 err]) ∧ MgSt w (if err = 0 then M else []) (if err = 0 then T else []) vm vt w'
theorem mergeGives_bad {w w' : World} {err : Int} {M : List PV} {T : List (List UInt8)} (he : err ≠ 0) (hb : Below w.heap.size w w') : MergeGives w err M T (.returned (.tuple #[.slice none 0 0, .slice none 0 0, .int .i64 err])) w' :=
  ⟨_, _, rfl, by rw [if_neg he, if_neg he]; exact MgSt.nil hb⟩
end Go.Proofs.YtfpiannnggkdiaaDoor
namespace Go.Proofs.YtfpiannnggkdiaaDoor
open Go.RowKit Go.Shelf Go.Sort

theorem itemP_val {prev : Option ByteArray} {p : PV} (h : itemP prev p = 0) : valueE p.val = 0 := by
  rcases prev with _ | q
  all_goals
    simp only [itemP] at h
    repeat' (split at h)
    all_goals first
      | exact h
      | exact absurd h (by decide)
      | (simp at h)
theorem propsFrom_val : ∀ (l : List PV) (prev : Option ByteArray), propsFrom prev l = 0 → ∀ p ∈ l, valueE p.val = 0
  | [], _, _, _, hp => by simp at hp
  | x :: l, prev, h, p, hp => by
    unfold propsFrom at h
    split at h
    · rename_i h0
      rcases List.mem_cons.1 hp with rfl | hp
      · exact itemP_val h0
      · exact propsFrom_val l _ h p hp
    · rename_i h0; exact absurd h h0
theorem propsE_few {l : List PV} (h : propsE l = 0) : l.length ≤ 20 ∧ propsFrom none l = 0 := by
  unfold propsE at h
  split at h
  · exact absurd h (by decide)
  · exact ⟨by omega, h⟩
theorem propsE_right {l : List PV} (h : propsE l = 0) : ∀ p ∈ l, Right p.val := fun p hp => right_of (propsFrom_val l _ (propsE_few h).2 p hp)
theorem valOf_right {l : List PV} {q : ByteArray} (h : propsE l = 0) : Right (valOf l q) := by
  unfold valOf getV
  cases hf : l.find? (fun p => p.nm.toList == q.toList) with
  | none => exact right_none
  | some p => exact propsE_right h p (List.mem_of_find?_eq_some hf)
theorem compact_mem {L : List (List UInt8)} {q : List UInt8} (h : q ∈ Lib.compact L) : q ∈ L := by
  unfold Lib.compact Lib.compactUpTo at h
  obtain ⟨i, hi, rfl⟩ := List.mem_map.1 h
  have hi2 := List.mem_range.1 (List.mem_filter.1 hi).1
  rw [getElem!_pos L.toArray i (by simpa using hi2)]
  simp
theorem names_mem {Ls : List (List PV)} {q : List UInt8} (h : q ∈ namesS Ls) : ∃ l ∈ Ls, ∃ p ∈ l, p.nm.data.toList = q := by
  have h1 := compact_mem h
  unfold sortS at h1
  rw [List.mem_mergeSort] at h1
  obtain ⟨l, hl, hq⟩ := List.mem_flatMap.1 h1
  obtain ⟨p, hp, rfl⟩ := List.mem_map.1 hq
  exact ⟨l, hl, p, hp, rfl⟩
theorem names_len (Ls : List (List PV)) : (namesS Ls).length ≤ (allNames Ls).length := by
  unfold namesS
  exact Nat.le_trans (compact_len _) (by rw [sortS_len]; exact Nat.le_refl _)
theorem names_three (lo la lb : List PV) : (namesS [lo, la, lb]).length ≤ lo.length + la.length + lb.length := by
  refine Nat.le_trans (names_len _) ?_
  simp only [allNames, List.flatMap_cons, List.flatMap_nil, List.length_append, namesL, List.length_map, List.length_nil]
  omega
theorem psl_names {w : World} {B : Nat} {l : List PV} {g : Value} (h : PSl w B l g) : ∀ p ∈ l, p.nm.size ≤ 1048576 := by
  intro p hp
  obtain ⟨A, c, rfl, _, _, h3⟩ := h
  obtain ⟨j, hj, rfl⟩ := List.mem_iff_getElem.1 hp
  rcases h3 with h3 | ⟨b, off, rfl, h3⟩
  · subst h3; simp at hj
  · exact (PRow.get l b off j h3 hj).2.2.1
end Go.Proofs.YtfpiannnggkdiaaDoor
namespace Go.Proofs.YtfpiannnggkdiaaDoor
open Go.RowKit Go.Shelf Go.Sort

/-- The three lists' block, and what has been found right of them. -/
structure ThreeSt (w : World) (cs : Array Value) (eo ea eb : Int) (j : Nat) (wx : World) : Prop where
  bel : Below w.heap.size w wx
  blk : wx.heap[w.heap.size]? = some (.cells cs 31 (0, 0))
  o : 0 < j → eo = 0
  a : 1 < j → ea = 0
  b : 2 < j → eb = 0
theorem ThreeSt.next {w wx w' : World} {cs : Array Value} {eo ea eb : Int} {j : Nat} (h : ThreeSt w cs eo ea eb j wx) (hb : Below wx.heap.size wx w') (h0 : j = 0 → eo = 0) (h1 : j = 1 → ea = 0) (h2 : j = 2 → eb = 0) : ThreeSt w cs eo ea eb (j + 1) w' :=
  ⟨h.bel.trans (hb.mono h.bel.size), (hb.block _ (lt_of_blk' h.blk)).trans h.blk, fun _ => by by_cases hj : j = 0; exact h0 hj; exact h.o (by omega), fun _ => by by_cases hj : j = 1; exact h1 hj; exact h.a (by omega), fun _ => by by_cases hj : j = 2; exact h2 hj; exact h.b (by omega)⟩
theorem names_cell {w : World} {base : Nat} {N : List (List UInt8)} {A : Option Addr} {n c : Nat} (h : w.ownsRow base 9 1 (.slice A n c) N.length (N.map encStr)) {j : Nat} (hj : j < N.length) :
    ∃ g, A = some ⟨g, 0, none⟩ ∧ base ≤ g ∧ g < w.heap.size ∧ w.cell? ⟨g, j, none⟩ = some (.string ⟨N[j].toArray⟩) := by
  rcases h.2 with ⟨_, h0⟩ | ⟨g, cap, cur, e, hb, hg, _⟩
  · omega
  · injection e with e1 e2 e3
    subst e1 e2 e3
    have hlt := (h.lt g rfl).2
    refine ⟨g, rfl, hb, hlt, ?_⟩
    rw [h.cellAt j (by omega)]
    simp [hj]
end Go.Proofs.YtfpiannnggkdiaaDoor
namespace Go.Proofs.YtfpiannnggkdiaaDoor
open Go.RowKit Go.Shelf Go.Sort

set_option maxRecDepth 100000 in
set_option maxHeartbeats 16000000 in
theorem mergeP_any (lo la lb : List PV) (Ao Aa Ab : Option Addr) (co ca cb : Nat) (w : World) (ho : PSl w w.heap.size lo (.slice Ao lo.length co)) (ha : PSl w w.heap.size la (.slice Aa la.length ca)) (hb : PSl w w.heap.size lb (.slice Ab lb.length cb)) :
    Calls Tryd.prog 11 #[.slice Ao lo.length co, .slice Aa la.length ca, .slice Ab lb.length cb] w (MergeGives w (mergeE lo la lb) (mergedL lo la lb (namesS [lo, la, lb])) (tornL lo la lb (namesS [lo, la, lb]))) := by
  have HPO := Lib.hid ho
  have HPA := Lib.hid ha
  have HPB := Lib.hid hb
  have HCO := Lib.hid (fun W (hW : Below w.heap.size w W) => checkProps_any lo Ao co W ((ho.below hW (Nat.le_refl _)).up hW.size))
  have HCA := Lib.hid (fun W (hW : Below w.heap.size w W) => checkProps_any la Aa ca W ((ha.below hW (Nat.le_refl _)).up hW.size))
  have HCB := Lib.hid (fun W (hW : Below w.heap.size w W) => checkProps_any lb Ab cb W ((hb.below hW (Nat.le_refl _)).up hW.size))
  have nodes : ∀ {l : List PV}, propsE l = 0 → ∀ p ∈ l, nodesV p.val ≤ 1048576 := fun {l} h p hp => by have := (propsE_right h p hp).nodes; omega
  have HGO := Lib.hid (fun (h0 : propsE lo = 0) q W (hW : Below w.heap.size w W) => (propGetF_any w.heap.size lo q Ao co W hW.size (ho.below hW (Nat.le_refl _)) (nodes h0)).mono (fun _ _ h => gotF_val h))
  have HGA := Lib.hid (fun (h0 : propsE la = 0) q W (hW : Below w.heap.size w W) => (propGetF_any w.heap.size la q Aa ca W hW.size (ha.below hW (Nat.le_refl _)) (nodes h0)).mono (fun _ _ h => gotF_val h))
  have HGB := Lib.hid (fun (h0 : propsE lb = 0) q W (hW : Below w.heap.size w W) => (propGetF_any w.heap.size lb q Ab cb W hW.size (hb.below hW (Nat.le_refl _)) (nodes h0)).mono (fun _ _ h => gotF_val h))
  have HE : Hid (mergeE lo la lb = if propsE lo ≠ 0 then propsE lo else if propsE la ≠ 0 then propsE la else if propsE lb ≠ 0 then propsE lb else if 20 < (mergedL lo la lb (namesS [lo, la, lb])).length then 4 else 0) := Lib.hid rfl
  have HNA := Lib.hid (fun (b c : Nat) (W : World) (hl : ListsAt W b [lo, la, lb]) => namesOf_any [lo, la, lb] b c W (by simp) hl)
  simp only [List.length_cons, List.length_nil] at HNA
  obtain ⟨N, hN⟩ : ∃ N, N = namesS [lo, la, lb] := ⟨_, rfl⟩
  rw [← hN] at HE HNA ⊢
  have HNL : Hid (propsE lo = 0 → propsE la = 0 → propsE lb = 0 → N.length ≤ 60) := Lib.hid (fun h1 h2 h3 => by
    have := names_three lo la lb
    have h1 := (propsE_few h1).1
    have h2 := (propsE_few h2).1
    have h3 := (propsE_few h3).1
    rw [hN]; omega)
  have HNS : Hid (∀ q ∈ N, q.toArray.size ≤ 1048576) := Lib.hid (fun q hq => by
    rw [hN] at hq
    obtain ⟨l, hl, p, hp, rfl⟩ := names_mem hq
    simp only [List.mem_cons, List.not_mem_nil, or_false] at hl
    have : p.nm.size ≤ 1048576 := by
      rcases hl with rfl | rfl | rfl
      · exact psl_names ho p hp
      · exact psl_names ha p hp
      · exact psl_names hb p hp
    show p.nm.data.toList.toArray.size ≤ 1048576
    rw [Array.toArray_toList]
    exact this)
  have HL : Hid (∀ (W : World) (bb : Nat), Below w.heap.size w W → W.heap[bb]? = some (.cells #[.slice Ao lo.length co, .slice Aa la.length ca, .slice Ab lb.length cb] 31 (0, 0)) → ListsAt W bb [lo, la, lb]) := Lib.hid (fun W bb hW hbk => ⟨lt_of_blk' hbk, fun j hj => by
    simp only [List.length_cons, List.length_nil] at hj
    obtain rfl | rfl | rfl : j = 0 ∨ j = 1 ∨ j = 2 := by omega
    · exact ⟨Ao, co, cell_of_row W bb 0 _ _ (0, 0) hbk, (ho.below hW (Nat.le_refl _)).up hW.size⟩
    · exact ⟨Aa, ca, cell_of_row W bb 1 _ _ (0, 0) hbk, (ha.below hW (Nat.le_refl _)).up hW.size⟩
    · exact ⟨Ab, cb, cell_of_row W bb 2 _ _ (0, 0) hbk, (hb.below hW (Nat.le_refl _)).up hW.size⟩⟩)
  have HRO := Lib.hid (fun (h0 : propsE lo = 0) q => valOf_right (q := q) h0)
  have HRA := Lib.hid (fun (h0 : propsE la = 0) q => valOf_right (q := q) h0)
  have HRB := Lib.hid (fun (h0 : propsE lb = 0) q => valOf_right (q := q) h0)
  obtain ⟨i0, hi0, hz0, hz1, hz2⟩ := info_parts infoPr
  obtain ⟨iS, hiS, hy0, hy1, hy2⟩ := info_parts infoStrN
  generalize mergeE lo la lb = err at HE ⊢
  generalize propsE lo = eo at HCO HGO HE HNL HRO
  generalize propsE la = ea at HCA HGA HE HNL HRA
  generalize propsE lb = eb at HCB HGB HE HNL HRB
  generalize lo.length = no at HCO HGO HL ⊢
  generalize la.length = na at HCA HGA HL ⊢
  generalize lb.length = nb at HCB HGB HL ⊢
  clear ho ha hb HPO HPA HPB nodes hN
  go_enter Tryd.func11, Tryd.ntmps11
  go_wp2_with fail
  go_loopw [29] (fun iv wx => ∃ j : Nat, iv = .int .i64 j ∧ j ≤ 3 ∧ Hid (ThreeSt w #[.slice Ao no co, .slice Aa na ca, .slice Ab nb cb] eo ea eb j wx)) (fun iv _ => 3 - (intOf iv).toNat)
  case atStart => exact ⟨0, rfl, by omega, Lib.hid ⟨(Below.refl _ _).alloc (Nat.le_refl _) _, heap_alloc_new w _, fun h => absurd h (by omega), fun h => absurd h (by omega), fun h => absurd h (by omega)⟩⟩
  case round =>
    obtain ⟨j, rfl, hjl, HR⟩ := hrel
    have x0 := cell_of_row wr _ 0 _ _ (0, 0) HR.out.blk
    have x1 := cell_of_row wr _ 1 _ _ (0, 0) HR.out.blk
    have x2 := cell_of_row wr _ 2 _ _ (0, 0) HR.out.blk
    obtain rfl | rfl | rfl | rfl : j = 0 ∨ j = 1 ∨ j = 2 ∨ j = 3 := by omega
    · by_cases he : eo = 0
      · subst he
        go_wp2_with fail
        refine (HCO.out _ HR.out.bel).mono ?_
        rintro e1 w1 ⟨rfl, hb1⟩
        have HX := Lib.hid (HR.out.next hb1 (fun _ => rfl) (fun h => absurd h (by omega)) (fun h => absurd h (by omega)))
        clear hb1
        go_wp2_with fail
        go_roundw
        case rel => exact ⟨1, by go_num, by omega, HX⟩
        case measure => simp [intOf]
      · go_wp2_with fail
        refine (HCO.out _ HR.out.bel).mono ?_
        rintro e1 w1 ⟨rfl, hb1⟩
        have HX := Lib.hid (HR.out.bel.trans (hb1.mono HR.out.bel.size))
        clear hb1
        go_wp2_with fail
        go_ret3
        have e3 : err = eo := by have := HE.out; rw [if_pos he] at this; exact this
        rw [e3]
        exact mergeGives_bad he HX.out
    · have ho0 := HR.out.o (by omega)
      subst ho0
      by_cases he : ea = 0
      · subst he
        go_wp2_with fail
        refine (HCA.out _ HR.out.bel).mono ?_
        rintro e1 w1 ⟨rfl, hb1⟩
        have HX := Lib.hid (HR.out.next hb1 (fun _ => rfl) (fun _ => rfl) (fun h => absurd h (by omega)))
        clear hb1
        go_wp2_with fail
        go_roundw
        case rel => exact ⟨2, by go_num, by omega, HX⟩
        case measure => simp [intOf]
      · go_wp2_with fail
        refine (HCA.out _ HR.out.bel).mono ?_
        rintro e1 w1 ⟨rfl, hb1⟩
        have HX := Lib.hid (HR.out.bel.trans (hb1.mono HR.out.bel.size))
        clear hb1
        go_wp2_with fail
        go_ret3
        have e3 : err = ea := by have := HE.out; rw [if_neg (by simp), if_pos he] at this; exact this
        rw [e3]
        exact mergeGives_bad he HX.out
    · have ho0 := HR.out.o (by omega)
      subst ho0
      have ha0 := HR.out.a (by omega)
      subst ha0
      by_cases he : eb = 0
      · subst he
        go_wp2_with fail
        refine (HCB.out _ HR.out.bel).mono ?_
        rintro e1 w1 ⟨rfl, hb1⟩
        have HX := Lib.hid (HR.out.next hb1 (fun _ => rfl) (fun _ => rfl) (fun _ => rfl))
        clear hb1
        go_wp2_with fail
        go_roundw
        case rel => exact ⟨3, by go_num, by omega, HX⟩
        case measure => simp [intOf]
      · go_wp2_with fail
        refine (HCB.out _ HR.out.bel).mono ?_
        rintro e1 w1 ⟨rfl, hb1⟩
        have HX := Lib.hid (HR.out.bel.trans (hb1.mono HR.out.bel.size))
        clear hb1
        go_wp2_with fail
        go_ret3
        have e3 : err = eb := by have := HE.out; rw [if_neg (by simp), if_neg (by simp), if_pos he] at this; exact this
        rw [e3]
        exact mergeGives_bad he HX.out
    · have ho0 := HR.out.o (by omega)
      have ha0 := HR.out.a (by omega)
      have hb0 := HR.out.b (by omega)
      subst ho0 ha0 hb0
      have HBR := Lib.hid HR.out.bel
      have hszr := HBR.out.size
      have HA0 := Lib.hid (HNA.out wr.heap.size 3 (wr.alloc (.cells #[.slice Ao no co, .slice Aa na ca, .slice Ab nb cb] 31)) (HL.out _ _ (HBR.out.alloc hszr _) (heap_alloc_new wr _)))
      have hnl := HNL.out rfl rfl rfl
      have KGO := Lib.hid (HGO.out rfl)
      have KGA := Lib.hid (HGA.out rfl)
      have KGB := Lib.hid (HGB.out rfl)
      have KRO := Lib.hid (HRO.out rfl)
      have KRA := Lib.hid (HRA.out rfl)
      have KRB := Lib.hid (HRB.out rfl)
      clear HR HNL HNA HL x0 x1 x2
      go_wp2_with fail
      refine HA0.out.mono ?_
      rintro e2 w2 ⟨v2, rfl, hO2⟩
      obtain ⟨An, cn, rfl⟩ := own_shape hO2.own
      have HB2 := Lib.hid ((HBR.out.alloc hszr (.cells #[.slice Ao no co, .slice Aa na ca, .slice Ab nb cb] 31)).trans (hO2.bel.mono (by simp; omega)))
      have HN2 := Lib.hid hO2.own
      obtain ⟨n, hn⟩ : ∃ n, n = N.length := ⟨_, rfl⟩
      have HN := Lib.hid hn
      rw [← hn] at hnl ⊢
      clear hO2 hn HA0
      go_wp2_with fail
      go_loopw [12, 13, 45] (fun mv tv iv wx => ∃ j : Nat, iv = .int .i64 j ∧ j ≤ n ∧ Hid (MgSt w2 (mergedL lo la lb (N.take j)) (tornL lo la lb (N.take j)) mv tv wx)) (fun _ _ iv _ => n - (intOf iv).toNat)
      case atStart => exact ⟨0, rfl, Nat.zero_le _, Lib.hid (by rw [List.take_zero]; exact MgSt.nil (Below.refl _ _))⟩
      case round =>
        obtain ⟨j, rfl, hjl, HR⟩ := hrel
        have hsz2 := HB2.out.size
        have HBR2 := Lib.hid (HB2.out.trans (HR.out.bel.mono hsz2))
        have hszr2 := HBR2.out.size
        have hM1 := mergedL_len lo la lb (N.take j)
        have hT1 := tornL_len lo la lb (N.take j)
        rw [List.length_take] at hM1 hT1
        obtain ⟨M, hM⟩ : ∃ M, M = mergedL lo la lb (N.take j) := ⟨_, rfl⟩
        obtain ⟨T, hT⟩ : ∃ T, T = tornL lo la lb (N.take j) := ⟨_, rfl⟩
        rw [← hM] at HR hM1
        rw [← hT] at HR hT1
        obtain ⟨F, xs, h1, h2, h3, h4, h5⟩ := HR.out.rep
        obtain ⟨Am, cm, rfl⟩ := own_shape h1
        obtain ⟨At, ct, rfl⟩ := own_shape HR.out.torn
        by_cases hj : j < n
        · have hj2 : j < N.length := by rw [← HN.out]; exact hj
          have p2 : (j : Int) < n := by omega
          obtain ⟨gn, rfl, hgn, hgl, hgc⟩ := names_cell HN2.out hj2
          have hnc := (HR.out.bel.cell (p := ⟨gn, j, none⟩) hgl).trans hgc
          have HEM := Lib.hid (mergedL_snoc (lo := lo) (la := la) (lb := lb) hj2)
          have HET := Lib.hid (tornL_snoc (lo := lo) (la := la) (lb := lb) hj2)
          have HQ := Lib.hid (HNS.out N[j] (List.getElem_mem hj2))
          generalize N[j] = qs at hnc HEM HET HQ
          obtain ⟨q, hq⟩ : ∃ q, q = (⟨qs.toArray⟩ : ByteArray) := ⟨_, rfl⟩
          rw [← hq] at hnc
          have hqs : qs = q.data.toList := by rw [hq]
          obtain ⟨vo, hvo⟩ : ∃ vo, vo = valOf lo q := ⟨_, rfl⟩
          obtain ⟨va, hva⟩ : ∃ va, va = valOf la q := ⟨_, rfl⟩
          obtain ⟨vb, hvb⟩ : ∃ vb, vb = valOf lb q := ⟨_, rfl⟩
          obtain ⟨mt, hmt⟩ : ∃ mt, mt = mergeT vo va vb := ⟨_, rfl⟩
          have HMG : Hid (mgOf lo la lb qs = mt) := Lib.hid (by unfold mgOf; rw [← hq, hmt, hvo, hva, hvb])
          have G1 := Lib.hid (KGO.out q wr HBR2.out)
          have G2 := Lib.hid (fun W (hW : Below w.heap.size w W) => KGA.out q W hW)
          have G3 := Lib.hid (fun W (hW : Below w.heap.size w W) => KGB.out q W hW)
          have RO := Lib.hid (KRO.out q)
          have RA := Lib.hid (KRA.out q)
          have RB := Lib.hid (KRB.out q)
          rw [← hvo] at G1 RO
          rw [← hva] at G2 RA
          rw [← hvb] at G3 RB
          have HMT := Lib.hid hmt
          have HM := Lib.hid hM
          have HT := Lib.hid hT
          have HH1 := Lib.hid h1
          have HH2 := Lib.hid h2
          have HH3 := Lib.hid h3
          have HH4 := Lib.hid h4
          have HH5 := Lib.hid h5
          have HQS := Lib.hid hqs
          have HQZ : Hid (q.size ≤ 1048576) := Lib.hid (by rw [hq]; exact HQ.out)
          have hvm : ∀ g, (Value.slice Am M.length cm).ownBlock = some g → w.heap.size ≤ g ∧ g < wr.heap.size := fun g hg => by have := h1.lt g hg; omega
          have hvt : ∀ g, (Value.slice At T.length ct).ownBlock = some g → w.heap.size ≤ g ∧ g < wr.heap.size := fun g hg => by have := HR.out.torn.lt g hg; omega
          have HVM := Lib.hid hvm
          have HVT := Lib.hid hvt
          generalize hml : M.length = ml at HH1 HH4 HVM HR hM1 ⊢
          generalize htl : T.length = tl at HH5 HVT HR hT1 ⊢
          have HML := Lib.hid hml
          have HTL := Lib.hid htl
          clear hq hqs hvo hva hvb hmt hM hT h1 h2 h3 h4 h5 hvm hvt hgc hml htl HGO HGA HGB HRO HRA HRB KGO KGA KGB KRO KRA KRB HNS HQ
          go_wp2_with fail
          refine G1.out.mono ?_
          rintro e3 w3 ⟨g1, bl1, rfl, hv1, hb3⟩
          obtain ⟨k1, i1, t1, s1, l1, A1, c1, rfl, rfl, hz1', _⟩ := hv1.hand
          have HV1 := Lib.hid hv1
          generalize l1.length = m1 at HV1 ⊢
          have HR3 := Lib.hid hb3
          have HB3 := Lib.hid (HBR2.out.trans (hb3.mono hszr2))
          have hsz3 := HB3.out.size
          have hszr3 := HR3.out.size
          clear hv1 hb3
          go_wp2_with fail
          refine (G2.out _ (HB3.out.alloc hsz3 _)).mono ?_
          rintro e4 w4 ⟨g2, bl2, rfl, hv2, hb4⟩
          obtain ⟨k2, i2, t2, s2, l2, A2, c2, rfl, rfl, hz2', _⟩ := hv2.hand
          have HV2 := Lib.hid hv2
          generalize l2.length = m2 at HV2 ⊢
          have hsz34 := hb4.size
          simp only [World.size_alloc] at hsz34
          have HR4 : Hid (Below w3.heap.size w3 w4) := Lib.hid (((Below.refl _ w3).alloc (Nat.le_refl _) _).trans (hb4.mono (by simp)))
          have HX1 : Hid (w4.heap[w3.heap.size]? = some (.cells #[.int .i64 k1, .int .i64 i1, .int .i64 t1, .string s1, .slice A1 m1 c1] 53)) := Lib.hid ((hb4.block _ (by simp)).trans (heap_alloc_new w3 _))
          have HB4 := Lib.hid (HB3.out.trans (HR4.out.mono hsz3))
          have hsz4 := HB4.out.size
          clear hv2 hb4
          go_wp2_with fail
          refine (G3.out _ (HB4.out.alloc hsz4 _)).mono ?_
          rintro e5 w5 ⟨g3, bl3, rfl, hv3, hb5⟩
          obtain ⟨k3, i3, t3, s3, l3, A3, c3, rfl, rfl, hz3', _⟩ := hv3.hand
          have HV3 := Lib.hid hv3
          generalize l3.length = m3 at HV3 ⊢
          have hsz45 := hb5.size
          simp only [World.size_alloc] at hsz45
          have HR5 : Hid (Below w4.heap.size w4 w5) := Lib.hid (((Below.refl _ w4).alloc (Nat.le_refl _) _).trans (hb5.mono (by simp)))
          have HX2 : Hid (w5.heap[w4.heap.size]? = some (.cells #[.int .i64 k2, .int .i64 i2, .int .i64 t2, .string s2, .slice A2 m2 c2] 53)) := Lib.hid ((hb5.block _ (by simp)).trans (heap_alloc_new w4 _))
          have HB5 := Lib.hid (HB4.out.trans (HR5.out.mono hsz4))
          have hsz5 := HB5.out.size
          have hx1 := (HR5.out.block _ (by omega)).trans HX1.out
          obtain ⟨x0, x1, x2, x3, x4⟩ := five_cells hx1
          obtain ⟨y0, y1, y2, y3, y4⟩ := five_cells HX2.out
          have hlt1 : w3.heap.size < w5.heap.size := by omega
          have hlt2 : w4.heap.size < w5.heap.size := by omega
          obtain ⟨P, hPd⟩ : ∃ P : Nat → Prop, P = fun k => (k < w.heap.size ∨ wr.heap.size ≤ k) ∧ k < w5.heap.size := ⟨_, rfl⟩
          obtain ⟨W6, hW6⟩ : ∃ W6, W6 = w5.alloc (.cells #[.int .i64 k3, .int .i64 i3, .int .i64 t3, .string s3, .slice A3 m3 c3] 53) := ⟨_, rfl⟩
          have R56 : Below w5.heap.size w5 W6 := by rw [hW6]; exact (Below.refl _ w5).alloc (Nat.le_refl _) _
          have hsz6 : W6.heap.size = w5.heap.size + 1 := by rw [hW6]; simp
          have R46 : Below w4.heap.size w4 W6 := HR5.out.trans (R56.mono (by omega))
          have R36 : Below w3.heap.size w3 W6 := HR4.out.trans (R46.mono (by omega))
          have fo : VF W6 P (.mk k1 i1 t1 s1 l1) (.agg #[.int .i64 k1, .int .i64 i1, .int .i64 t1, .string s1, .slice A1 m1 c1]) := HV1.out.keep (fun k hk => R36.block k hk.2) (fun k hk => by rw [hPd]; exact ⟨hk.1, by omega⟩)
          have fa : VF W6 P (.mk k2 i2 t2 s2 l2) (.agg #[.int .i64 k2, .int .i64 i2, .int .i64 t2, .string s2, .slice A2 m2 c2]) := HV2.out.keep (fun k hk => R46.block k hk.2) (fun k hk => by rw [hPd]; exact ⟨by have := hk.1; simp only [World.size_alloc] at this; omega, by omega⟩)
          have fb : VF W6 P (.mk k3 i3 t3 s3 l3) (.agg #[.int .i64 k3, .int .i64 i3, .int .i64 t3, .string s3, .slice A3 m3 c3]) := HV3.out.keep (fun k hk => R56.block k hk.2) (fun k hk => by rw [hPd]; exact ⟨by have := hk.1; simp only [World.size_alloc] at this; omega, hk.2⟩)
          have hP6 : ∀ k, P k → k < W6.heap.size := fun k hk => by rw [hPd] at hk; have := hk.2; omega
          have HMV := Lib.hid (mergeValuesF_any P _ _ _ _ _ _ W6 (fo.at hP6) fa fb hP6 RO.out RA.out RB.out)
          rw [← HMT.out] at HMV
          have HBR6 : Hid (Below wr.heap.size wr W6) := Lib.hid (HR3.out.trans (R36.mono (by omega)))
          rw [hW6] at HMV HBR6
          have HPD := Lib.hid hPd
          clear hv3 hb5 hx1 hW6 R56 R46 R36 fo fa fb hP6 hPd hsz6
          rcases mt with ⟨v7, ag⟩
          go_wp2_with fail
          refine HMV.out.mono ?_
          rintro e7 w7 ⟨g7, rfl, hv7, hb7⟩
          obtain ⟨k7, i7, t7, s7, l7, A7, c7, rfl, rfl, hz7, hs7⟩ := hv7.hand
          have hsz7 := hb7.size
          simp only [World.size_alloc] at hsz7
          have HR7 := Lib.hid (HBR6.out.trans (hb7.mono HBR6.out.size))
          have HS7 := Lib.hid hs7
          have HST := Lib.hid (HR.out.later HR7.out)
          clear hv7 hb7 hs7 x0 x1 x2 x3 x4 y0 y1 y2 y3 y4
          have HPT : Hid (tornL lo la lb (N.take (j + 1)) = if ag = true then T else T ++ [q.data.toList]) := Lib.hid (by
            rw [HET.out, ← HT.out]
            unfold tnP
            rw [HMG.out, HQS.out]
            cases ag <;> simp)
          have HPM0 : Hid (k7 = 0 → mergedL lo la lb (N.take (j + 1)) = M) := Lib.hid (fun h0 => by
            rw [HEM.out, ← HM.out]
            unfold mgP
            rw [HMG.out, if_pos (show (V.mk k7 i7 t7 s7 l7, ag).1.kind = 0 from h0), List.append_nil])
          have HPM1 : Hid (k7 ≠ 0 → mergedL lo la lb (N.take (j + 1)) = M ++ [⟨q, .mk k7 i7 t7 s7 l7⟩]) := Lib.hid (fun h0 => by
            rw [HEM.out, ← HM.out]
            unfold mgP
            rw [HMG.out, if_neg (show ¬ (V.mk k7 i7 t7 s7 l7, ag).1.kind = 0 from h0), HQS.out, Array.toArray_toList])
          have HFOOT : Hid (∀ k, (P k ∨ (w5.alloc (.cells #[.int .i64 k3, .int .i64 i3, .int .i64 t3, .string s3, .slice A3 m3 c3] 53)).heap.size ≤ k) ∧ k < w7.heap.size → k < w7.heap.size ∧ (Value.slice Am ml cm).ownBlock ≠ some k ∧ (Value.slice At tl ct).ownBlock ≠ some k) := Lib.hid (fun k hk => by
            have hk1 := hk.1
            rw [HPD.out] at hk1
            simp only [World.size_alloc] at hk1
            have hsr := HR3.out.size
            exact ⟨hk.2, fun e => by have := HVM.out k e; omega, fun e => by have := HVT.out k e; omega⟩)
          obtain ⟨m7, hm7⟩ : ∃ m7, m7 = l7.length := ⟨_, rfl⟩
          have HM7 := Lib.hid hm7
          rw [← hm7]
          have HST8 : Hid (MgSt w2 M T (.slice Am ml cm) (.slice At tl ct) (w7.alloc (.cells #[.int .i64 k7, .int .i64 i7, .int .i64 t7, .string s7, .slice A7 m7 c7] 53))) := Lib.hid (HST.out.later ((Below.refl _ w7).alloc (Nat.le_refl _) _))
          obtain ⟨F8, xs8, u1, u2, u3, u4, u5⟩ := HST8.out.rep
          rw [HML.out] at u1
          have HU1 := Lib.hid u1
          have HU2 := Lib.hid u2
          have HU3 := Lib.hid u3
          have HU4 := Lib.hid u4
          have HU5 := Lib.hid u5
          have hle27 := HST.out.bel.size
          clear hm7 u1 u2 u3 u4 u5
          by_cases hk7 : k7 = 0
          · have HMX := Lib.hid (HPM0.out hk7)
            subst hk7
            have hto := HST8.out.torn
            rw [HTL.out] at hto
            have HSTO := Lib.hid hto
            clear hto
            rcases ag with _ | _
            · go_wp2_with (at_builtin; refine wpList_append_lies _ rfl _ _ 35 rfl w2.heap.size 9 iS _ 1 16 Tryd.underlying35 hiS hy0 hy1 hy2 rfl (by omega) (.slice At tl ct) tl (T.map encStr) rfl (HSTO.out.alloc _) ⟨w7.heap.size + 1, 0, none⟩ 1 1 [.string q] rfl rfl (by intro q' u hq'; have := one_news (w7.alloc (.cells #[.int .i64 0, .int .i64 i7, .int .i64 t7, .string s7, .slice A7 m7 c7] 53)) (.string q) 9 q' u hq'; simpa using this) (by simp [Value.oneCell']) (by omega) (by unfold maxLen; omega) (by omega) (by first | omega | (simp; omega)) _ rfl ?_)
              intro gt capt wz hoz hgz hatz hltz
              have HX : Hid (MgSt w2 (mergedL lo la lb (N.take (j + 1))) (tornL lo la lb (N.take (j + 1))) _ (.slice (some ⟨gt, 0, none⟩) (tl + 1) capt) wz) := Lib.hid (by
                rw [HMX.out, HPT.out, if_neg (by simp)]
                have hl := HTL.out
                subst hl
                exact HST8.out.pushT hoz hgz (by simpa using hatz))
              clear hoz hgz hatz
              go_wp2_with fail
              go_roundw
              case rel => exact ⟨j + 1, by go_num, hj, HX⟩
              case measure => simp [intOf]; omega
            · have HX : Hid (MgSt w2 (mergedL lo la lb (N.take (j + 1))) (tornL lo la lb (N.take (j + 1))) _ (.slice At tl ct) (w7.alloc (.cells #[.int .i64 0, .int .i64 i7, .int .i64 t7, .string s7, .slice A7 m7 c7] 53))) := Lib.hid (by
                rw [HMX.out, HPT.out, if_pos rfl]
                exact HST8.out)
              go_wp2_with fail
              go_roundw
              case rel => exact ⟨j + 1, by go_num, hj, HX⟩
              case measure => simp [intOf]; omega
          · have HMX := Lib.hid (HPM1.out hk7)
            go_wp2_with (at_builtin; refine wpList_append_lies _ rfl _ _ 31 rfl w2.heap.size 59 i0 _ 6 80 Tryd.underlying31 hi0 hz0 hz1 hz2 rfl (by omega) (.slice Am ml cm) ml xs8 rfl (HU1.out.alloc _) ⟨w7.heap.size + 1, 0, none⟩ 1 1 [.string q, .int .i64 k7, .int .i64 i7, .int .i64 t7, .string s7, .slice A7 m7 c7] rfl rfl (by intro q' u hq'; have := six_news (w7.alloc (.cells #[.int .i64 k7, .int .i64 i7, .int .i64 t7, .string s7, .slice A7 m7 c7] 53)) _ _ _ _ _ _ 59 q' u hq'; simpa using this) (by simp [Value.oneCell']) (by omega) (by unfold maxLen; omega) (by omega) (by first | omega | (simp; omega)) (w7.heap.size + 1 + 1) (by simp) ?_)
            intro gg cap w9 ho9 hg9 hat9 hlt9
            have HS9 : Hid (MgSt w2 (M ++ [⟨q, .mk k7 i7 t7 s7 l7⟩]) T (.slice (some ⟨gg, 0, none⟩) (ml + 1) cap) (.slice At tl ct) w9) := Lib.hid (by
              have e1 := HML.out
              have e2 := HM7.out
              subst e1 e2
              exact HST8.out.pushM HU1.out HU2.out HU3.out HU4.out HU5.out (P := fun k => (P k ∨ (w5.alloc (.cells #[.int .i64 k3, .int .i64 i3, .int .i64 t3, .string s3, .slice A3 m3 c3] 53)).heap.size ≤ k) ∧ k < w7.heap.size) (HS7.out.keep (fun k hk => Below.heap_alloc _ _ _ hk.2) (fun _ h => h)) ⟨HQZ.out, hz7⟩ (fun k hk => by have := HFOOT.out k hk; exact ⟨by simp; omega, this.2⟩) ho9 hg9 (by simpa using hat9))
            clear ho9 hg9 hat9
            have hto := HS9.out.torn
            rw [HTL.out] at hto
            have HSTO := Lib.hid hto
            have hle29 := HS9.out.bel.size
            clear hto
            rcases ag with _ | _
            · go_wp2_with (at_builtin; refine wpList_append_lies _ rfl _ _ 35 rfl w2.heap.size 9 iS _ 1 16 Tryd.underlying35 hiS hy0 hy1 hy2 rfl (by omega) (.slice At tl ct) tl (T.map encStr) rfl (HSTO.out.alloc _) ⟨w9.heap.size, 0, none⟩ 1 1 [.string q] rfl rfl (by intro q' u hq'; have := one_news (w9) (.string q) 9 q' u hq'; simpa using this) (by simp [Value.oneCell']) (by omega) (by unfold maxLen; omega) (by omega) (by first | omega | (simp; omega)) _ rfl ?_)
              intro gt capt wz hoz hgz hatz hltz
              have HX : Hid (MgSt w2 (mergedL lo la lb (N.take (j + 1))) (tornL lo la lb (N.take (j + 1))) _ (.slice (some ⟨gt, 0, none⟩) (tl + 1) capt) wz) := Lib.hid (by
                rw [HMX.out, HPT.out, if_neg (by simp)]
                have hl := HTL.out
                subst hl
                exact HS9.out.pushT hoz hgz (by simpa using hatz))
              clear hoz hgz hatz
              go_wp2_with fail
              go_roundw
              case rel => exact ⟨j + 1, by go_num, hj, HX⟩
              case measure => simp [intOf]; omega
            · have HX : Hid (MgSt w2 (mergedL lo la lb (N.take (j + 1))) (tornL lo la lb (N.take (j + 1))) _ (.slice At tl ct) (w9)) := Lib.hid (by
                rw [HMX.out, HPT.out, if_pos rfl]
                exact HS9.out)
              go_wp2_with fail
              go_roundw
              case rel => exact ⟨j + 1, by go_num, hj, HX⟩
              case measure => simp [intOf]; omega
        · have p2 : ¬ (j : Int) < n := by omega
          have e1 : N.take j = N := List.take_of_length_le (by rw [← HN.out]; omega)
          rw [e1] at hM hT
          have hml : M.length = M.length := rfl
          have HF := Lib.hid (HR.out.lower HB2.out)
          have HE2 : Hid (err = if 20 < M.length then 4 else 0) := Lib.hid (by have := HE.out; rw [← hM] at this; simpa using this)
          have HBF := Lib.hid HBR2.out
          generalize hz : M.length = ml at HF HE2 ⊢
          clear h1 h2 h3 h4 h5
          by_cases hbig : 20 < ml
          · have p3 : (20 : Int) < ml := by omega
            go_wp2_with fail
            go_ret3
            have e3 : err = 4 := by have := HE2.out; rw [if_pos hbig] at this; exact this
            rw [e3]
            exact mergeGives_bad (by decide) HBF.out
          · have p3 : ¬ (20 : Int) < ml := by omega
            go_wp2_with fail
            go_ret3
            have e3 : err = 0 := by have := HE2.out; rw [if_neg hbig] at this; exact this
            rw [e3]
            exact ⟨_, _, rfl, by rw [if_pos rfl, if_pos rfl, ← hM, ← hT]; exact HF.out⟩
end Go.Proofs.YtfpiannnggkdiaaDoor
