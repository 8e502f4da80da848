/- Properties: the program's Get. Properties: a row of properties of one's own (pure); without. Properties: without. -/
import Derived.Test.YtfpiannnggkdiaaDoorAlX
import Derived.Deep.RegionWith
import Derived.Deep.AppendLies
import Derived.BigRegion
import Derived.Deep.RegionLaw
import Derived.Deep.RegionHeld3
namespace Go.Proofs.YtfpiannnggkdiaaDoor
open Go.RowKit Go.Shelf

structure GpRow (l : List PV) (q : ByteArray) (w : World) (j : Nat) (wx : World) : Prop where
  bel : Below w.heap.size w wx
  blk : wx.heap[w.heap.size]? = some resBox
  no : ∀ k (hk : k < l.length), k < j → (l[k].nm.toList == q.toList) = false
def GotIt (l : List PV) (q : ByteArray) (w : World) (e : Ending) (w' : World) : Prop :=
  ((∃ (j : Nat) (hj : j < l.length) (g : Value), (l[j].nm.toList == q.toList) = true ∧ (∀ k (hk : k < l.length), k < j → (l[k].nm.toList == q.toList) = false) ∧ VAt w' w'.heap.size l[j].val g ∧ e = .returned (.tuple #[g, .bool true])) ∨
    ((∀ k (hk : k < l.length), (l[k].nm.toList == q.toList) = false) ∧ e = .returned (.tuple #[.agg #[.int .i64 0, .int .i64 0, .int .i64 0, .string ⟨#[]⟩, .slice none 0 0], .bool false]))) ∧ Below w.heap.size w w'

set_option maxRecDepth 100000 in
set_option maxHeartbeats 8000000 in
theorem propGet_any (l : List PV) (q : ByteArray) (A : Option Addr) (c : Nat) (w : World) (hl : PSl w w.heap.size l (.slice A l.length c)) (hN : ∀ p ∈ l, nodesV p.val ≤ 1048576) :
    Calls Tryd.prog 41 #[.slice A l.length c, .string q] w (GotIt l q w) := by
  have hn : l.length ≤ 1048576 := by obtain ⟨_, _, e, h1, _⟩ := hl; exact h1
  have HSL := Lib.hid hl
  have HNO := Lib.hid hN
  obtain ⟨n, hnn⟩ : ∃ n, n = l.length := ⟨_, rfl⟩
  rw [← hnn] at hn HSL
  rw [show (Value.slice A l.length c) = Value.slice A n c from by rw [hnn]]
  have HN := Lib.hid hnn
  clear hl hnn hN
  go_enter Tryd.func41, Tryd.ntmps41
  go_wp2_with fail
  go_loopw [10] (fun iv wx => ∃ j : Nat, iv = .int .i64 j ∧ j ≤ n ∧ Hid (GpRow l q w j wx)) (fun iv _ => n - (intOf iv).toNat)
  case atStart => exact ⟨0, rfl, Nat.zero_le _, Lib.hid ⟨(Below.refl _ _).alloc (Nat.le_refl _) _, heap_alloc_new w _, fun _ _ h => absurd h (by omega)⟩⟩
  case round =>
    obtain ⟨j, rfl, hjl, HR⟩ := hrel
    by_cases hj : j < n
    · have hj2 : j < l.length := by rw [← HN.out]; exact hj
      have p2 : (j : Int) < n := by omega
      obtain ⟨b, off, nm, kx, ix, tx, sx, lx, Ax, cx, rfl, hx, hlt, gn, g0, g1, g2, g3, g4, hnz, gz, gl, gs, hpv⟩ := prop_item (by rw [← HN.out]; exact HSL.out) hj2
      replace gn := (HR.out.bel.cell (p := ⟨b, off + j * 6, none⟩) hlt).trans gn
      replace g0 := (HR.out.bel.cell (p := ⟨b, off + j * 6 + 1, none⟩) hlt).trans g0
      replace g1 := (HR.out.bel.cell (p := ⟨b, off + j * 6 + 2, none⟩) hlt).trans g1
      replace g2 := (HR.out.bel.cell (p := ⟨b, off + j * 6 + 3, none⟩) hlt).trans g2
      replace g3 := (HR.out.bel.cell (p := ⟨b, off + j * 6 + 4, none⟩) hlt).trans g3
      replace g4 := (HR.out.bel.cell (p := ⟨b, off + j * 6 + 5, none⟩) hlt).trans g4
      have hnx : l[j].nm = nm := by rw [hx]
      have hno := HNO.out l[j] (List.getElem_mem hj2)
      rw [hx] at hno
      have hno' : nodesL lx ≤ 1048576 := by rw [show nodesV (PV.val ⟨nm, .mk kx ix tx sx lx⟩) = 1 + nodesL lx from nodesV_mk _ _ _ _ _] at hno; omega
      have HCO := Lib.hid (fun W (hW : Below w.heap.size w W) => copyOf_any kx ix tx sx lx Ax cx w.heap.size W hW.size gz (gs.below hW (Nat.le_refl _)) hno')
      have HV : Hid (∀ (W : World) A' c', SlAt W W.heap.size lx (.slice A' lx.length c') → VAt W W.heap.size l[j].val (.agg #[.int .i64 kx, .int .i64 ix, .int .i64 tx, .string sx, .slice A' lx.length c'])) := Lib.hid (fun W A' c' h => by rw [hx]; exact ⟨gz, _, rfl, h⟩)
      have HNX := Lib.hid hnx
      have hszw := HR.out.bel.size
      have hszl := lt_of_blkC HR.out.blk
      obtain ⟨m, hm⟩ : ∃ m, m = lx.length := ⟨_, rfl⟩
      rw [← hm] at g4 HCO HV
      have HM := Lib.hid hm
      clear gs hm hx hpv hnx gl gz hno hno'
      rcases he : (nm.toList == q.toList) with _ | _
      · have HNOX : Hid (∀ k (hk : k < l.length), k < j + 1 → (l[k].nm.toList == q.toList) = false) := Lib.hid (by
          intro k hk hk2
          by_cases hkj : k < j
          · exact HR.out.no k hk hkj
          · obtain rfl : k = j := by omega
            rw [HNX.out]; exact he)
        go_wp2_with fail
        go_roundw
        case rel => exact ⟨j + 1, by go_num, hj, Lib.hid ⟨HR.out.bel.alloc hszw _, ((Below.refl _ _).alloc (Nat.le_refl _) _).block _ hszl |>.trans HR.out.blk, HNOX.out⟩⟩
        case measure => simp [intOf]; omega
      · have HNOY := Lib.hid HR.out.no
        have HBL := Lib.hid HR.out.bel
        have HBK := Lib.hid HR.out.blk
        go_wp2_with fail
        refine (HCO.out _ (HBL.out.alloc hszw _)).mono ?_
        rintro e3 w3 ⟨A', c', rfl, hs3, hb3⟩
        have HB3 := Lib.hid ((HBL.out.alloc hszw _).trans (hb3.mono (by simp; omega)))
        have hblk3 : w3.heap[w.heap.size]? = some resBox := by
          rw [hb3.block _ (by simp; omega), Below.heap_alloc _ _ _ hszl]
          exact HBK.out
        unfold resBox at hblk3
        have r0 := cell_of_row w3 w.heap.size 0 _ _ (0, 0) hblk3
        have r1 := cell_of_row w3 w.heap.size 1 _ _ (0, 0) hblk3
        have r2 := cell_of_row w3 w.heap.size 2 _ _ (0, 0) hblk3
        have r3 := cell_of_row w3 w.heap.size 3 _ _ (0, 0) hblk3
        have r4 := cell_of_row w3 w.heap.size 4 _ _ (0, 0) hblk3
        have f0 := frozen_of_row w3 w.heap.size 0 _ _ hblk3
        have f1 := frozen_of_row w3 w.heap.size 1 _ _ hblk3
        have f2 := frozen_of_row w3 w.heap.size 2 _ _ hblk3
        have f3 := frozen_of_row w3 w.heap.size 3 _ _ hblk3
        have f4 := frozen_of_row w3 w.heap.size 4 _ _ hblk3
        have HS3 : Hid (∀ wf : World, (∀ b, b ≠ w.heap.size → wf.heap[b]? = w3.heap[b]?) → wf.heap.size = w3.heap.size → SlAt wf wf.heap.size lx (.slice A' m c')) := Lib.hid (fun wf hk hs => by
          have h1 := hs3.keep (w' := wf) (G := fun b => b < wf.heap.size) (fun b hb => hk b (fun e => by rcases hb.1 with h | h; omega; simp at h; omega)) (fun b hb => by rw [hs]; exact hb.2)
          exact h1.toAt (fun _ h => h))
        clear hb3 hblk3 hs3
        go_wp2_with fail
        (try simp only [Exit.inBlock, Exit.then])
        refine bodyPost_ret (v := .tuple #[.agg #[.int .i64 kx, .int .i64 ix, .int .i64 tx, .string sx, .slice A' m c'], .bool true]) ?_ rfl ?_
        · simp [results, Tryd.f41]
          go_simp
        · refine ⟨.inl ⟨j, hj2, _, by rw [HNX.out]; exact he, HNOY.out, HV.out _ _ _ (HS3.out _ (fun b hb => by simp [World.setCell, Array.getElem?_modify, Ne.symm hb]) (by simp [World.setCell])), rfl⟩, ?_⟩
          exact (((((HB3.out.setCell (Nat.le_refl _) _).setCell (Nat.le_refl _) _).setCell (Nat.le_refl _) _).setCell (Nat.le_refl _) _).setCell (Nat.le_refl _) _)
    · have p2 : ¬ (j : Int) < n := by omega
      have hb := HR.out.blk
      unfold resBox at hb
      have r0 := cell_of_row wr w.heap.size 0 _ _ (0, 0) hb
      have r1 := cell_of_row wr w.heap.size 1 _ _ (0, 0) hb
      have r2 := cell_of_row wr w.heap.size 2 _ _ (0, 0) hb
      have r3 := cell_of_row wr w.heap.size 3 _ _ (0, 0) hb
      have r4 := cell_of_row wr w.heap.size 4 _ _ (0, 0) hb
      have f0 := frozen_of_row wr w.heap.size 0 _ _ hb
      have f1 := frozen_of_row wr w.heap.size 1 _ _ hb
      have f2 := frozen_of_row wr w.heap.size 2 _ _ hb
      have f3 := frozen_of_row wr w.heap.size 3 _ _ hb
      have f4 := frozen_of_row wr w.heap.size 4 _ _ hb
      have HB := Lib.hid HR.out.bel
      have HNO2 := Lib.hid HR.out.no
      clear hb
      go_wp2_with fail
      (try simp only [Exit.inBlock, Exit.then])
      refine bodyPost_ret (v := .tuple #[.agg #[.int .i64 0, .int .i64 0, .int .i64 0, .string ⟨#[]⟩, .slice none 0 0], .bool false]) ?_ rfl ?_
      · simp [results, Tryd.f41]
        go_simp
      · refine ⟨.inr ⟨fun k hk => by have h := HNO2.out k hk (by rw [← HN.out] at hk; omega); simpa using h, rfl⟩, ?_⟩
        exact (((((HB.out.setCell (Nat.le_refl _) _).setCell (Nat.le_refl _) _).setCell (Nat.le_refl _) _).setCell (Nat.le_refl _) _).setCell (Nat.le_refl _) _)
end Go.Proofs.YtfpiannnggkdiaaDoor
namespace Go.Proofs.YtfpiannnggkdiaaDoor
open Go.RowKit Go.Shelf

/-- The cells of a row of properties; the values' items lie in blocks of F. -/
def PRep (w : World) (F : Nat → Prop) : List PV → List Value → Prop
  | [], xs => xs = []
  | ⟨nm, .mk k i t s l⟩ :: r, xs => ∃ A c ys, xs = .string nm :: .int .i64 k :: .int .i64 i :: .int .i64 t :: .string s :: .slice A l.length c :: ys ∧ nm.size ≤ 1048576 ∧ s.size ≤ 1048576 ∧ SlF w F l (.slice A l.length c) ∧ PRep w F r ys
theorem PRep.keep {w w' : World} {F G : Nat → Prop} (hk : ∀ b, F b → w'.heap[b]? = w.heap[b]?) (hFG : ∀ b, F b → G b) : ∀ {l : List PV} {xs : List Value}, PRep w F l xs → PRep w' G l xs
  | [], _, h => h
  | ⟨nm, .mk k i t s l⟩ :: r, xs, h => by
    obtain ⟨A, c, ys, h1, h2, h3, h4, h5⟩ := h
    exact ⟨A, c, ys, h1, h2, h3, h4.keep hk hFG, PRep.keep hk hFG h5⟩
theorem PRep.snoc {w : World} {F : Nat → Prop} {nm : ByteArray} {k i t : Int} {s : ByteArray} {l : List V} {A : Option Addr} {c : Nat} (h1 : nm.size ≤ 1048576) (h2 : s.size ≤ 1048576) (h3 : SlF w F l (.slice A l.length c)) : ∀ {L : List PV} {xs : List Value}, PRep w F L xs → PRep w F (L ++ [⟨nm, .mk k i t s l⟩]) (xs ++ [.string nm, .int .i64 k, .int .i64 i, .int .i64 t, .string s, .slice A l.length c])
  | [], xs, h => by
    have h : xs = [] := h
    subst h
    exact ⟨A, c, [], rfl, h1, h2, h3, rfl⟩
  | ⟨nm', .mk k' i' t' s' l'⟩ :: r, xs, h => by
    obtain ⟨A', c', ys, rfl, g2, g3, g4, g5⟩ := h
    exact ⟨A', c', _, rfl, g2, g3, g4, PRep.snoc h1 h2 h3 g5⟩
def woL (l : List PV) (q : ByteArray) : List PV := l.filter fun p => !(p.nm.toList == q.toList)
theorem infoPr : (Tryd.prog.info? 59).map (fun i => (i.zero, i.size, i.bytes)) = some (some (.agg #[.string ⟨#[]⟩, .int .i64 0, .int .i64 0, .int .i64 0, .string ⟨#[]⟩, .slice none 0 0]), 6, 80) := by kernel_rfl
/-- A list of properties of one's own. -/
structure PrOwn (w : World) (B0 : Nat) (L : List PV) (v : Value) (wx : World) : Prop where
  bel : Below w.heap.size w wx
  rep : ∃ (F : Nat → Prop) (xs : List Value), wx.ownsRow w.heap.size 59 6 v L.length xs ∧ PRep wx F L xs ∧ (∀ b, F b → b < wx.heap.size ∧ (b < B0 ∨ w.heap.size ≤ b)) ∧ (∀ g, v.ownBlock = some g → ¬ F g)
theorem woL_no {l : List PV} {q : ByteArray} {j : Nat} (hj : j < l.length) (h : (l[j].nm.toList == q.toList) = true) : woL (l.take (j + 1)) q = woL (l.take j) q := by
  unfold woL
  rw [List.take_succ_eq_append_getElem hj, List.filter_append]
  simp [h]
theorem woL_yes {l : List PV} {q : ByteArray} {j : Nat} (hj : j < l.length) (h : (l[j].nm.toList == q.toList) = false) : woL (l.take (j + 1)) q = woL (l.take j) q ++ [l[j]] := by
  unfold woL
  rw [List.take_succ_eq_append_getElem hj, List.filter_append]
  simp [h]
theorem woL_len (l : List PV) (q : ByteArray) : (woL l q).length ≤ l.length := List.length_filter_le _ _
end Go.Proofs.YtfpiannnggkdiaaDoor
namespace Go.Proofs.YtfpiannnggkdiaaDoor
open Go.RowKit Go.Shelf

theorem below_dr {B : Nat} {a w : World} (h : Below B a w) : Below B a w.drew := ⟨h.os, h.tape, h.output, h.size, h.block⟩
theorem keep_boxU {w w3 : World} {o : Obj} (hb : Below (w.alloc o).drew.heap.size (w.alloc o).drew w3) : Below w.heap.size w w3 ∧ w3.heap[w.heap.size]? = some o := by
  have h1 : Below (w.alloc o).heap.size (w.alloc o) w3 := ⟨hb.os, hb.tape, hb.output, hb.size, hb.block⟩
  exact ⟨((Below.refl _ w).alloc (Nat.le_refl _) o).trans (h1.mono (by simp)), (h1.block _ (by simp)).trans (heap_alloc_new w o)⟩
theorem own_shape {w : World} {base n size : Nat} {e : TypeId} {v : Value} {xs : List Value} (h : w.ownsRow base e size v n xs) : ∃ A c, v = .slice A n c := by
  rcases h.2 with ⟨e1, e2⟩ | ⟨g, cap, cur, e1, _⟩
  · exact ⟨none, 0, by rw [e1, e2]⟩
  · exact ⟨_, cap, e1⟩
theorem pr_next {w wr w3 w4 : World} {L : List PV} {F : Nat → Prop} {xs : List Value} {A0 A' : Option Addr} {c0 c' : Nat} {nm sx : ByteArray} {kx ix tx : Int} {lx : List V} {o : Obj} {gg cap : Nat}
    (hw : Below w.heap.size w wr) (hown : wr.ownsRow w.heap.size 59 6 (.slice A0 L.length c0) L.length xs) (hrep : PRep wr F L xs) (hF : ∀ b, F b → b < wr.heap.size ∧ (b < w.heap.size ∨ w.heap.size ≤ b)) (hFo : ∀ g, (Value.slice A0 L.length c0).ownBlock = some g → ¬ F g)
    (hb4 : Below wr.heap.size wr w3) (hs3 : SlF w3 (fun b => (b < w.heap.size ∨ wr.heap.size + 1 ≤ b) ∧ b < w3.heap.size) lx (.slice A' lx.length c')) (hz : nm.size ≤ 1048576 ∧ sx.size ≤ 1048576)
    (ho4 : w4.ownsRow 0 59 6 (.slice (some ⟨gg, 0, none⟩) (L.length + 1) cap) (L.length + 1) (xs ++ [.string nm, .int .i64 kx, .int .i64 ix, .int .i64 tx, .string sx, .slice A' lx.length c']))
    (hg : (w3.alloc o).grownBy w4 (Value.slice A0 L.length c0).ownBlock) (hat : (Value.slice A0 L.length c0).ownBlock = some gg ∨ gg = w3.heap.size + 1) :
    PrOwn w w.heap.size (L ++ [⟨nm, .mk kx ix tx sx lx⟩]) (.slice (some ⟨gg, 0, none⟩) (L.length + 1) cap) w4 := by
  have hsz := hw.size
  have hsz3 := hb4.size
  have hsz4 := hg.size
  simp only [World.size_alloc] at hsz4
  have hlt : ∀ g, (Value.slice A0 L.length c0).ownBlock = some g → w.heap.size ≤ g ∧ g < wr.heap.size := fun g hg => hown.lt g hg
  have hk4 : ∀ b, b < w3.heap.size → (Value.slice A0 L.length c0).ownBlock ≠ some b → w4.heap[b]? = w3.heap[b]? := fun b hb hne => by
    rw [hg.block b (by simp; omega) (fun e => hne e.symm)]
    exact Below.heap_alloc _ _ _ hb
  have hgg : w.heap.size ≤ gg := by
    rcases hat with h | h
    · exact (hlt gg h).1
    · omega
  refine ⟨((hw.trans (hb4.mono hsz)).alloc (by omega) o).grown hg (by simp; omega) (fun k hk => (hlt k hk).1), fun b => F b ∨ ((b < w.heap.size ∨ wr.heap.size + 1 ≤ b) ∧ b < w3.heap.size), _, ?_,
    PRep.snoc hz.1 hz.2 (hs3.keep (fun b hb => hk4 b hb.2 (fun e => ?_)) (fun b hb => .inr hb)) (hrep.keep (fun b hb => ?_) (fun b hb => .inl hb)), fun b hb => ?_, fun g hg2 => ?_⟩
  · rw [List.length_append]
    refine own_rebase ho4 (fun g hg2 => ?_)
    simp only [Value.ownBlock, Option.some.injEq] at hg2
    omega
  · have := hlt b e
    omega
  · rw [hk4 b (by have := (hF b hb).1; omega) (fun e => hFo b e hb)]
    exact hb4.block b (hF b hb).1
  · rcases hb with hb | hb
    · exact ⟨by have := (hF b hb).1; omega, (hF b hb).2⟩
    · exact ⟨by have := hb.2; omega, by rcases hb.1 with h | h; exact .inl h; exact .inr (by omega)⟩
  · simp only [Value.ownBlock, Option.some.injEq] at hg2
    subst hg2
    rcases hat with h | h
    · rintro (h1 | h1)
      · exact hFo _ h h1
      · have := hlt _ h
        omega
    · rintro (h1 | h1)
      · have := (hF _ h1).1; omega
      · omega
theorem own_thru {w w' : World} {base n size : Nat} {e : TypeId} {v : Value} {xs : List Value} (h : w.ownsRow base e size v n xs) (hb : Below w.heap.size w w') : w'.ownsRow 0 e size v n xs :=
  own_rebase (own_kept h (fun g hg => hb.block g (h.lt g hg).2)) (fun _ _ => Nat.zero_le _)
theorem six_news (w : World) (a b c d e f : Value) (T : TypeId) : ∀ q u, [a, b, c, d, e, f][q]? = some u → (w.alloc (.cells #[a, b, c, d, e, f] T)).cell? ((⟨w.heap.size, 0, none⟩ : Addr).add q) = some u := by
  intro q u hq
  have h := heap_alloc_new w (.cells #[a, b, c, d, e, f] T)
  have e1 : (⟨w.heap.size, 0, none⟩ : Addr).add q = ⟨w.heap.size, q, none⟩ := by
    unfold Addr.add
    split
    · rename_i h0; subst h0; rfl
    · simp
  rw [e1, cell_of_row _ _ q _ _ (0, 0) h, List.getElem?_toArray]
  exact hq
end Go.Proofs.YtfpiannnggkdiaaDoor
