/- Lists of strings of one's own: appended to, sorted, compacted. The program's namesOf. Values by the blocks in which they lie; mergeItems: where its items lie. (Made by gen_mgp.py.) The program's mergeValues, and where its value lies: the walk. (Made by gen_mgp.py.) -/
import Derived.Test.YtfpiannnggkdiaaDoorMdX
import Derived.Test.YtfpiannnggkdiaaDoorShelfT
import Derived.Sort.OwnSorted
namespace Go.Proofs.YtfpiannnggkdiaaDoor
open Go.RowKit Go.Shelf Go.Sort

theorem infoStrN : (Tryd.prog.info? 9).map (fun i => (i.zero, i.size, i.bytes)) = some (some (.string ⟨#[]⟩), 1, 16) := by kernel_rfl
/-- A list of strings of one's own behind a start. -/
structure OwnS (W : World) (base : Nat) (L : List (List UInt8)) (v : Value) (wx : World) : Prop where
  bel : Below base W wx
  le : base ≤ wx.heap.size
  own : wx.ownsRow base 9 1 v L.length (L.map encStr)
theorem OwnS.nil {W wx : World} {base : Nat} (hb : Below base W wx) (hl : base ≤ wx.heap.size) : OwnS W base [] (.slice none 0 0) wx := ⟨hb, hl, World.ownsRow_nil _ _ _ _⟩
theorem OwnS.alloc {W wx : World} {base : Nat} {L : List (List UInt8)} {v : Value} (h : OwnS W base L v wx) (o : Obj) : OwnS W base L v (wx.alloc o) :=
  ⟨h.bel.alloc h.le o, by simp; have := h.le; omega, h.own.alloc o⟩
theorem OwnS.push {W w w4 : World} {base : Nat} {L : List (List UInt8)} {v : Value} (h : OwnS W base L v w) {x : ByteArray} {gg cap : Nat}
    (ho4 : w4.ownsRow base 9 1 (.slice (some ⟨gg, 0, none⟩) (L.length + 1) cap) (L.length + 1) (L.map encStr ++ [.string x])) (hg : w.grownBy w4 v.ownBlock) :
    OwnS W base (L ++ [x.data.toList]) (.slice (some ⟨gg, 0, none⟩) (L.length + 1) cap) w4 := by
  have hsz := hg.size
  have hle := h.le
  refine ⟨h.bel.grown hg hle (fun k hk => (h.own.lt k hk).1), by omega, ?_⟩
  rw [List.length_append, List.map_append]
  exact ho4
theorem one_news (w : World) (a : Value) (T : TypeId) : ∀ q u, [a][q]? = some u → (w.alloc (.cells #[a] T)).cell? ((⟨w.heap.size, 0, none⟩ : Addr).add q) = some u := by
  intro q u hq
  have h := heap_alloc_new w (.cells #[a] T)
  have e1 : (⟨w.heap.size, 0, none⟩ : Addr).add q = ⟨w.heap.size, q, none⟩ := by
    unfold Addr.add
    split
    · rename_i h0; subst h0; rfl
    · simp
  rw [e1, cell_of_row _ _ q _ _ (0, 0) h, List.getElem?_toArray]
  exact hq
def sortS (L : List (List UInt8)) : List (List UInt8) := L.mergeSort fun x y => decide (x ≤ y)
theorem sortS_len (L : List (List UInt8)) : (sortS L).length = L.length := List.length_mergeSort L
theorem compact_len (L : List (List UInt8)) : (Lib.compact L).length ≤ L.length := by
  unfold Lib.compact Lib.compactUpTo
  rw [List.length_map]
  exact Nat.le_trans (List.length_filter_le ..) (by simp)
/-- slices.Sort at strings, of any list of one's own. -/
theorem strSort_any (L : List (List UInt8)) (v : Value) (base : Nat) (W w : World) (hn : L.length ≤ 1099511627776) (ho : OwnS W base L v w) :
    Calls Tryd.prog 59 #[v] w fun e w' => e = .returned (.tuple #[]) ∧ OwnS W base (sortS L) v w' := by
  have hle := ho.le
  rcases ho.own.2 with ⟨rfl, h0⟩ | ⟨g, cap, cur, rfl, hbase, hb, h1, h2, h3, h4⟩
  · obtain rfl : L = [] := List.eq_nil_of_length_eq_zero h0
    refine (Any.slices_Sort_string_none Tryd.sortStr none 0 w).mono ?_
    rintro e w' ⟨rfl, rfl⟩
    exact ⟨rfl, by rw [show sortS [] = [] by simp [sortS]]; exact ho⟩
  · have hlt := (ho.own.lt g rfl).2
    refine (Any.slices_Sort_string Tryd.sortStr g 0 cap L w (holds_of_block hb (by simpa using h4)) hlt (by omega)).mono ?_
    rintro e w' ⟨rfl, n, os, rfl⟩
    have hG := grownBy_sorted (w := w) (g := g) (n := n) (os := os) (sortS L).toArray
    have hsz := hG.size
    refine ⟨rfl, ho.bel.grown hG hle (fun k hk => by obtain rfl : g = k := (by simpa using hk); exact hbase), by unfold sortS at hsz; omega, ?_⟩
    rw [sortS_len]
    exact ownsRow_sorted (sortS_len L) hbase hb h1 h2 h3
/-- slices.Compact at strings, of any list of one's own. -/
theorem strCompact_any (L : List (List UInt8)) (v : Value) (base : Nat) (W w : World) (hn : L.length ≤ 1099511627776) (ho : OwnS W base L v w) :
    Calls Tryd.prog 60 #[v] w fun e w' => ∃ v', e = .returned v' ∧ OwnS W base (Lib.compact L) v' w' := by
  have hle := ho.le
  rcases ho.own.2 with ⟨rfl, h0⟩ | ⟨g, cap, cur, rfl, hbase, hb, h1, h2, h3, h4⟩
  · obtain rfl : L = [] := List.eq_nil_of_length_eq_zero h0
    refine (Any.slices_Compact_string_empty Tryd.compactStr none 0 w).mono ?_
    rintro e w' ⟨rfl, rfl⟩
    exact ⟨_, rfl, by rw [show Lib.compact ([] : List (List UInt8)) = [] from rfl]; exact ho⟩
  · have hlt := (ho.own.lt g rfl).2
    have hcl := compact_len L
    refine (Any.slices_Compact_string Tryd.compactStr g 0 cap L w (holds_of_block hb (by simpa using h4)) (by omega) h1).mono ?_
    rintro e w' ⟨rfl, q, rfl⟩
    obtain ⟨d, hd⟩ : ∃ d, d = Lib.compact L ++ List.replicate (L.length - (Lib.compact L).length) [] := ⟨_, rfl⟩
    have hdl : d.length = L.length := by rw [hd, List.length_append, List.length_replicate]; omega
    have hG := grownBy_sorted (w := w) (g := g) (n := q) (os := #[]) d.toArray
    rw [grow_empty] at hG
    have hsz := hG.size
    have hO := ownsRow_sorted (w := w) (n := q) (os := #[]) (ts := d) hdl hbase hb h1 h2 h3
    rw [grow_empty] at hO
    rw [← hd]
    refine ⟨_, rfl, ho.bel.grown hG hle (fun k hk => by obtain rfl : g = k := (by simpa using hk); exact hbase), by omega, ?_⟩
    rcases hO.2 with ⟨h', _⟩ | ⟨g', cap', cur', h', u1, u2, u3, u4, u5, u6⟩
    · simp at h'
    · simp only [Value.slice.injEq, Option.some.injEq, Addr.mk.injEq, and_true, true_and] at h'
      obtain ⟨rfl, rfl⟩ := h'
      refine ⟨by simp, .inr ⟨g, cap, cur', rfl, u1, u2, by omega, u4, u5, ?_⟩⟩
      have := congrArg (List.take (Lib.compact L).length) u6
      rw [List.take_take, Nat.mul_one, Nat.min_eq_left (by omega), hd, List.map_append, List.take_left' (by simp)] at this
      rw [Nat.mul_one]
      exact this
end Go.Proofs.YtfpiannnggkdiaaDoor
namespace Go.Proofs.YtfpiannnggkdiaaDoor
open Go.RowKit Go.Shelf Go.Sort

def namesL (l : List PV) : List (List UInt8) := l.map (·.nm.data.toList)
def allNames (Ls : List (List PV)) : List (List UInt8) := Ls.flatMap namesL
def namesS (Ls : List (List PV)) : List (List UInt8) := Lib.compact (sortS (allNames Ls))
/-- Lists of properties, one cell each, in a block. -/
structure ListsAt (w : World) (b : Nat) (Ls : List (List PV)) : Prop where
  lt : b < w.heap.size
  cell : ∀ j (h : j < Ls.length), ∃ A c, w.cell? ⟨b, j, none⟩ = some (.slice A Ls[j].length c) ∧ PSl w w.heap.size Ls[j] (.slice A Ls[j].length c)
theorem allNames_len : ∀ Ls : List (List PV), (∀ l ∈ Ls, l.length ≤ 1048576) → (allNames Ls).length ≤ Ls.length * 1048576
  | [], _ => by simp [allNames]
  | l :: Ls, h => by
    have h1 := allNames_len Ls (fun x hx => h x (List.mem_cons_of_mem _ hx))
    have h2 := h l (List.mem_cons_self ..)
    unfold allNames at h1 ⊢
    rw [List.flatMap_cons, List.length_append, List.length_cons]
    simp only [namesL, List.length_map]
    omega
theorem allNames_snoc {Ls : List (List PV)} {j : Nat} (hj : j < Ls.length) : allNames (Ls.take (j + 1)) = allNames (Ls.take j) ++ namesL Ls[j] := by
  unfold allNames
  rw [List.take_succ_eq_append_getElem hj, List.flatMap_append, List.flatMap_cons, List.flatMap_nil, List.append_nil]
theorem namesL_snoc {l : List PV} {i : Nat} (hi : i < l.length) : namesL (l.take (i + 1)) = namesL (l.take i) ++ [l[i].nm.data.toList] := by
  unfold namesL
  rw [List.take_succ_eq_append_getElem hi, List.map_append]
  rfl
set_option maxRecDepth 100000 in
set_option maxHeartbeats 8000000 in
theorem namesOf_any (Ls : List (List PV)) (b c : Nat) (w : World) (hLs : Ls.length ≤ 1000) (hl : ListsAt w b Ls) :
    Calls Tryd.prog 40 #[.slice (some ⟨b, 0, none⟩) Ls.length c] w fun e w' => ∃ v, e = .returned v ∧ OwnS w w.heap.size (namesS Ls) v w' := by
  have hlen : ∀ l ∈ Ls, l.length ≤ 1048576 := fun l hx => by
    obtain ⟨j, hj, rfl⟩ := List.mem_iff_getElem.1 hx
    obtain ⟨A, c, _, A', c', e, h1, _⟩ := hl.cell j hj
    exact h1
  have HLEN := Lib.hid hlen
  have HSL := Lib.hid hl
  obtain ⟨i0, hi, hz0, hz1, hz2⟩ := info_parts infoStrN
  have hblt := hl.lt
  obtain ⟨n, hnn⟩ : ∃ n, n = Ls.length := ⟨_, rfl⟩
  rw [← hnn] at hLs ⊢
  have HN := Lib.hid hnn
  clear hl hnn hlen
  go_enter Tryd.func40, Tryd.ntmps40
  go_wp2_with fail
  go_loopw [3, 10] (fun ov iv wx => ∃ j : Nat, iv = .int .i64 j ∧ j ≤ n ∧ Hid (OwnS w w.heap.size (allNames (Ls.take j)) ov wx)) (fun _ iv _ => n - (intOf iv).toNat)
  case atStart => exact ⟨0, rfl, Nat.zero_le _, Lib.hid (OwnS.nil (Below.refl _ _) (Nat.le_refl _))⟩
  case round =>
    obtain ⟨j, rfl, hjl, HR⟩ := hrel
    by_cases hj : j < n
    · have hj2 : j < Ls.length := by rw [← HN.out]; exact hj
      have p2 : (j : Int) < n := by omega
      obtain ⟨A, cA, hcell, hps⟩ := HSL.out.cell j hj2
      have hcell2 := (HR.out.bel.cell (p := ⟨b, j, none⟩) hblt).trans hcell
      have hm0 := HLEN.out Ls[j] (List.getElem_mem hj2)
      obtain ⟨l, hlj⟩ : ∃ l, l = Ls[j] := ⟨_, rfl⟩
      rw [← hlj] at hcell2 hps hm0
      have HL := Lib.hid hlj
      have HPS := Lib.hid hps
      obtain ⟨m, hm⟩ : ∃ m, m = l.length := ⟨_, rfl⟩
      rw [← hm] at hcell2 HPS hm0
      have HM := Lib.hid hm
      have hbound : (allNames (Ls.take j)).length ≤ 1000 * 1048576 := by
        refine Nat.le_trans (allNames_len _ (fun x hx => HLEN.out x (List.mem_of_mem_take hx))) (Nat.mul_le_mul_right _ ?_)
        rw [List.length_take]; omega
      clear hcell hps hlj hm
      go_wp2_with fail
      go_loopw [3, 16] (fun ov iv wx => ∃ i : Nat, iv = .int .i64 i ∧ i ≤ m ∧ Hid (OwnS w w.heap.size (allNames (Ls.take j) ++ namesL (l.take i)) ov wx)) (fun _ iv _ => m - (intOf iv).toNat)
      case atStart => exact ⟨0, rfl, Nat.zero_le _, Lib.hid (by rw [List.take_zero, show namesL [] = [] from rfl, List.append_nil]; exact HR.out)⟩
      case round =>
        obtain ⟨i, rfl, hil, HI⟩ := hrel
        by_cases hi2 : i < m
        · have hi3 : i < l.length := by rw [← HM.out]; exact hi2
          have p3 : (i : Int) < m := by omega
          obtain ⟨b1, off, nm, kx, ix, tx, sx, lx, Ax, cx, rfl, hx, hlt, gn, g0, g1, g2, g3, g4, _⟩ := prop_item (by rw [← HM.out]; exact HPS.out) hi3
          have hbel := HI.out.bel
          replace gn := (hbel.cell (p := ⟨b1, off + i * 6, none⟩) hlt).trans gn
          replace g0 := (hbel.cell (p := ⟨b1, off + i * 6 + 1, none⟩) hlt).trans g0
          replace g1 := (hbel.cell (p := ⟨b1, off + i * 6 + 2, none⟩) hlt).trans g1
          replace g2 := (hbel.cell (p := ⟨b1, off + i * 6 + 3, none⟩) hlt).trans g2
          replace g3 := (hbel.cell (p := ⟨b1, off + i * 6 + 4, none⟩) hlt).trans g3
          replace g4 := (hbel.cell (p := ⟨b1, off + i * 6 + 5, none⟩) hlt).trans g4
          have hszw := HI.out.le
          have hnx : l[i].nm = nm := by rw [hx]
          have HE : Hid (allNames (Ls.take j) ++ namesL (l.take (i + 1)) = (allNames (Ls.take j) ++ namesL (l.take i)) ++ [nm.data.toList]) := Lib.hid (by rw [namesL_snoc hi3, hnx, List.append_assoc])
          have hfl : (allNames (Ls.take j) ++ namesL (l.take i)).length ≤ 1001 * 1048576 := by
            rw [List.length_append]
            simp only [namesL, List.length_map, List.length_take]
            omega
          obtain ⟨N, hN⟩ : ∃ N, N = allNames (Ls.take j) ++ namesL (l.take i) := ⟨_, rfl⟩
          rw [← hN] at HI HE hfl
          obtain ⟨A0, c0, rfl⟩ := own_shape HI.out.own
          obtain ⟨fl, hfl2⟩ : ∃ fl, fl = N.length := ⟨_, rfl⟩
          have HFL := Lib.hid hfl2
          have HOW := Lib.hid HI.out.own
          rw [← hfl2] at hfl HOW ⊢
          generalize lx.length = m4 at g4
          clear hx hnx hN hfl2 hbel
          go_wp2_with (at_builtin; refine wpList_append_lies _ rfl _ _ 35 rfl w.heap.size 9 i0 _ 1 16 Tryd.underlying35 hi hz0 hz1 hz2 rfl (by omega) (.slice A0 fl c0) fl (N.map encStr) rfl ((HOW.out.alloc _).alloc _) ⟨wr.heap.size + 1, 0, none⟩ 1 1 [.string nm] rfl rfl (by intro q u hq; have := one_news (wr.alloc (.cells #[.string nm, .int .i64 kx, .int .i64 ix, .int .i64 tx, .string sx, .slice Ax m4 cx] 59)) (.string nm) 9 q u hq; simpa using this) (by simp [Value.oneCell']) (by omega) (by unfold maxLen; omega) (by omega) (by simp; omega) _ rfl ?_)
          intro gg cap w4 ho4 hg4 hat4 hlt4
          have HX : Hid (OwnS w w.heap.size (N ++ [nm.data.toList]) (.slice (some ⟨gg, 0, none⟩) (fl + 1) cap) w4) := Lib.hid (by
            have hf := HFL.out
            subst hf
            exact ((HI.out.alloc _).alloc _).push ho4 hg4)
          clear ho4 hg4 hat4
          go_wp2_with fail
          go_roundw
          case rel => exact ⟨i + 1, by go_num, hi2, Lib.hid (by rw [HE.out]; exact HX.out)⟩
          case measure => simp [intOf]; omega
        · have p3 : ¬ (i : Int) < m := by omega
          have HX : Hid (OwnS w w.heap.size (allNames (Ls.take (j + 1))) _ _) := Lib.hid (by
            have h := HI.out
            have e1 : l.take i = l := List.take_of_length_le (by rw [← HM.out]; omega)
            rw [e1, HL.out, ← allNames_snoc hj2] at h
            exact h)
          clear HI
          go_wp2_with fail
          go_roundw
          case rel => exact ⟨j + 1, by go_num, hj, HX⟩
          case measure => simp [intOf]; omega
    · have p2 : ¬ (j : Int) < n := by omega
      have HX : Hid (OwnS w w.heap.size (allNames Ls) _ _) := Lib.hid (by
        have h := HR.out
        have e1 : Ls.take j = Ls := List.take_of_length_le (by rw [← HN.out]; omega)
        rw [e1] at h
        exact h)
      have hb3 : (allNames Ls).length ≤ 1000 * 1048576 := Nat.le_trans (allNames_len _ HLEN.out) (Nat.mul_le_mul_right _ (by rw [← HN.out]; omega))
      have HS := Lib.hid (strSort_any (allNames Ls) _ w.heap.size w wr (by omega) HX.out)
      have hb4 : (sortS (allNames Ls)).length ≤ 1000 * 1048576 := by rw [sortS_len]; exact hb3
      clear HR HX
      go_wp2_with fail
      refine HS.out.mono ?_
      rintro e5 w5 ⟨rfl, hO5⟩
      have HC := Lib.hid (strCompact_any _ _ _ _ _ (by omega) hO5)
      clear hO5
      go_wp2_with fail
      refine HC.out.mono ?_
      rintro e6 w6 ⟨v6, rfl, hO6⟩
      have HO6 := Lib.hid hO6
      clear hO6
      go_wp2_with fail
      go_ret
      exact ⟨_, rfl, HO6.out⟩
end Go.Proofs.YtfpiannnggkdiaaDoor
namespace Go.Proofs.YtfpiannnggkdiaaDoor
open Go.RowKit Go.Shelf

theorem VRep.leaf {w : World} {F : Nat → Prop} : ∀ {L : List V} {xs : List Value}, VRep w F L xs → (∀ x ∈ L, nodesV x = 1) → VRep w (fun _ => False) L xs
  | [], _, h, _ => h
  | .mk k i t s l :: r, xs, h, hl => by
    have h0 := hl _ (List.mem_cons_self ..)
    rw [nodesV_mk] at h0
    have hl0 : l = [] := by
      rcases l with _ | ⟨x, l⟩
      · rfl
      · rw [nodesL_cons] at h0
        obtain ⟨k', i', t', s', l'⟩ := x
        rw [nodesV_mk] at h0
        omega
    subst hl0
    obtain ⟨A, c, ys, e, h2, h3, h4⟩ := h
    obtain ⟨A', c', e', g1, g2, _⟩ := h3
    exact ⟨A, c, ys, e, h2, ⟨A', c', e', g1, g2, .inl rfl⟩, h4.leaf (fun x hx => hl x (List.mem_cons_of_mem _ hx))⟩
/-- A value whose blocks are named by a predicate. -/
def VF (w : World) (F : Nat → Prop) : V → Value → Prop
  | .mk k i t s l, g => s.size ≤ 1048576 ∧ ∃ sl, g = .agg #[.int .i64 k, .int .i64 i, .int .i64 t, .string s, sl] ∧ SlF w F l sl
theorem VF.at {w : World} {F : Nat → Prop} {B : Nat} {v : V} {g : Value} (h : VF w F v g) (hF : ∀ k, F k → k < B) : VAt w B v g := by
  obtain ⟨k, i, t, s, l⟩ := v
  obtain ⟨hz, sl, rfl, hs⟩ := h
  exact ⟨hz, sl, rfl, hs.toAt hF⟩
theorem VF.keep {w w' : World} {F G : Nat → Prop} {v : V} {g : Value} (h : VF w F v g) (hk : ∀ b, F b → w'.heap[b]? = w.heap[b]?) (hFG : ∀ b, F b → G b) : VF w' G v g := by
  obtain ⟨k, i, t, s, l⟩ := v
  obtain ⟨hz, sl, rfl, hs⟩ := h
  exact ⟨hz, sl, rfl, hs.keep hk hFG⟩
theorem VF.hand {w : World} {F : Nat → Prop} {v : V} {g : Value} (h : VF w F v g) : ∃ k i t s l A c, v = .mk k i t s l ∧ g = .agg #[.int .i64 k, .int .i64 i, .int .i64 t, .string s, .slice A l.length c] ∧ s.size ≤ 1048576 ∧ SlF w F l (.slice A l.length c) := by
  obtain ⟨k, i, t, s, l⟩ := v
  obtain ⟨hz, sl, rfl, A, c, rfl, hr⟩ := h
  exact ⟨k, i, t, s, l, A, c, rfl, rfl, hz, A, c, rfl, hr⟩
/-- What mergeValues gives, and where it lies. -/
def MergeF (w : World) (P : Nat → Prop) (r : V × Bool) (e : Ending) (w' : World) : Prop :=
  ∃ g, e = .returned (.tuple #[g, .bool r.2]) ∧ VF w' (fun k => (P k ∨ w.heap.size ≤ k) ∧ k < w'.heap.size) r.1 g ∧ Below w.heap.size w w'
theorem mergeF_done {w wx : World} {P : Nat → Prop} {v : V} {k i t : Int} {s : ByteArray} {A : Option Addr} {n c q : Nat} {b : Bool} (hq : w.heap.size ≤ q) (hb : Below w.heap.size w wx)
    (hne : ∀ (F : World), (∀ j, j ≠ q → F.heap[j]? = wx.heap[j]?) → F.heap.size = wx.heap.size → VF F (fun k => (P k ∨ w.heap.size ≤ k) ∧ k < F.heap.size) v (.agg #[.int .i64 k, .int .i64 i, .int .i64 t, .string s, .slice A n c])) :
    MergeF w P (v, b) (.returned (.tuple #[.agg #[.int .i64 k, .int .i64 i, .int .i64 t, .string s, .slice A n c], .bool b])) (((((wx.setCell ⟨q, 0, none⟩ (.int .i64 k)).setCell ⟨q, 1, none⟩ (.int .i64 i)).setCell ⟨q, 2, none⟩ (.int .i64 t)).setCell ⟨q, 3, none⟩ (.string s)).setCell ⟨q, 4, none⟩ (.slice A n c)) := by
  refine ⟨_, rfl, hne _ (fun j hj => ?_) (by simp [World.setCell]), ((((hb.setCell hq _).setCell hq _).setCell hq _).setCell hq _).setCell hq _⟩
  simp [World.setCell, Array.getElem?_modify, Ne.symm hj]
theorem argF_later {w wx F : World} {P : Nat → Prop} {v : V} {g : Value} {q : Nat} (h : VF w P v g) (hP : ∀ k, P k → k < w.heap.size) (hb : Below w.heap.size w wx) (hq : w.heap.size ≤ q) (h1 : ∀ j, j ≠ q → F.heap[j]? = wx.heap[j]?) (h2 : F.heap.size = wx.heap.size) : VF F (fun k => (P k ∨ w.heap.size ≤ k) ∧ k < F.heap.size) v g := by
  have hsz := hb.size
  exact h.keep (fun b hb' => (h1 b (by have := hP b hb'; omega)).trans (hb.block b (hP b hb'))) (fun b hb' => ⟨.inl hb', by have := hP b hb'; omega⟩)
theorem itemsM_leaf {o a b : V} (Ro : Right o) (Ra : Right a) (Rb : Right b) : ∀ x ∈ itemsM o.kids a.kids b.kids, nodesV x = 1 := by
  intro x hx
  unfold itemsM at hx
  rcases addL_mem _ _ _ x hx with h | h
  · rcases addL_mem _ _ _ x h with h | h
    · rcases addL_mem _ _ _ x h with h | h
      · simp at h
      · exact Ro.leaf x h
    · exact Ra.leaf x h
  · exact Rb.leaf x h
set_option maxRecDepth 100000 in
set_option maxHeartbeats 8000000 in
theorem mergeItemsL_any (lo la lb : List V) (Ao Aa Ab : Option Addr) (co ca cb B0 : Nat) (w : World) (hB0 : B0 ≤ w.heap.size) (ho : SlAt w B0 lo (.slice Ao lo.length co)) (ha : SlAt w B0 la (.slice Aa la.length ca)) (hb : SlAt w B0 lb (.slice Ab lb.length cb))
    (hlo : lo.length ≤ 20) (hla : la.length ≤ 20) (hlb : lb.length ≤ 20) (hNo : ∀ v ∈ lo, nodesV v ≤ 1000) (hNa : ∀ v ∈ la, nodesV v ≤ 1000) (hNb : ∀ v ∈ lb, nodesV v ≤ 1000) (hLf : ∀ v ∈ itemsM lo la lb, nodesV v = 1) :
    Calls Tryd.prog 63 #[.slice Ao lo.length co, .slice Aa la.length ca, .slice Ab lb.length cb] w fun e w' => ∃ A c, e = .returned (.slice A (itemsM lo la lb).length c) ∧ SlF w' (fun k => w.heap.size ≤ k ∧ k < w'.heap.size) (itemsM lo la lb) (.slice A (itemsM lo la lb).length c) ∧ Below w.heap.size w w' := by
  have en2 : ∀ (ys : Array Value) (W : World), (callFunc 79 ys).run Tryd.prog W = .ok (.enter 79 ys) W := enters_of Tryd.func79 (by kernel_rfl) rfl
  have en3 : ∀ (ys : Array Value) (W : World), (callFunc 80 ys).run Tryd.prog W = .ok (.enter 80 ys) W := enters_of Tryd.func80 (by kernel_rfl) rfl
  have en4 : ∀ (ys : Array Value) (W : World), (callFunc 81 ys).run Tryd.prog W = .ok (.enter 81 ys) W := enters_of Tryd.func81 (by kernel_rfl) rfl
  have en1 : ∀ (ys : Array Value) (W : World), (callFunc 77 ys).run Tryd.prog W = .ok (.enter 77 ys) W := enters_of Tryd.func77 (by kernel_rfl) rfl
  obtain ⟨W0, hW0⟩ : ∃ W0, W0 = (((w.alloc (.cells #[.slice Ao lo.length co] 51)).alloc (.cells #[.slice Aa la.length ca] 51)).alloc (.cells #[.slice Ab lb.length cb] 51)).alloc (.cells #[.slice none 0 0] 51) := ⟨_, rfl⟩
  have hbel : Below w.heap.size w W0 := by rw [hW0]; exact ((((Below.refl _ w).alloc (Nat.le_refl _) _).alloc (by simp) _).alloc (by simp <;> omega) _).alloc (by simp <;> omega) _
  have hs0 : W0.heap.size = w.heap.size + 4 := by rw [hW0]; simp
  have q0 : W0.heap[w.heap.size]? = some (.cells #[.slice Ao lo.length co] 51 (0, 0)) := by
    rw [hW0, Below.heap_alloc _ _ _ (by simp <;> omega), Below.heap_alloc _ _ _ (by simp <;> omega), Below.heap_alloc _ _ _ (by simp)]
    exact heap_alloc_new w _
  have q1 : W0.heap[w.heap.size + 1]? = some (.cells #[.slice Aa la.length ca] 51 (0, 0)) := by
    rw [hW0, Below.heap_alloc _ _ _ (by simp <;> omega), Below.heap_alloc _ _ _ (by simp)]
    have := heap_alloc_new (w.alloc (.cells #[.slice Ao lo.length co] 51)) (.cells #[.slice Aa la.length ca] 51)
    simpa using this
  have q2 : W0.heap[w.heap.size + 1 + 1]? = some (.cells #[.slice Ab lb.length cb] 51 (0, 0)) := by
    rw [hW0, Below.heap_alloc _ _ _ (by simp)]
    have := heap_alloc_new ((w.alloc (.cells #[.slice Ao lo.length co] 51)).alloc (.cells #[.slice Aa la.length ca] 51)) (.cells #[.slice Ab lb.length cb] 51)
    simpa using this
  have q3 : W0.heap[w.heap.size + 1 + 1 + 1]? = some (.cells #[.slice none 0 0] 51 (0, 0)) := by
    rw [hW0]
    have := heap_alloc_new (((w.alloc (.cells #[.slice Ao lo.length co] 51)).alloc (.cells #[.slice Aa la.length ca] 51)).alloc (.cells #[.slice Ab lb.length cb] 51)) (.cells #[.slice none 0 0] 51)
    simpa using this
  have HST0 : Hid (ItemSt W0 (w.heap.size + 1 + 1 + 1) (w.heap.size + 4) B0 51 [] [] [] W0) := Lib.hid ⟨rfl, rfl, rfl, by omega, by omega, fun _ _ _ => rfl, fun _ => False, [], none, 0, q3, World.ownsRow_nil _ _ _ _, rfl, fun _ h => h.elim, fun _ h => by simp [Value.ownBlock] at h⟩
  have fo : SlF W0 (fun k => k < B0) lo (.slice Ao lo.length co) := (ho.toF (fun _ h => h)).keep (fun b hb => hbel.block b (by omega)) (fun _ h => h)
  have fa : SlF W0 (fun k => k < B0) la (.slice Aa la.length ca) := (ha.toF (fun _ h => h)).keep (fun b hb => hbel.block b (by omega)) (fun _ h => h)
  have fb : SlF W0 (fun k => k < B0) lb (.slice Ab lb.length cb) := (hb.toF (fun _ h => h)).keep (fun b hb => hbel.block b (by omega)) (fun _ h => h)
  have hc1 : ∀ {p : V → Bool} {L : List V}, (addL L p lo).length ≤ L.length + 20 := fun {p L} => Nat.le_trans (addL_len p lo L) (by omega)
  have K2 : Wants W0 (w.heap.size + 1 + 1 + 1) (w.heap.size + 4) B0 51 [] [] lo 79 #[.pointer (some ⟨w.heap.size + 1, 0, none⟩), .pointer (some ⟨w.heap.size + 1 + 1, 0, none⟩)] (fun x => hasT la x && hasT lb x) := ⟨en2, fun W L v g _ hS hvat =>
    want2_any la lb Aa Ab ca cb (w.heap.size + 1) (w.heap.size + 1 + 1) v g W (cell_of_row W _ 0 _ _ (0, 0) (hS.old (by omega) (by omega) q1)) (cell_of_row W _ 0 _ _ (0, 0) (hS.old (by omega) (by omega) q2)) (by have := hS.size; omega) (by have := hS.size; omega) (hS.src (by omega) (by omega) fa) (hS.src (by omega) (by omega) fb) hvat hNa hNb⟩
  have K3 : Wants W0 (w.heap.size + 1 + 1 + 1) (w.heap.size + 4) B0 51 [] [] la 80 #[.pointer (some ⟨w.heap.size, 0, none⟩)] (fun x => !hasT lo x) := ⟨en3, fun W L v g _ hS hvat =>
    want3_any lo Ao co w.heap.size v g W (cell_of_row W _ 0 _ _ (0, 0) (hS.old (by omega) (by omega) q0)) (by have := hS.size; omega) (hS.src (by omega) (by omega) fo) hvat hNo⟩
  have K4 : Wants W0 (w.heap.size + 1 + 1 + 1) (w.heap.size + 4) B0 51 [] [] lb 81 #[.pointer (some ⟨w.heap.size, 0, none⟩), .pointer (some ⟨w.heap.size + 1, 0, none⟩)] (fun x => !hasT lo x && !hasT la x) := ⟨en4, fun W L v g _ hS hvat =>
    want4_any lo la Ao Aa co ca w.heap.size (w.heap.size + 1) v g W (cell_of_row W _ 0 _ _ (0, 0) (hS.old (by omega) (by omega) q0)) (cell_of_row W _ 0 _ _ (0, 0) (hS.old (by omega) (by omega) q1)) (by have := hS.size; omega) (by have := hS.size; omega) (hS.src (by omega) (by omega) fo) (hS.src (by omega) (by omega) fa) hvat hNo hNa⟩
  obtain ⟨L1, hL1⟩ : ∃ L1, L1 = addL [] (fun x => hasT la x && hasT lb x) lo := ⟨_, rfl⟩
  obtain ⟨L2, hL2⟩ : ∃ L2, L2 = addL L1 (fun x => !hasT lo x) la := ⟨_, rfl⟩
  have hL1l : L1.length ≤ 20 := by have := addL_len (fun x => hasT la x && hasT lb x) lo []; rw [← hL1] at this; simp at this; omega
  have hL2l : L2.length ≤ 40 := by have := addL_len (fun x => !hasT lo x) la L1; rw [← hL2] at this; omega
  have hN1 : ∀ v ∈ L1, nodesV v ≤ 1000 := fun v hv => by rw [hL1] at hv; rcases addL_mem _ _ _ v hv with h | h; simp at h; exact hNo v h
  have hN2 : ∀ v ∈ L2, nodesV v ≤ 1000 := fun v hv => by rw [hL2] at hv; rcases addL_mem _ _ _ v hv with h | h; exact hN1 v h; exact hNa v h
  have hEnd : itemsM lo la lb = addL L2 (fun x => !hasT lo x && !hasT la x) lb := by unfold itemsM; rw [hL2, hL1]
  have hEl : (itemsM lo la lb).length ≤ 60 := by rw [hEnd]; have := addL_len (fun x => !hasT lo x && !hasT la x) lb L2; omega
  have C1 := Lib.hid (add_any lo (fun x => hasT la x && hasT lb x) 79 #[.pointer (some ⟨w.heap.size + 1, 0, none⟩), .pointer (some ⟨w.heap.size + 1 + 1, 0, none⟩)] Ao co (w.heap.size + 1 + 1 + 1) (w.heap.size + 4) B0 [] W0 W0 HST0.out (by omega) (by omega) (by omega) fo K2 (fun v hv => by rcases hv with h | h; simp at h; exact hNo v h) (by simp <;> omega))
  have C2 := Lib.hid (fun (W : World) (hW : ItemSt W0 (w.heap.size + 1 + 1 + 1) (w.heap.size + 4) B0 51 [] [] L1 W) => add_any la (fun x => !hasT lo x) 80 #[.pointer (some ⟨w.heap.size, 0, none⟩)] Aa ca (w.heap.size + 1 + 1 + 1) (w.heap.size + 4) B0 L1 W0 W hW (by omega) (by omega) (by omega) fa K3 (fun v hv => by rcases hv with h | h; exact hN1 v h; exact hNa v h) (by omega))
  have C3 := Lib.hid (fun (W : World) (hW : ItemSt W0 (w.heap.size + 1 + 1 + 1) (w.heap.size + 4) B0 51 [] [] L2 W) => add_any lb (fun x => !hasT lo x && !hasT la x) 81 #[.pointer (some ⟨w.heap.size, 0, none⟩), .pointer (some ⟨w.heap.size + 1, 0, none⟩)] Ab cb (w.heap.size + 1 + 1 + 1) (w.heap.size + 4) B0 L2 W0 W hW (by omega) (by omega) (by omega) fb K4 (fun v hv => by rcases hv with h | h; exact hN2 v h; exact hNb v h) (by omega))
  rw [← hL1] at C1
  rw [← hL2] at C2
  rw [← hEnd] at C3
  have Q0 := Lib.hid q0
  have Q1 := Lib.hid q1
  have Q2 := Lib.hid q2
  have HBEL := Lib.hid hbel
  have HLF := Lib.hid hLf
  generalize itemsM lo la lb = L3 at C3 hEl HLF ⊢
  generalize lo.length = no at C1 Q0 hW0 ⊢
  generalize la.length = na at C2 Q1 hW0 ⊢
  generalize lb.length = nb at C3 Q2 hW0 ⊢
  clear hLf ho ha hb hlo hla hlb hNo hNa hNb fo fa fb K2 K3 K4 hL1 hL2 hL1l hL2l hN1 hN2 hEnd q0 q1 q2 q3 hbel hc1
  go_enter Tryd.func63, Tryd.ntmps63
  go_wp2_with fail
  rw [← hW0]
  refine C1.out.mono ?_
  rintro e1 w1 ⟨rfl, hS1⟩
  have HS1 := Lib.hid hS1
  have x1 := cell_of_row w1 _ 0 _ _ (0, 0) (hS1.old (by omega) (by omega) Q1.out)
  clear hS1
  go_wp2_with fail
  refine (C2.out w1 HS1.out).mono ?_
  rintro e2 w2 ⟨rfl, hS2⟩
  have HS2 := Lib.hid hS2
  have x2 := cell_of_row w2 _ 0 _ _ (0, 0) (hS2.old (by omega) (by omega) Q2.out)
  clear hS2
  go_wp2_with fail
  refine (C3.out w2 HS2.out).mono ?_
  rintro e3 w3 ⟨rfl, hS3⟩
  obtain ⟨F, xs, A, c, k1, k2, k3, k4, k5⟩ := hS3.rep
  have x3 := cell_of_row w3 _ 0 _ _ (0, 0) k1
  have HSL := Lib.hid (vown_slF (G := fun k => w.heap.size ≤ k ∧ k < w3.heap.size) k2 (k3.leaf HLF.out) (fun k hk => hk.elim) (fun g h1 h2 => by omega) (by omega))
  have HB3 : Hid (Below w.heap.size w w3) := Lib.hid ⟨hS3.os.trans HBEL.out.os, hS3.tape.trans HBEL.out.tape, hS3.output.trans HBEL.out.output, by have := hS3.size; omega, fun k hk => (hS3.block k (by omega) (by omega)).trans (HBEL.out.block k hk)⟩
  generalize hz : L3.length = z at x3 HSL ⊢
  clear hS3 k1 k2 k3 k4 k5
  go_wp2_with fail
  go_ret
  exact ⟨A, c, by first | rfl | (rw [hz]; rfl), by first | exact HSL.out | (rw [hz]; exact HSL.out), HB3.out⟩
end Go.Proofs.YtfpiannnggkdiaaDoor
namespace Go.Proofs.YtfpiannnggkdiaaDoor
open Go.RowKit Go.Shelf

set_option maxRecDepth 100000 in
set_option maxHeartbeats 16000000 in
theorem mergeValuesF_any (P : Nat → Prop) (o a b : V) (go ga gb : Value) (w : World) (ho : VAt w w.heap.size o go) (fa : VF w P a ga) (fb : VF w P b gb) (hP : ∀ k, P k → k < w.heap.size) (Ro : Right o) (Ra : Right a) (Rb : Right b) :
    Calls Tryd.prog 42 #[go, ga, gb] w (MergeF w P (mergeT o a b)) := by
  have ha := fa.at hP
  have hb := fb.at hP
  have HPH := Lib.hid hP
  have hLf := itemsM_leaf Ro Ra Rb
  have HC1 := Lib.hid (fun W (hW : Below w.heap.size w W) => compareP_any a o ga go W (ha.later hW) (ho.later hW) (by have := Ra.nodes; omega))
  have HC2 := Lib.hid (fun W (hW : Below w.heap.size w W) => compareP_any b o gb go W (hb.later hW) (ho.later hW) (by have := Rb.nodes; omega))
  have HC3 := Lib.hid (fun W (hW : Below w.heap.size w W) => compareP_any a b ga gb W (ha.later hW) (hb.later hW) (by have := Ra.nodes; omega))
  have HE : Hid (mergeT o a b = if sameT a o = true then (b, true) else if (sameT b o || sameT a b) = true then (a, true)
    else if (listB o.kind && listB a.kind && listB b.kind) = true ∧ (itemsM o.kids a.kids b.kids).length ≤ 20 then (.mk 7 0 0 ⟨#[]⟩ (itemsM o.kids a.kids b.kids), true)
    else if a.kind = 0 then (b, false) else (a, false)) := Lib.hid rfl
  have S1 : Hid (sameT a o = decide (cmpT a o = 0)) := Lib.hid rfl
  have S2 : Hid (sameT b o = decide (cmpT b o = 0)) := Lib.hid rfl
  have S3 : Hid (sameT a b = decide (cmpT a b = 0)) := Lib.hid rfl
  have HA := Lib.hid fa
  have HB := Lib.hid fb
  generalize hmt : mergeT o a b = mt at HE ⊢
  generalize cmpT a o = r1 at HC1 S1
  generalize cmpT b o = r2 at HC2 S2
  generalize cmpT a b = r3 at HC3 S3
  obtain ⟨ko, io, to1, so, lo, Ao, co, rfl, rfl, hzo, hso⟩ := ho.hand
  obtain ⟨ka, ia, ta1, sa, la, Aa, ca, rfl, rfl, hza, hsa⟩ := ha.hand
  obtain ⟨kb, ib, tb1, sb, lb, Ab, cb, rfl, rfl, hzb, hsb⟩ := hb.hand
  have LO : lo.length ≤ 20 := Ro.few
  have LA : la.length ≤ 20 := Ra.few
  have LB : lb.length ≤ 20 := Rb.few
  have HIT := Lib.hid (fun W (hW : Below w.heap.size w W) => mergeItemsL_any lo la lb Ao Aa Ab co ca cb w.heap.size W hW.size (hso.below hW (Nat.le_refl _)) (hsa.below hW (Nat.le_refl _)) (hsb.below hW (Nat.le_refl _)) LO LA LB (fun v hv => by have := Ro.leaf v hv; omega) (fun v hv => by have := Ra.leaf v hv; omega) (fun v hv => by have := Rb.leaf v hv; omega) hLf)
  have HE2 : Hid (mt = if sameT (.mk ka ia ta1 sa la) (.mk ko io to1 so lo) = true then ((.mk kb ib tb1 sb lb : V), true) else if (sameT (.mk kb ib tb1 sb lb) (.mk ko io to1 so lo) || sameT (.mk ka ia ta1 sa la) (.mk kb ib tb1 sb lb)) = true then (.mk ka ia ta1 sa la, true)
    else if (listB ko && listB ka && listB kb) = true ∧ (itemsM lo la lb).length ≤ 20 then (.mk 7 0 0 ⟨#[]⟩ (itemsM lo la lb), true)
    else if ka = 0 then (.mk kb ib tb1 sb lb, false) else (.mk ka ia ta1 sa la, false)) := HE
  rw [S1.out, S2.out, S3.out] at HE2
  have HIL : (itemsM lo la lb).length ≤ 60 := by
    unfold itemsM
    have h1 := addL_len (fun x => hasT la x && hasT lb x) lo []
    have h2 := addL_len (fun x => !hasT lo x) la (addL [] (fun x => hasT la x && hasT lb x) lo)
    have h3 := addL_len (fun x => !hasT lo x && !hasT la x) lb (addL (addL [] (fun x => hasT la x && hasT lb x) lo) (fun x => !hasT lo x) la)
    simp at h1
    omega
  generalize itemsM lo la lb = its at HIT HE2 HIL
  have HV0 := Lib.hid hmt
  generalize lo.length = no at HC1 HC2 HIT ⊢
  generalize la.length = na at HC1 HC3 HIT HA ⊢
  generalize lb.length = nb at HC2 HC3 HIT HB ⊢
  clear fa fb hP hLf ho ha hb Ro Ra Rb HE S1 S2 S3 hmt hso hsa hsb LO LA LB HV0
  have HML := Lib.hid (fun (k i t : Int) (s : ByteArray) (g : Value) (W : World) => mayBeList_any k i t s g W)
  have HM0 := Lib.hid (mv_start w #[.int .i64 ko, .int .i64 io, .int .i64 to1, .string so, .slice Ao no co] #[.int .i64 ka, .int .i64 ia, .int .i64 ta1, .string sa, .slice Aa na ca] #[.int .i64 kb, .int .i64 ib, .int .i64 tb1, .string sb, .slice Ab nb cb])
  go_enter Tryd.func42, Tryd.ntmps42
  go_wp2_with fail
  refine (HC1.out _ HM0.out.bel).mono ?_
  rintro e1 w1 ⟨rfl, hb1⟩
  have HM1 := Lib.hid (HM0.out.later hb1)
  clear hb1
  by_cases h1 : r1 = 0
  · subst h1
    obtain ⟨x0, x1, x2, x3, x4⟩ := five_cells HM1.out.b
    obtain ⟨r0, r1, r2, r3, r4⟩ := five_cells HM1.out.r
    obtain ⟨f0, f1, f2, f3, f4⟩ := five_frozen HM1.out.r
    go_wp2_with fail
    (try simp only [Exit.inBlock, Exit.then])
    refine bodyPost_ret (v := .tuple #[.agg #[.int .i64 kb, .int .i64 ib, .int .i64 tb1, .string sb, .slice Ab nb cb], .bool true]) ?_ rfl ?_
    · simp [results, Tryd.f42]
      go_simp
    · have e : mt = (.mk kb ib tb1 sb lb, true) := by have := HE2.out; simpa using this
      rw [e]
      exact mergeF_done (by omega) HM1.out.bel (fun F h1 h2 => argF_later HB.out HPH.out HM1.out.bel (by omega) h1 h2)
  · have p1 : ¬ r1 = 0 := h1
    obtain ⟨x0, x1, x2, x3, x4⟩ := five_cells HM1.out.b
    obtain ⟨y0, y1, y2, y3, y4⟩ := five_cells HM1.out.o
    go_wp2_with fail
    refine (HC2.out _ HM1.out.bel).mono ?_
    rintro e2 w2 ⟨rfl, hb2⟩
    have HM2 := Lib.hid (HM1.out.later hb2)
    clear hb2 x0 x1 x2 x3 x4 y0 y1 y2 y3 y4
    by_cases h2 : r2 = 0
    · subst h2
      obtain ⟨x0, x1, x2, x3, x4⟩ := five_cells HM2.out.a
      obtain ⟨r0, r1, r2, r3, r4⟩ := five_cells HM2.out.r
      obtain ⟨f0, f1, f2, f3, f4⟩ := five_frozen HM2.out.r
      go_wp2_with fail
      (try simp only [Exit.inBlock, Exit.then])
      refine bodyPost_ret (v := .tuple #[.agg #[.int .i64 ka, .int .i64 ia, .int .i64 ta1, .string sa, .slice Aa na ca], .bool true]) ?_ rfl ?_
      · simp [results, Tryd.f42]
        go_simp
      · have e : mt = (.mk ka ia ta1 sa la, true) := by have := HE2.out; simpa [h1] using this
        rw [e]
        exact mergeF_done (by omega) HM2.out.bel (fun F h1 h2 => argF_later HA.out HPH.out HM2.out.bel (by omega) h1 h2)
    · have q2 : (r2 == 0) = false := by simp [h2]
      obtain ⟨x0, x1, x2, x3, x4⟩ := five_cells HM2.out.a
      obtain ⟨y0, y1, y2, y3, y4⟩ := five_cells HM2.out.b
      go_wp2_with fail
      refine (HC3.out _ HM2.out.bel).mono ?_
      rintro e3 w3 ⟨rfl, hb3⟩
      have HM3 := Lib.hid (HM2.out.later hb3)
      clear hb3 x0 x1 x2 x3 x4 y0 y1 y2 y3 y4
      by_cases h3 : r3 = 0
      · subst h3
        obtain ⟨x0, x1, x2, x3, x4⟩ := five_cells HM3.out.a
        obtain ⟨r0, r1, r2, r3, r4⟩ := five_cells HM3.out.r
        obtain ⟨f0, f1, f2, f3, f4⟩ := five_frozen HM3.out.r
        go_wp2_with fail
        (try simp only [Exit.inBlock, Exit.then])
        refine bodyPost_ret (v := .tuple #[.agg #[.int .i64 ka, .int .i64 ia, .int .i64 ta1, .string sa, .slice Aa na ca], .bool true]) ?_ rfl ?_
        · simp [results, Tryd.f42]
          go_simp
        · have e : mt = (.mk ka ia ta1 sa la, true) := by have := HE2.out; simpa [h1, h2] using this
          rw [e]
          exact mergeF_done (by omega) HM3.out.bel (fun F h1 h2 => argF_later HA.out HPH.out HM3.out.bel (by omega) h1 h2)
      · have q3 : (r3 == 0) = false := by simp [h3]
        obtain ⟨x0, x1, x2, x3, x4⟩ := five_cells HM3.out.o
        go_wp2_with fail
        refine (HML.out ko io to1 so _ _).mono ?_
        rintro e4 w4 ⟨rfl, hb4⟩
        have HM4 := Lib.hid (HM3.out.later hb4)
        clear hb4 x0 x1 x2 x3 x4
        rcases ho7 : listB ko with _ | _
        · have q1 : True := trivial
          by_cases hk0 : ka = 0
          · subst hk0
            obtain ⟨y0, y1, y2, y3, y4⟩ := five_cells HM4.out.a
            obtain ⟨x0, x1, x2, x3, x4⟩ := five_cells HM4.out.b
            obtain ⟨r0, r1, r2, r3, r4⟩ := five_cells HM4.out.r
            obtain ⟨f0, f1, f2, f3, f4⟩ := five_frozen HM4.out.r
            go_wp2_with fail
            (try simp only [Exit.inBlock, Exit.then])
            refine bodyPost_ret (v := .tuple #[.agg #[.int .i64 kb, .int .i64 ib, .int .i64 tb1, .string sb, .slice Ab nb cb], .bool false]) ?_ rfl ?_
            · simp [results, Tryd.f42]
              go_simp
            · have e : mt = (.mk kb ib tb1 sb lb, false) := by have := HE2.out; simpa [h1, h2, h3, ho7] using this
              rw [e]
              exact mergeF_done (by omega) HM4.out.bel (fun F h1 h2 => argF_later HB.out HPH.out HM4.out.bel (by omega) h1 h2)
          · obtain ⟨y0, y1, y2, y3, y4⟩ := five_cells HM4.out.a
            obtain ⟨x0, x1, x2, x3, x4⟩ := five_cells HM4.out.a
            obtain ⟨r0, r1, r2, r3, r4⟩ := five_cells HM4.out.r
            obtain ⟨f0, f1, f2, f3, f4⟩ := five_frozen HM4.out.r
            go_wp2_with fail
            (try simp only [Exit.inBlock, Exit.then])
            refine bodyPost_ret (v := .tuple #[.agg #[.int .i64 ka, .int .i64 ia, .int .i64 ta1, .string sa, .slice Aa na ca], .bool false]) ?_ rfl ?_
            · simp [results, Tryd.f42]
              go_simp
            · have e : mt = (.mk ka ia ta1 sa la, false) := by have := HE2.out; simpa [h1, h2, h3, ho7, hk0] using this
              rw [e]
              exact mergeF_done (by omega) HM4.out.bel (fun F h1 h2 => argF_later HA.out HPH.out HM4.out.bel (by omega) h1 h2)
        · obtain ⟨x0, x1, x2, x3, x4⟩ := five_cells HM4.out.a
          go_wp2_with fail
          refine (HML.out ka ia ta1 sa _ _).mono ?_
          rintro e5 w5 ⟨rfl, hb5⟩
          have HM5 := Lib.hid (HM4.out.later hb5)
          clear hb5 x0 x1 x2 x3 x4
          rcases ha7 : listB ka with _ | _
          · have q1 : True := trivial
            by_cases hk0 : ka = 0
            · subst hk0
              obtain ⟨y0, y1, y2, y3, y4⟩ := five_cells HM5.out.a
              obtain ⟨x0, x1, x2, x3, x4⟩ := five_cells HM5.out.b
              obtain ⟨r0, r1, r2, r3, r4⟩ := five_cells HM5.out.r
              obtain ⟨f0, f1, f2, f3, f4⟩ := five_frozen HM5.out.r
              go_wp2_with fail
              (try simp only [Exit.inBlock, Exit.then])
              refine bodyPost_ret (v := .tuple #[.agg #[.int .i64 kb, .int .i64 ib, .int .i64 tb1, .string sb, .slice Ab nb cb], .bool false]) ?_ rfl ?_
              · simp [results, Tryd.f42]
                go_simp
              · have e : mt = (.mk kb ib tb1 sb lb, false) := by have := HE2.out; simpa [h1, h2, h3, ho7, ha7] using this
                rw [e]
                exact mergeF_done (by omega) HM5.out.bel (fun F h1 h2 => argF_later HB.out HPH.out HM5.out.bel (by omega) h1 h2)
            · obtain ⟨y0, y1, y2, y3, y4⟩ := five_cells HM5.out.a
              obtain ⟨x0, x1, x2, x3, x4⟩ := five_cells HM5.out.a
              obtain ⟨r0, r1, r2, r3, r4⟩ := five_cells HM5.out.r
              obtain ⟨f0, f1, f2, f3, f4⟩ := five_frozen HM5.out.r
              go_wp2_with fail
              (try simp only [Exit.inBlock, Exit.then])
              refine bodyPost_ret (v := .tuple #[.agg #[.int .i64 ka, .int .i64 ia, .int .i64 ta1, .string sa, .slice Aa na ca], .bool false]) ?_ rfl ?_
              · simp [results, Tryd.f42]
                go_simp
              · have e : mt = (.mk ka ia ta1 sa la, false) := by have := HE2.out; simpa [h1, h2, h3, ho7, ha7, hk0] using this
                rw [e]
                exact mergeF_done (by omega) HM5.out.bel (fun F h1 h2 => argF_later HA.out HPH.out HM5.out.bel (by omega) h1 h2)
          · obtain ⟨x0, x1, x2, x3, x4⟩ := five_cells HM5.out.b
            go_wp2_with fail
            refine (HML.out kb ib tb1 sb _ _).mono ?_
            rintro e6 w6 ⟨rfl, hb6⟩
            have HM6 := Lib.hid (HM5.out.later hb6)
            clear hb6 x0 x1 x2 x3 x4
            rcases hb7 : listB kb with _ | _
            · have q1 : True := trivial
              by_cases hk0 : ka = 0
              · subst hk0
                obtain ⟨y0, y1, y2, y3, y4⟩ := five_cells HM6.out.a
                obtain ⟨x0, x1, x2, x3, x4⟩ := five_cells HM6.out.b
                obtain ⟨r0, r1, r2, r3, r4⟩ := five_cells HM6.out.r
                obtain ⟨f0, f1, f2, f3, f4⟩ := five_frozen HM6.out.r
                go_wp2_with fail
                (try simp only [Exit.inBlock, Exit.then])
                refine bodyPost_ret (v := .tuple #[.agg #[.int .i64 kb, .int .i64 ib, .int .i64 tb1, .string sb, .slice Ab nb cb], .bool false]) ?_ rfl ?_
                · simp [results, Tryd.f42]
                  go_simp
                · have e : mt = (.mk kb ib tb1 sb lb, false) := by have := HE2.out; simpa [h1, h2, h3, ho7, ha7, hb7] using this
                  rw [e]
                  exact mergeF_done (by omega) HM6.out.bel (fun F h1 h2 => argF_later HB.out HPH.out HM6.out.bel (by omega) h1 h2)
              · obtain ⟨y0, y1, y2, y3, y4⟩ := five_cells HM6.out.a
                obtain ⟨x0, x1, x2, x3, x4⟩ := five_cells HM6.out.a
                obtain ⟨r0, r1, r2, r3, r4⟩ := five_cells HM6.out.r
                obtain ⟨f0, f1, f2, f3, f4⟩ := five_frozen HM6.out.r
                go_wp2_with fail
                (try simp only [Exit.inBlock, Exit.then])
                refine bodyPost_ret (v := .tuple #[.agg #[.int .i64 ka, .int .i64 ia, .int .i64 ta1, .string sa, .slice Aa na ca], .bool false]) ?_ rfl ?_
                · simp [results, Tryd.f42]
                  go_simp
                · have e : mt = (.mk ka ia ta1 sa la, false) := by have := HE2.out; simpa [h1, h2, h3, ho7, ha7, hb7, hk0] using this
                  rw [e]
                  exact mergeF_done (by omega) HM6.out.bel (fun F h1 h2 => argF_later HA.out HPH.out HM6.out.bel (by omega) h1 h2)
            · obtain ⟨x0, x1, x2, x3, x4⟩ := five_cells HM6.out.o
              obtain ⟨y0, y1, y2, y3, y4⟩ := five_cells HM6.out.a
              obtain ⟨z0, z1, z2, z3, z4⟩ := five_cells HM6.out.b
              go_wp2_with fail
              refine (HIT.out w6 HM6.out.bel).mono ?_
              rintro e7 w7 ⟨Ai, ci, rfl, hsi, hb7'⟩
              have HM7 := Lib.hid (HM6.out.later hb7')
              have HSI := Lib.hid hsi
              have hlt6 := lt_of_blk' HM6.out.r
              obtain ⟨ni, hni⟩ : ∃ ni, ni = its.length := ⟨_, rfl⟩
              rw [← hni] at HSI HIL ⊢
              have HNI := Lib.hid hni
              clear hsi hb7' hni x0 x1 x2 x3 x4 y0 y1 y2 y3 y4 z0 z1 z2 z3 z4
              by_cases hfew : ni ≤ 20
              · have p2 : (ni : Int) ≤ 20 := by omega
                obtain ⟨r0, r1, r2, r3, r4⟩ := five_cells HM7.out.r
                obtain ⟨f0, f1, f2, f3, f4⟩ := five_frozen HM7.out.r
                go_wp2_with fail
                (try simp only [Exit.inBlock, Exit.then])
                refine bodyPost_ret (v := .tuple #[.agg #[.int .i64 7, .int .i64 0, .int .i64 0, .string ⟨#[]⟩, .slice Ai ni ci], .bool true]) ?_ rfl ?_
                · simp [results, Tryd.f42]
                  go_simp
                · have e : mt = (.mk 7 0 0 ⟨#[]⟩ its, true) := by
                    have := HE2.out
                    have hl : its.length ≤ 20 := by rw [← HNI.out]; exact hfew
                    simpa [h1, h2, h3, ho7, ha7, hb7, hl] using this
                  rw [e]
                  refine mergeF_done (by omega) HM7.out.bel (fun F g1 g2 => ⟨by decide, _, rfl, ?_⟩)
                  exact HSI.out.keep (fun j hj => g1 j (by omega)) (fun j hj => ⟨.inr (by have := HM6.out.bel.size; omega), by omega⟩)
              · have p2 : ¬ (ni : Int) ≤ 20 := by omega
                have hl : ¬ its.length ≤ 20 := by rw [← HNI.out]; exact hfew
                by_cases hk0 : ka = 0
                · subst hk0
                  obtain ⟨y0, y1, y2, y3, y4⟩ := five_cells HM7.out.a
                  obtain ⟨x0, x1, x2, x3, x4⟩ := five_cells HM7.out.b
                  obtain ⟨r0, r1, r2, r3, r4⟩ := five_cells HM7.out.r
                  obtain ⟨f0, f1, f2, f3, f4⟩ := five_frozen HM7.out.r
                  go_wp2_with fail
                  (try simp only [Exit.inBlock, Exit.then])
                  refine bodyPost_ret (v := .tuple #[.agg #[.int .i64 kb, .int .i64 ib, .int .i64 tb1, .string sb, .slice Ab nb cb], .bool false]) ?_ rfl ?_
                  · simp [results, Tryd.f42]
                    go_simp
                  · have e : mt = (.mk kb ib tb1 sb lb, false) := by have := HE2.out; simpa [h1, h2, h3, ho7, ha7, hb7, hl] using this
                    rw [e]
                    exact mergeF_done (by omega) HM7.out.bel (fun F h1 h2 => argF_later HB.out HPH.out HM7.out.bel (by omega) h1 h2)
                · obtain ⟨y0, y1, y2, y3, y4⟩ := five_cells HM7.out.a
                  obtain ⟨x0, x1, x2, x3, x4⟩ := five_cells HM7.out.a
                  obtain ⟨r0, r1, r2, r3, r4⟩ := five_cells HM7.out.r
                  obtain ⟨f0, f1, f2, f3, f4⟩ := five_frozen HM7.out.r
                  go_wp2_with fail
                  (try simp only [Exit.inBlock, Exit.then])
                  refine bodyPost_ret (v := .tuple #[.agg #[.int .i64 ka, .int .i64 ia, .int .i64 ta1, .string sa, .slice Aa na ca], .bool false]) ?_ rfl ?_
                  · simp [results, Tryd.f42]
                    go_simp
                  · have e : mt = (.mk ka ia ta1 sa la, false) := by have := HE2.out; simpa [h1, h2, h3, ho7, ha7, hb7, hl, hk0] using this
                    rw [e]
                    exact mergeF_done (by omega) HM7.out.bel (fun F h1 h2 => argF_later HA.out HPH.out HM7.out.bel (by omega) h1 h2)
end Go.Proofs.YtfpiannnggkdiaaDoor
