/- Lists of strings of one's own: appended to, sorted, compacted, compared. -/
import Derived.Test.YtcnhklnjgknffaaTcA
import Derived.Test.YtcnhklnjgknffaaShelf
import Derived.Sort.OwnSorted
import Derived.WalkKit
import Derived.Lib.Hide
import Derived.Outline
import Derived.Below
import Derived.OwnWalk
import Derived.WalkMore
import Derived.Deep.AppendLies
import Derived.Deep.QuietTactic
import Derived.BigQuiet
import Derived.Shelf.Abstract
import Derived.KernelRfl
namespace Go.Proofs.Ytcnhklnjgknffaa
open Go.RowKit Go.Shelf Go.Sort

/-- It returns v, and what was there is as it was. -/
def Quiet (w : World) (v : Value) (e : Ending) (w' : World) : Prop := e = .returned v ∧ Below w.heap.size w w'
theorem ret_int {k : IntKind} {a b : Int} (h : a = b) : Ending.returned (.int k a) = .returned (.int k b) := by rw [h]
theorem ret_bool {a b : Bool} (h : a = b) : Ending.returned (.bool a) = .returned (.bool b) := by rw [h]
theorem own_kept {w w' : World} {base n size : Nat} {e : TypeId} {v : Value} {xs : List Value} (h : w.ownsRow base e size v n xs) (hk : ∀ g, v.ownBlock = some g → w'.heap[g]? = w.heap[g]?) : w'.ownsRow base e size v n xs := by
  refine ⟨h.1, ?_⟩
  rcases h.2 with h0 | ⟨g, cap, cur, e1, hg, hc, r⟩
  · exact .inl h0
  · exact .inr ⟨g, cap, cur, e1, hg, (hk g (by rw [e1]; rfl)).trans hc, r⟩
theorem own_shape {w : World} {base n size : Nat} {e : TypeId} {v : Value} {xs : List Value} (h : w.ownsRow base e size v n xs) : ∃ A c, v = .slice A n c := by
  rcases h.2 with ⟨e1, e2⟩ | ⟨g, cap, cur, e1, _⟩
  · exact ⟨none, 0, by rw [e1, e2]⟩
  · exact ⟨_, cap, e1⟩
theorem infoStrN : (Try.prog.info? 9).map (fun i => (i.zero, i.size, i.bytes)) = some (some (.string ⟨#[]⟩), 1, 16) := by kernel_rfl
/-- A list of strings of one's own behind a start. -/
structure OwnS (W : World) (base : Nat) (L : List (List UInt8)) (v : Value) (wx : World) : Prop where
  bel : Below base W wx
  le : base ≤ wx.heap.size
  own : wx.ownsRow base 9 1 v L.length (L.map encStr)
theorem OwnS.nil {W wx : World} {base : Nat} (hb : Below base W wx) (hl : base ≤ wx.heap.size) : OwnS W base [] (.slice none 0 0) wx := ⟨hb, hl, World.ownsRow_nil _ _ _ _⟩
theorem OwnS.alloc {W wx : World} {base : Nat} {L : List (List UInt8)} {v : Value} (h : OwnS W base L v wx) (o : Obj) : OwnS W base L v (wx.alloc o) :=
  ⟨h.bel.alloc h.le o, by simp; have := h.le; omega, h.own.alloc o⟩
theorem OwnS.push {W w w4 : World} {base : Nat} {L : List (List UInt8)} {v : Value} (h : OwnS W base L v w) {x : ByteArray} {gg cap : Nat}
    (ho4 : w4.ownsRow base 9 1 (.slice (some ⟨gg, 0, none⟩) (L.length + 1) cap) (L.length + 1) (L.map encStr ++ [.string x])) (hg : w.grownBy w4 v.ownBlock) :
    OwnS W base (L ++ [x.data.toList]) (.slice (some ⟨gg, 0, none⟩) (L.length + 1) cap) w4 := by
  have hsz := hg.size
  have hle := h.le
  refine ⟨h.bel.grown hg hle (fun k hk => (h.own.lt k hk).1), by omega, ?_⟩
  rw [List.length_append, List.map_append]
  exact ho4
theorem one_news (w : World) (a : Value) (T : TypeId) : ∀ q u, [a][q]? = some u → (w.alloc (.cells #[a] T)).cell? ((⟨w.heap.size, 0, none⟩ : Addr).add q) = some u := by
  intro q u hq
  have h := heap_alloc_new w (.cells #[a] T)
  have e1 : (⟨w.heap.size, 0, none⟩ : Addr).add q = ⟨w.heap.size, q, none⟩ := by
    unfold Addr.add
    split
    · rename_i h0; subst h0; rfl
    · simp
  rw [e1, cell_of_row _ _ q _ _ (0, 0) h, List.getElem?_toArray]
  exact hq
def sortS (L : List (List UInt8)) : List (List UInt8) := L.mergeSort fun x y => decide (x ≤ y)
theorem sortS_len (L : List (List UInt8)) : (sortS L).length = L.length := List.length_mergeSort L
theorem compact_len (L : List (List UInt8)) : (Lib.compact L).length ≤ L.length := by
  unfold Lib.compact Lib.compactUpTo
  rw [List.length_map]
  exact Nat.le_trans (List.length_filter_le ..) (by simp)
/-- slices.Sort at strings, of any list of one's own. -/
theorem strSort_any (L : List (List UInt8)) (v : Value) (base : Nat) (W w : World) (hn : L.length ≤ 1099511627776) (ho : OwnS W base L v w) :
    Calls Try.prog 11 #[v] w fun e w' => e = .returned (.tuple #[]) ∧ OwnS W base (sortS L) v w' := by
  have hle := ho.le
  rcases ho.own.2 with ⟨rfl, h0⟩ | ⟨g, cap, cur, rfl, hbase, hb, h1, h2, h3, h4⟩
  · obtain rfl : L = [] := List.eq_nil_of_length_eq_zero h0
    refine (Any.slices_Sort_string_none Try.sortStr none 0 w).mono ?_
    rintro e w' ⟨rfl, rfl⟩
    exact ⟨rfl, by rw [show sortS [] = [] by simp [sortS]]; exact ho⟩
  · have hlt := (ho.own.lt g rfl).2
    refine (Any.slices_Sort_string Try.sortStr g 0 cap L w (holds_of_block hb (by simpa using h4)) hlt (by omega)).mono ?_
    rintro e w' ⟨rfl, n, os, rfl⟩
    have hG := grownBy_sorted (w := w) (g := g) (n := n) (os := os) (sortS L).toArray
    have hsz := hG.size
    refine ⟨rfl, ho.bel.grown hG hle (fun k hk => by obtain rfl : g = k := (by simpa using hk); exact hbase), by unfold sortS at hsz; omega, ?_⟩
    rw [sortS_len]
    exact ownsRow_sorted (sortS_len L) hbase hb h1 h2 h3
/-- slices.Compact at strings, of any list of one's own. -/
theorem strCompact_any (L : List (List UInt8)) (v : Value) (base : Nat) (W w : World) (hn : L.length ≤ 1099511627776) (ho : OwnS W base L v w) :
    Calls Try.prog 12 #[v] w fun e w' => ∃ v', e = .returned v' ∧ OwnS W base (Lib.compact L) v' w' := by
  have hle := ho.le
  rcases ho.own.2 with ⟨rfl, h0⟩ | ⟨g, cap, cur, rfl, hbase, hb, h1, h2, h3, h4⟩
  · obtain rfl : L = [] := List.eq_nil_of_length_eq_zero h0
    refine (Any.slices_Compact_string_empty Try.compactStr none 0 w).mono ?_
    rintro e w' ⟨rfl, rfl⟩
    exact ⟨_, rfl, by rw [show Lib.compact ([] : List (List UInt8)) = [] from rfl]; exact ho⟩
  · have hlt := (ho.own.lt g rfl).2
    have hcl := compact_len L
    refine (Any.slices_Compact_string Try.compactStr g 0 cap L w (holds_of_block hb (by simpa using h4)) (by omega) h1).mono ?_
    rintro e w' ⟨rfl, q, rfl⟩
    obtain ⟨d, hd⟩ : ∃ d, d = Lib.compact L ++ List.replicate (L.length - (Lib.compact L).length) [] := ⟨_, rfl⟩
    have hdl : d.length = L.length := by rw [hd, List.length_append, List.length_replicate]; omega
    have hG := grownBy_sorted (w := w) (g := g) (n := q) (os := #[]) d.toArray
    rw [grow_empty] at hG
    have hsz := hG.size
    have hO := ownsRow_sorted (w := w) (n := q) (os := #[]) (ts := d) hdl hbase hb h1 h2 h3
    rw [grow_empty] at hO
    rw [← hd]
    refine ⟨_, rfl, ho.bel.grown hG hle (fun k hk => by obtain rfl : g = k := (by simpa using hk); exact hbase), by omega, ?_⟩
    rcases hO.2 with ⟨h', _⟩ | ⟨g', cap', cur', h', u1, u2, u3, u4, u5, u6⟩
    · simp at h'
    · simp only [Value.slice.injEq, Option.some.injEq, Addr.mk.injEq, and_true, true_and] at h'
      obtain ⟨rfl, rfl⟩ := h'
      refine ⟨by simp, .inr ⟨g, cap, cur', rfl, u1, u2, by omega, u4, u5, ?_⟩⟩
      have := congrArg (List.take (Lib.compact L).length) u6
      rw [List.take_take, Nat.mul_one, Nat.min_eq_left (by omega), hd, List.map_append, List.take_left' (by simp)] at this
      rw [Nat.mul_one]
      exact this
theorem quiet_drewN {w w' : World} (h : ∃ q, w' = w.drewN q) : Below w.heap.size w w' := by
  obtain ⟨q, rfl⟩ := h
  exact ⟨rfl, rfl, rfl, Nat.le_refl _, fun _ _ => rfl⟩
theorem own_slice {w : World} {base n size : Nat} {e : TypeId} {v : Value} {xs : List Value} (h : w.ownsRow base e size v n xs) : ∃ A c, v = .slice A n c ∧ (0 < n → ∃ g, A = some ⟨g, 0, none⟩ ∧ n ≤ c ∧ c ≤ maxLen) := by
  rcases h.2 with ⟨h0, h1⟩ | ⟨g, cap, cur, e1, hg, hc, h2, h3, r⟩
  · subst h1
    exact ⟨none, 0, h0, fun h => absurd h (Nat.lt_irrefl _)⟩
  · exact ⟨_, cap, e1, fun _ => ⟨g, rfl, h2, h3⟩⟩
def strB (T : List (List UInt8)) : List ByteArray := T.map fun x => ⟨x.toArray⟩
theorem strB_len (T : List (List UInt8)) : (strB T).length = T.length := List.length_map _
theorem strsEqual_any {b1 b2 : Nat} (v1 v2 : Value) (T : List (List UInt8)) (w : World) (hl : T.length ≤ 4000000000) (h1 : w.ownsRow b1 9 1 v1 T.length (T.map encStr)) (h2 : w.ownsRow b2 9 1 v2 T.length (T.map encStr)) :
    Calls Try.prog 8 #[v1, v2] w (Quiet w (.bool true)) := by
  obtain ⟨a1, c1, rfl, g1⟩ := own_slice h1
  obtain ⟨a2, c2, rfl, g2⟩ := own_slice h2
  by_cases h0 : T.length = 0
  · rw [h0]
    refine (Try.slices_Equal_string_empty a1 a2 c1 0 c2 w (by omega)).mono ?_
    rintro e w' ⟨rfl, rfl⟩
    exact ⟨rfl, Below.refl _ _⟩
  · obtain ⟨n1, rfl, _, _⟩ := g1 (by omega)
    obtain ⟨n2, rfl, _, _⟩ := g2 (by omega)
    have hat : ∀ (b n : Nat) (cc : Nat), w.ownsRow b 9 1 (.slice (some ⟨n, 0, none⟩) T.length cc) T.length (T.map encStr) → ∀ j, j < (strB T).length → w.cell? ⟨n, 0 + j, none⟩ = some (.string ((strB T).getD j ByteArray.empty)) := by
      intro b n cc h j hj
      rw [strB_len] at hj
      have e1 := h.cellAt j (by omega)
      rw [Nat.zero_add, e1]
      unfold strB
      rw [List.getElem?_map, List.getD_eq_getElem?_getD, List.getElem?_map, List.getElem?_eq_getElem hj]
      rfl
    have hs := strB_len T
    refine (Try.slices_Equal_string n1 0 T.length c1 n2 0 T.length c2 (strB T) (strB T) w (by omega) (by omega) (by omega) (by omega) (hat _ _ _ h1) (hat _ _ _ h2)).mono ?_
    rintro e w' ⟨rfl, hq⟩
    exact ⟨by simp, quiet_drewN hq⟩
end Go.Proofs.Ytcnhklnjgknffaa
