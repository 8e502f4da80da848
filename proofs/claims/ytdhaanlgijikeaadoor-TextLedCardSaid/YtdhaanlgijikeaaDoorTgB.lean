/- Package text: Retarget: what the program's visitor keeps. -/
import Derived.Test.YtdhaanlgijikeaaDoorTlP
import Derived.WalkKit
import Derived.Lib.Hide
import Derived.Outline
import Derived.Deep.QuietTactic
import Derived.BigQuiet
import Derived.Deep.RegionHeld3
import Derived.Laws.DeepStrings4
namespace Go.Proofs.YtdhaanlgijikeaaDoor
open Go.RowKit

theorem link_in (s : ByteArray) : ∀ x ∈ spans s, x.kind = 4 → x.from_ + 4 + x.text.size ≤ x.to_ := by
  refine spans_all (fun a b n _ _ h => by simp [plainSp] at h) (fun t ht b h => ?_)
  have hok := toksF_ok s s.size 0 t ht
  have hk : t.kind = 2 := by
    have h1 := spOf_kind s t hok.kind
    have h2 : (spOf s t).kind = 4 := h
    omega
  have h2 := hok.two (.inr (.inl hk))
  have h3 := hok.le
  have hc := cut_sizes (s.extract (t.from_ + 2) (t.to_ - 2))
  rw [ByteArray.size_extract] at hc
  have e : spOf s t = ⟨4, t.from_, t.to_, cutL (s.extract (t.from_ + 2) (t.to_ - 2)), cutR (s.extract (t.from_ + 2) (t.to_ - 2)), 0, false⟩ := by
    unfold spOf; rw [if_neg (by omega), if_neg (by omega), if_pos hk]
  rw [e]
  show t.from_ + 4 + (cutL (s.extract (t.from_ + 2) (t.to_ - 2))).size ≤ t.to_
  omega

def zeroSp : Sp := ⟨0, 0, 0, ⟨#[]⟩, ⟨#[]⟩, 0, false⟩
/-- The link with a number, and how many links there are. -/
def rtStep (lk : Int) (st : Sp × Nat) (x : Sp) : Sp × Nat := if x.kind = 4 then (if (st.2 : Int) = lk then x else st.1, st.2 + 1) else st
def rtAll (lk : Int) (l : List Sp) : Sp × Nat := l.foldl (rtStep lk) (zeroSp, 0)
theorem rtAll_snoc (lk : Int) (l : List Sp) (x : Sp) : rtAll lk (l ++ [x]) = rtStep lk (rtAll lk l) x := by unfold rtAll; rw [List.foldl_append]; rfl
theorem rt_fold (lk : Int) : ∀ (l : List Sp) (st : Sp × Nat), (l.foldl (rtStep lk) st).2 ≤ st.2 + l.length
  | [], st => Nat.le_refl _
  | x :: l, st => by
    rw [List.foldl_cons, List.length_cons]
    have h := rt_fold lk l (rtStep lk st x)
    have h2 : (rtStep lk st x).2 ≤ st.2 + 1 := by unfold rtStep; split <;> simp
    omega
theorem rt_len (lk : Int) (l : List Sp) : (rtAll lk l).2 ≤ l.length := by have := rt_fold lk l (zeroSp, 0); unfold rtAll; simpa using this

/-- A block that holds a span. -/
def SpBlk (w : World) (C : Nat) (x : Sp) : Prop := w.heap[C]? = some (.cells #[.int .i64 x.kind, .int .i64 x.from_, .int .i64 x.to_, .string x.text, .string x.shw, .int .i64 x.id, .bool x.strong] 29 (0, 0))
def putSpan (w : World) (C : Nat) (x : Sp) : World :=
  ((((((w.setCell ⟨C, 0, none⟩ (.int .i64 x.kind)).setCell ⟨C, 1, none⟩ (.int .i64 x.from_)).setCell ⟨C, 2, none⟩ (.int .i64 x.to_)).setCell ⟨C, 3, none⟩ (.string x.text)).setCell ⟨C, 4, none⟩ (.string x.shw)).setCell ⟨C, 5, none⟩ (.int .i64 x.id)).setCell ⟨C, 6, none⟩ (.bool x.strong)
theorem putSpan_blk {w : World} {C : Nat} {y : Sp} (h : SpBlk w C y) (x : Sp) : SpBlk (putSpan w C x) C x := by
  unfold SpBlk at h ⊢
  unfold putSpan
  simp [World.setCell, Array.getElem?_modify, h]
theorem putSpan_heap (w : World) (C : Nat) (x : Sp) (k : Nat) (h : k ≠ C) : (putSpan w C x).heap[k]? = w.heap[k]? := by
  unfold putSpan
  simp [World.setCell, Array.getElem?_modify, Ne.symm h]
theorem out_seti (w : World) (B i : Nat) (u : Value) : Out (fun k => k = B) w (w.setCell ⟨B, i, none⟩ u) :=
  ⟨rfl, rfl, rfl, by simp [World.setCell], fun k _ hk => Below.heap_setCell _ ⟨B, i, none⟩ _ k hk⟩
theorem Out.also {B i : Nat} {a b : World} (h : Out (fun k => k = B) a b) (u : Value) : Out (fun k => k = B) a (b.setCell ⟨B, i, none⟩ u) := h.trans (out_seti b B i u) (fun _ _ h => h)
theorem putSpan_out (w : World) (C : Nat) (x : Sp) : Out (fun k => k = C) w (putSpan w C x) := by
  unfold putSpan
  exact ((((((out_seti w C 0 _).also _).also _).also _).also _).also _).also _

structure RtI (N K C : Nat) (lk : Int) (done : List Sp) (F : Nat → Prop) (w : World) : Prop where
  n : One w N (.int .i64 (rtAll lk done).2) 3
  k : One w K (.int .i64 lk) 3
  c : SpBlk w C (rtAll lk done).1
  nk : N ≠ K
  nc : N ≠ C
  kc : K ≠ C
  f : F = fun j => j = N ∨ j = K ∨ j = C

theorem SpBlk.lt {w : World} {C : Nat} {x : Sp} (h : SpBlk w C x) : C < w.heap.size := lt_of_blk h
theorem SpBlk.kept {w w' : World} {C : Nat} {x : Sp} (h : SpBlk w C x) (hb : w'.heap[C]? = w.heap[C]?) : SpBlk w' C x := hb.trans h

set_option maxRecDepth 100000 in
set_option maxHeartbeats 4000000 in
theorem rt_step (N K C : Nat) (lk : Int) (done : List Sp) (x : Sp) (F : Nat → Prop) (w : World) (h : RtI N K C lk done F w) (hl : (rtAll lk done).2 ≤ 140737488355328) :
    Calls Tryd.prog 9 #[x.val, .pointer (some ⟨N, 0, none⟩), .pointer (some ⟨K, 0, none⟩), .pointer (some ⟨C, 0, none⟩)] w fun e w' => e = .returned (.tuple #[]) ∧ ∃ F', RtI N K C lk (done ++ [x]) F' w' ∧ Grew F w F' w' := by
  obtain ⟨hN, hK, hC, hNK, hNC, hKC, hF⟩ := h
  have lN := hN.lt
  have lK := hK.lt
  have lC := hC.lt
  have HF := Lib.hid hF
  clear hF
  have hsn := rtAll_snoc lk done x
  rcases hst : rtAll lk done with ⟨ch, cn⟩
  rw [hst] at hN hC hl hsn
  simp only at hN hC hl
  obtain ⟨o, ho⟩ : ∃ o, o = (Obj.cells #[.int .i64 x.kind, .int .i64 x.from_, .int .i64 x.to_, .string x.text, .string x.shw, .int .i64 x.id, .bool x.strong] 29) := ⟨_, rfl⟩
  have hk1 : ∀ k, k < w.heap.size → (w.alloc o).heap[k]? = w.heap[k]? := fun k hk => Below.heap_alloc w o k hk
  have hN1 : One (w.alloc o) N (.int .i64 cn) 3 := hN.kept (hk1 N lN)
  have hK1 : One (w.alloc o) K (.int .i64 lk) 3 := hK.kept (hk1 K lK)
  have hC1 : SpBlk (w.alloc o) C ch := hC.kept (hk1 C lC)
  have HO := Lib.hid (Out.of_below (F := F) ((Below.refl _ w).alloc (Nat.le_refl _) o))
  by_cases h4 : x.kind = 4
  · have q4 : ((x.kind : Int) != 4) = false := by simp; omega
    have cN := hN1.cell
    have cK := hK1.cell
    have fN := hN1.frozen
    by_cases hlk : (cn : Int) = lk
    · have hs2 : rtAll lk (done ++ [x]) = (x, cn + 1) := by rw [hsn]; unfold rtStep; rw [if_pos h4, if_pos hlk]
      have qlk : ((cn : Int) == lk) = true := by simpa using hlk
      have hX : RtI N K C lk (done ++ [x]) F ((putSpan (w.alloc o) C x).setCell ⟨N, 0, none⟩ (.int .i64 ((cn + 1 : Nat) : Int))) := by
        refine ⟨?_, ?_, ?_, hNK, hNC, hKC, HF.out⟩
        · rw [hs2]; exact (hN1.kept (putSpan_heap _ C x N hNC)).set_ _
        · exact (hK1.kept (putSpan_heap _ C x K hKC)).set_other (Ne.symm hNK)
        · rw [hs2]
          exact (putSpan_blk hC1 x).kept (Below.heap_setCell _ ⟨N, 0, none⟩ _ C (Ne.symm hNC))
      have hG : Grew F w F ((putSpan (w.alloc o) C x).setCell ⟨N, 0, none⟩ (.int .i64 ((cn + 1 : Nat) : Int))) := by
        refine ⟨(HO.out.trans (putSpan_out _ C x) (fun k _ (e : k = C) => by rw [HF.out]; exact .inr (.inr e))).trans (out_set _ N _) (fun k _ (e : k = N) => by rw [HF.out]; exact .inl e), fun k hk => .inl hk⟩
      have HX := Lib.hid hX
      have HG := Lib.hid hG
      have hN2 := hN1.kept (putSpan_heap (w.alloc o) C x N hNC)
      have CN2 := Lib.hid (And.intro hN2.cell hN2.frozen)
      have hbox : (w.alloc o).heap[w.heap.size]? = some o := heap_alloc_new w o
      obtain ⟨w1, hw1⟩ : ∃ w1, w1 = w.alloc o := ⟨_, rfl⟩
      obtain ⟨y, hy⟩ : ∃ y, y = x := ⟨_, rfl⟩
      rw [← hw1] at HX HG CN2 cN cK fN hbox hC1
      have HY := Lib.hid hy
      have HC1 := Lib.hid hC1
      clear hX hG hs2 hsn hN hK hC hN1 hN2 hK1 hC1 hk1 h4 hlk HO
      have HX2 : Hid (RtI N K C lk (done ++ [y]) F ((putSpan w1 C y).setCell ⟨N, 0, none⟩ (.int .i64 ((cn + 1 : Nat) : Int))) ∧ Grew F w F ((putSpan w1 C y).setCell ⟨N, 0, none⟩ (.int .i64 ((cn + 1 : Nat) : Int)))) := Lib.hid (by rw [hy]; exact ⟨HX.out, HG.out⟩)
      have CN3 : Hid ((putSpan w1 C y).cell? ⟨N, 0, none⟩ = some (.int .i64 cn) ∧ (putSpan w1 C y).frozen? ⟨N, 0, none⟩ = false) := Lib.hid (by rw [hy]; exact CN2.out)
      clear HX HG CN2 hy
      obtain ⟨xk, xf, xe, xt, xs, xi, xb⟩ := x
      rw [ho] at hbox
      rw [ho] at hw1
      clear ho
      unfold Sp.val
      simp only at q4 hbox hw1 ⊢
      rw [← HY.out]
      go_enter Tryd.func9, Tryd.ntmps9
      go_upto_region 1 with (fail)
      rw [← hw1]
      obtain ⟨P, hP⟩ : ∃ P, P = w.heap.size := ⟨_, rfl⟩
      rw [← hP] at hbox ⊢
      obtain ⟨⟨z0, z1, z2, z3, z4, z5, z6⟩, -⟩ := blk7 hbox
      obtain ⟨⟨y0, y1, y2, y3, y4, y5, y6⟩, -⟩ := blk7 HC1.out
      have f0 := frozen_of_row w1 C 0 _ _ HC1.out
      have f1 := frozen_of_row w1 C 1 _ _ HC1.out
      have f2 := frozen_of_row w1 C 2 _ _ HC1.out
      have f3 := frozen_of_row w1 C 3 _ _ HC1.out
      have f4 := frozen_of_row w1 C 4 _ _ HC1.out
      have f5 := frozen_of_row w1 C 5 _ _ HC1.out
      have f6 := frozen_of_row w1 C 6 _ _ HC1.out
      clear hw1 hbox hP
      go_upto_region 4 with (fail)
      obtain ⟨w3, hw3⟩ : ∃ w3, w3 = putSpan w1 C ⟨xk, xf, xe, xt, xs, xi, xb⟩ := ⟨_, rfl⟩
      rw [HY.out, ← hw3] at HX2 CN3
      rw [← HY.out] at HX2
      have c3 := CN3.out.1
      have f3' := CN3.out.2
      unfold putSpan at hw3
      simp only at hw3
      rw [← hw3]
      clear hw3 y0 y1 y2 y3 y4 y5 y6 z0 z1 z2 z3 z4 z5 z6 f0 f1 f2 f3 f4 f5 f6 cN cK fN CN3
      go_wp2
      go_end0
      exact ⟨rfl, F, HX2.out.1, HX2.out.2⟩
    · have hs2 : rtAll lk (done ++ [x]) = (ch, cn + 1) := by rw [hsn]; unfold rtStep; rw [if_pos h4, if_neg hlk]
      have qlk : ((cn : Int) == lk) = false := by simpa using hlk
      have hX : RtI N K C lk (done ++ [x]) F ((w.alloc o).setCell ⟨N, 0, none⟩ (.int .i64 ((cn + 1 : Nat) : Int))) := by
        refine ⟨?_, hK1.set_other (Ne.symm hNK), ?_, hNK, hNC, hKC, HF.out⟩
        · rw [hs2]; exact hN1.set_ _
        · rw [hs2]
          exact hC1.kept (Below.heap_setCell _ ⟨N, 0, none⟩ _ C (Ne.symm hNC))
      have hG : Grew F w F ((w.alloc o).setCell ⟨N, 0, none⟩ (.int .i64 ((cn + 1 : Nat) : Int))) :=
        ⟨HO.out.trans (out_set _ N _) (fun k _ (e : k = N) => by rw [HF.out]; exact .inl e), fun k hk => .inl hk⟩
      have hbox : (w.alloc o).heap[w.heap.size]? = some o := heap_alloc_new w o
      obtain ⟨w1, hw1⟩ : ∃ w1, w1 = w.alloc o := ⟨_, rfl⟩
      obtain ⟨y, hy⟩ : ∃ y, y = x := ⟨_, rfl⟩
      rw [← hw1] at hX hG cN cK fN hbox
      have HY := Lib.hid hy
      rw [← hy] at hX
      have HX2 := Lib.hid (And.intro hX hG)
      clear hX hG hs2 hsn hN hK hC hN1 hK1 hC1 hk1 h4 hlk HO hy
      obtain ⟨xk, xf, xe, xt, xs, xi, xb⟩ := x
      rw [ho] at hbox
      rw [ho] at hw1
      clear ho
      unfold Sp.val
      simp only at q4 hbox hw1 ⊢
      rw [← HY.out]
      go_enter Tryd.func9, Tryd.ntmps9
      go_upto_region 1 with (fail)
      rw [← hw1]
      obtain ⟨P, hP⟩ : ∃ P, P = w.heap.size := ⟨_, rfl⟩
      rw [← hP] at hbox ⊢
      obtain ⟨⟨z0, z1, z2, z3, z4, z5, z6⟩, -⟩ := blk7 hbox
      clear hw1 hbox hP
      go_wp2
      go_end0
      exact ⟨rfl, F, HX2.out.1, HX2.out.2⟩
  · have q4 : ((x.kind : Int) != 4) = true := by simp; omega
    have hs2 : rtAll lk (done ++ [x]) = (ch, cn) := by rw [hsn]; unfold rtStep; rw [if_neg h4]
    have hX : RtI N K C lk (done ++ [x]) F (w.alloc o) := ⟨by rw [hs2]; exact hN1, hK1, by rw [hs2]; exact hC1, hNK, hNC, hKC, HF.out⟩
    have HX := Lib.hid hX
    obtain ⟨y, hy⟩ : ∃ y, y = x := ⟨_, rfl⟩
    rw [← hy] at HX
    have HY := Lib.hid hy
    clear hX hy hs2 hsn hN hK hC hN1 hK1 hC1 hk1 h4
    obtain ⟨xk, xf, xe, xt, xs, xi, xb⟩ := x
    subst ho
    unfold Sp.val
    simp only at HX HO q4 ⊢
    rw [← HY.out]
    go_enter Tryd.func9, Tryd.ntmps9
    go_wp2
    refine bodyPost_ret (results_none rfl _ _ _) rfl ?_
    exact ⟨rfl, F, HX.out, HO.out, fun k hk => .inl hk⟩
end Go.Proofs.YtdhaanlgijikeaaDoor
