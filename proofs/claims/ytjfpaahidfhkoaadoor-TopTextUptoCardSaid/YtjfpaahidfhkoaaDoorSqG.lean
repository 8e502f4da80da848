/- Package text: Parts: the list that the program gives. -/
import Derived.Test.YtjfpaahidfhkoaaDoorSqF
import Derived.WalkKit
import Derived.Lib.Hide
import Derived.Outline
import Derived.Deep.QuietTactic
import Derived.BigQuiet
import Derived.Deep.RegionHeld3
namespace Go.Proofs.YtjfpaahidfhkoaaDoor
open Go.RowKit

theorem CutI.lt {s : ByteArray} {B D S : Nat} {c : Cut} {Fb : Nat → Prop} {w : World} (h : CutI s B D S c Fb w) : ∀ k, CutF D S Fb k → k < w.heap.size := by
  rintro k (hk | rfl | rfl)
  · exact h.v.lt k hk
  · exact h.d.lt
  · exact h.s_.lt
theorem CutI.loc {s : ByteArray} {B D S : Nat} {c : Cut} {Fb : Nat → Prop} {w w' : World} (h : CutI s B D S c Fb w) (hk : ∀ k, CutF D S Fb k → w'.heap[k]? = w.heap[k]?) : CutI s B D S c Fb w' :=
  ⟨h.v.loc (fun k hf => hk k (.inl hf)), h.d.kept (hk D (.inr (.inl rfl))), h.s_.kept (hk S (.inr (.inr rfl))), h.nd, h.ns, h.ds⟩

theorem cutAt_le1 (s : ByteArray) (c : Cut) (a : Nat) : (cutAt s c a).out.length ≤ c.out.length + 1 := by
  unfold cutAt
  split
  · simp
  · omega
def cutVal (D B S : Nat) : Value := .func (Fn.func 35) #[] #[.pointer (some ⟨D, 0, none⟩), .pointer (some ⟨B, 0, none⟩), .pointer (some ⟨S, 0, none⟩)]
def PartsI (s : ByteArray) (B D S C : Nat) (done : List Sp) (F : Nat → Prop) (w : World) : Prop :=
  ∃ Fb, CutI s B D S (cutAll s done) Fb w ∧ One w C (cutVal D B S) 69 ∧ ¬ CutF D S Fb C ∧ F = fun k => CutF D S Fb k ∨ k = C
def PartsStep (s : ByteArray) (B D S C : Nat) (done : List Sp) (x : Sp) (F : Nat → Prop) (w : World) (e : Ending) (w' : World) : Prop :=
  e = .returned (.tuple #[]) ∧ ∃ F', PartsI s B D S C (done ++ [x]) F' w' ∧ Grew F w F' w'

set_option maxRecDepth 100000 in
set_option maxHeartbeats 4000000 in
theorem parts_step (s : ByteArray) (B D S C : Nat) (done : List Sp) (x : Sp) (F : Nat → Prop) (w : World) (h : PartsI s B D S C done F w) (hx : SpIn s x) (hl : (cutAll s done).out.length ≤ 8000000000) (hs : s.size ≤ 4000000000) :
    Calls Tryd.prog 36 #[x.val, .pointer (some ⟨C, 0, none⟩)] w (PartsStep s B D S C done x F w) := by
  obtain ⟨Fb, hI, hC, hnC, hF⟩ := h
  have l1 := hx.lt
  have l2 := hx.hi
  have HF := Lib.hid hF
  clear hF
  have lC := hC.lt
  obtain ⟨o, ho⟩ : ∃ o, o = (Obj.cells #[.int .i64 x.kind, .int .i64 x.from_, .int .i64 x.to_, .string x.text, .string x.shw, .int .i64 x.id, .bool x.strong] 34) := ⟨_, rfl⟩
  have hk1 : ∀ k, k < w.heap.size → (w.alloc o).heap[k]? = w.heap[k]? := fun k hk => Below.heap_alloc w o k hk
  have hC1 : One (w.alloc o) C (cutVal D B S) 69 := hC.kept (hk1 C lC)
  have hI1 : CutI s B D S (cutAll s done) Fb (w.alloc o) := hI.loc (fun k hk => hk1 k (hI.lt k hk))
  have ho1 : Out (fun _ => False) w (w.alloc o) := Out.of_below ((Below.refl _ _).alloc (Nat.le_refl _) _)
  obtain ⟨c, hc⟩ : ∃ c, c = cutAll s done := ⟨_, rfl⟩
  have hsn : cutAll s (done ++ [x]) = cutSp s c x := by rw [cutAll_snoc, hc]
  rw [← hc] at hI1 hl
  by_cases hm : isMark x
  · have hsn2 : cutAll s (done ++ [x]) = cutAt s (cutAt s c x.from_) x.to_ := by rw [hsn]; unfold cutSp; rw [if_pos hm]
    have hbox : (w.alloc o).heap[w.heap.size]? = some o := heap_alloc_new w o
    have hlt := hI.lt
    obtain ⟨y, hy⟩ : ∃ y, y = x := ⟨_, rfl⟩
    rw [← hy] at hsn2 ⊢
    have HY := Lib.hid hy
    have HSN := Lib.hid hsn2
    have HI1 := Lib.hid hI1
    have HC1 := Lib.hid hC1
    have HO1 := Lib.hid ho1
    have HNC := Lib.hid hnC
    have HLT := Lib.hid hlt
    have HIL := Lib.hid hI
    have ck := hC1.cell
    clear hI hI1 hC hC1 hnC hlt hy hsn2 hsn hk1 hc ho1
    obtain ⟨xk, xf, xe, xt, xs, xi, xb⟩ := x
    subst ho
    unfold cutVal at ck
    rw [HY.out]
    unfold Sp.val
    simp only at HSN HI1 HO1 HC1 l1 l2 ck hm hbox ⊢
    rw [← HY.out]
    have HBOX := Lib.hid hbox
    have HM : Hid (isMark ⟨xk, xf, xe, xt, xs, xi, xb⟩) := Lib.hid hm
    have hcase : (((xk : Int) == 4) = true) ∨ (((xk : Int) == 4) = false ∧ ((xk : Int) == 5) = true) ∨ (((xk : Int) == 4) = false ∧ ((xk : Int) == 5) = false ∧ ((xk : Int) == 6) = true) := by
      rcases hm with h | h | h
      · exact .inl (by simp at h; simp [h])
      · exact .inr (.inl (by simp at h; simp [h]))
      · exact .inr (.inr (by simp at h; simp [h]))
    have hen6 : ∀ (xs : Array Value) (W : World), (callFunc 35 xs).run Tryd.prog W = .ok (.enter 35 xs) W := enters_of Tryd.func35 (by kernel_rfl) rfl
    clear hm hbox
    rcases hcase with q4 | ⟨q4, q5⟩ | ⟨q4, q5, q6⟩
    all_goals
      go_enter Tryd.func36, Tryd.ntmps36
      go_wp2_with fail
      refine (cutAt_any s B D S c xf Fb _ HI1.out (by omega) (by omega) hs).mono ?_
      rintro e2 w2 ⟨rfl, F2, hI2, hg2⟩
      have hb2 : w2.heap[w.heap.size]? = some (Obj.cells #[.int .i64 xk, .int .i64 xf, .int .i64 xe, .string xt, .string xs, .int .i64 xi, .bool xb] 34) := by
        rw [hg2.out.block w.heap.size (by simp) (fun hf => by have := HLT.out _ hf; omega)]; exact HBOX.out
      have hC2 : One w2 C (cutVal D B S) 69 := HC1.out.kept (hg2.out.block C (by simp; omega) HNC.out)
      have hn2 : ¬ CutF D S F2 C := fun hf => by
        rcases hg2.new C hf with h | h
        · exact HNC.out h
        · simp at h; omega
      obtain ⟨⟨y0, y1, y2, y3, y4, y5, y6⟩, -⟩ := blk7 hb2
      have ck2 := hC2.cell
      unfold cutVal at ck2
      have HI2 := Lib.hid hI2
      have HG2 := Lib.hid hg2
      have HC2 := Lib.hid hC2
      have HN2 := Lib.hid hn2
      have hz2 := hg2.out.size
      clear hI2 hg2 hb2 hC2 hn2 ck
      go_wp2_with fail
      refine (cutAt_any s B D S (cutAt s c xf) xe F2 _ HI2.out (by omega) (Nat.le_trans (cutAt_le1 s c xf) (by omega)) hs).mono ?_
      rintro e3 w3 ⟨rfl, F3, hI3, hg3⟩
      have hC3 : One w3 C (cutVal D B S) 69 := HC2.out.kept (hg3.out.block C (by have := HC2.out.lt; omega) HN2.out)
      have hn3 : ¬ CutF D S F3 C := fun hf => by
        rcases hg3.new C hf with h | h
        · exact HN2.out h
        · have := HC2.out.lt; omega
      have hX : PartsStep s B D S C done y F w (.returned (.tuple #[])) w3 := by
        refine ⟨rfl, fun k => CutF D S F3 k ∨ k = C, ⟨F3, by rw [HSN.out, HY.out]; exact hI3, hC3, hn3, rfl⟩, ⟨?_, ?_⟩⟩
        · rw [HF.out]
          exact (((HO1.out.mono (fun _ h => h.elim)).trans (HG2.out.trans hg3).out (fun k hk h => .inl h)))
        · rw [HF.out]
          rintro k (hk | hk)
          · rcases (HG2.out.trans hg3).new k hk with h | h
            · exact .inl (.inl h)
            · exact .inr (by simp at h; omega)
          · exact .inl (.inr hk)
      have HX := Lib.hid hX
      clear hX hI3 hg3 hC3 hn3
      go_wp2
      go_end0
      exact HX.out
  · have hsn2 : cutAll s (done ++ [x]) = c := by rw [hsn]; unfold cutSp; rw [if_neg hm]
    have hX : PartsStep s B D S C done x F w (.returned (.tuple #[])) (w.alloc o) := by
      refine ⟨rfl, F, ⟨Fb, by rw [hsn2]; exact hI1, hC1, hnC, HF.out⟩, ⟨ho1.mono (fun _ h => h.elim), fun k hk => .inl hk⟩⟩
    have HX := Lib.hid hX
    have q4 : ((x.kind : Int) == 4) = false := by simp; intro h; exact hm (.inl (by omega))
    have q5 : ((x.kind : Int) == 5) = false := by simp; intro h; exact hm (.inr (.inl (by omega)))
    have q6 : ((x.kind : Int) == 6) = false := by simp; intro h; exact hm (.inr (.inr (by omega)))
    have ck := hC1.cell
    obtain ⟨y, hy⟩ : ∃ y, y = x := ⟨_, rfl⟩
    rw [← hy] at HX
    have HY := Lib.hid hy
    clear hX hsn2 hsn hI hI1 hC hC1 hnC ho1 hk1 hc hm hy
    obtain ⟨xk, xf, xe, xt, xs, xi, xb⟩ := x
    subst ho
    unfold Sp.val
    simp only at HX q4 q5 q6 ck ⊢
    rw [← HY.out]
    go_enter Tryd.func36, Tryd.ntmps36
    go_wp2
    go_end0
    exact HX.out

theorem cutAll_pre {s : ByteArray} {done post : List Sp} (h : spans s = done ++ post) : (cutAll s done).out.length ≤ 2 * s.size ∧ (cutAll s done).done ≤ s.size := by
  have h1 := cutAll_len (s := s) done ⟨[], 0⟩ (fun x hx => (spans_row s).mem x (by rw [h]; exact List.mem_append_left _ hx)) (Nat.zero_le _)
  have h2 := spans_count (spans_row s)
  rw [h, List.length_append] at h2
  unfold cutAll
  simp only [List.length_nil] at h1
  exact ⟨by omega, h1.1⟩
theorem parts_visits (s : ByteArray) (B D S C : Nat) (hs : s.size ≤ 4000000000) : Visits Tryd.prog 36 #[.pointer (some ⟨C, 0, none⟩)] spArgs (spans s) (PartsI s B D S C) where
  enter := enters_of Tryd.func36 (by kernel_rfl) rfl
  lt := by
    rintro done F w ⟨Fb, hI, hC, hn, rfl⟩ k (hk | rfl)
    · exact hI.lt k hk
    · exact hC.lt
  loc := by
    rintro done F w w' ⟨Fb, hI, hC, hn, rfl⟩ hk _
    exact ⟨Fb, hI.loc (fun k h => hk k (.inl h)), hC.kept (hk C (.inr rfl)), hn, rfl⟩
  step := by
    intro done x post F w ha h
    refine (parts_step s B D S C done x F w h ((spans_row s).mem x (by rw [ha]; simp)) (by have := (cutAll_pre ha).1; omega) hs).mono ?_
    rintro e w' ⟨rfl, F', h1, h2⟩
    exact ⟨rfl, F', h1, h2⟩
end Go.Proofs.YtjfpaahidfhkoaaDoor
