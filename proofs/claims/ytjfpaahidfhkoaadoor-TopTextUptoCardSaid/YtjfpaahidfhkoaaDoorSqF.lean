/- Package text: Parts: what the program cuts off. -/
import Derived.Test.YtjfpaahidfhkoaaDoorSqA
import Derived.WalkKit
import Derived.Lib.Hide
import Derived.Outline
import Derived.Deep.QuietTactic
import Derived.BigQuiet
import Derived.Deep.RegionHeld3
import Derived.Deep.AppendLies
import Derived.Deep.RegionLaw
namespace Go.Proofs.YtjfpaahidfhkoaaDoor
open Go.RowKit

/-- The parts so far, and how far they go. -/
structure Cut where
  out : List ByteArray
  done : Nat
def cutAt (s : ByteArray) (c : Cut) (a : Nat) : Cut := if c.done < a then ⟨c.out ++ [s.extract c.done a], a⟩ else c
def isMark (x : Sp) : Prop := x.kind = 4 ∨ x.kind = 5 ∨ x.kind = 6
instance (x : Sp) : Decidable (isMark x) := inferInstanceAs (Decidable (_ ∨ _))
def cutSp (s : ByteArray) (c : Cut) (x : Sp) : Cut := if isMark x then cutAt s (cutAt s c x.from_) x.to_ else c
def cutAll (s : ByteArray) (l : List Sp) : Cut := l.foldl (cutSp s) ⟨[], 0⟩
def partsOf (s : ByteArray) : List ByteArray := (cutAt s (cutAll s (spans s)) s.size).out
theorem cutAll_snoc (s : ByteArray) (l : List Sp) (x : Sp) : cutAll s (l ++ [x]) = cutSp s (cutAll s l) x := by unfold cutAll; rw [List.foldl_append]; rfl
theorem cutAt_len {s : ByteArray} {c : Cut} {a : Nat} (ha : a ≤ s.size) (h : c.done ≤ s.size) : (cutAt s c a).done ≤ s.size ∧ (cutAt s c a).out.length ≤ c.out.length + 1 := by
  unfold cutAt
  split
  · exact ⟨ha, by simp⟩
  · exact ⟨h, by omega⟩
theorem cutSp_len {s : ByteArray} {c : Cut} {x : Sp} (hx : SpIn s x) (h : c.done ≤ s.size) : (cutSp s c x).done ≤ s.size ∧ (cutSp s c x).out.length ≤ c.out.length + 2 := by
  have h1 := hx.lt
  have h2 := hx.hi
  unfold cutSp
  split
  · have a1 := cutAt_len (s := s) (c := c) (a := x.from_) (by omega) h
    have a2 := cutAt_len (s := s) (c := cutAt s c x.from_) (a := x.to_) h2 a1.1
    exact ⟨a2.1, by omega⟩
  · exact ⟨h, by omega⟩
theorem cutAll_len {s : ByteArray} : ∀ (l : List Sp) (c : Cut), (∀ x ∈ l, SpIn s x) → c.done ≤ s.size → (l.foldl (cutSp s) c).done ≤ s.size ∧ (l.foldl (cutSp s) c).out.length ≤ c.out.length + 2 * l.length
  | [], c, _, h => ⟨h, by simp⟩
  | x :: l, c, hl, h => by
    have a1 := cutSp_len (hl x (List.mem_cons_self ..)) h
    have a2 := cutAll_len l (cutSp s c x) (fun y hy => hl y (List.mem_cons_of_mem _ hy)) a1.1
    rw [List.foldl_cons, List.length_cons]
    exact ⟨a2.1, by omega⟩

/-- What cutAt keeps. -/
structure CutI (s : ByteArray) (B D S : Nat) (c : Cut) (Fb : Nat → Prop) (w : World) : Prop where
  v : VList 42 9 B (strs c.out) Fb w
  d : One w D (.int .i64 c.done) 3
  s_ : One w S (.string s) 9
  nd : ¬ Fb D
  ns : ¬ Fb S
  ds : D ≠ S
def CutF (D S : Nat) (Fb : Nat → Prop) : Nat → Prop := fun k => Fb k ∨ k = D ∨ k = S

theorem cut_fin {s T : ByteArray} {B D S a dn gg cap : Nat} {L : List ByteArray} {v : Value} {Fb : Nat → Prop} {w w1 : World} (hB3 : One w1 B v 42) (ho : Out (fun k => v.ownBlock = some k) w w1)
    (hD : One w D (.int .i64 dn) 3) (hS : One w S (.string s) 9) (hDB : D ≠ B) (hDv : v.ownBlock ≠ some D) (hSB : S ≠ B) (hSv : v.ownBlock ≠ some S) (hDS : D ≠ S) (hne : v.ownBlock ≠ some B) (lB : B < w.heap.size)
    (hown2 : w1.ownsRow 0 9 1 (.slice (some ⟨gg, 0, none⟩) (L.length + 1) cap) (L.length + 1) (strs L ++ [.string T])) (hat : v.ownBlock = some gg ∨ gg = w.heap.size + 1) (hF : Fb = fun k => k = B ∨ v.ownBlock = some k) :
    ∃ Fb', CutI s B D S ⟨L ++ [T], a⟩ Fb' ((w1.setCell ⟨B, 0, none⟩ (.slice (some ⟨gg, 0, none⟩) (L.length + 1) cap)).setCell ⟨D, 0, none⟩ (.int .i64 a)) ∧ Grew (CutF D S Fb) w (CutF D S Fb') ((w1.setCell ⟨B, 0, none⟩ (.slice (some ⟨gg, 0, none⟩) (L.length + 1) cap)).setCell ⟨D, 0, none⟩ (.int .i64 a)) := by
  have lD := hD.lt
  have lS := hS.lt
  have hgB : gg ≠ B := by rintro rfl; rcases hat with h | h; exact hne h; omega
  have hgD : gg ≠ D := by rintro rfl; rcases hat with h | h; exact hDv h; omega
  have hgS : gg ≠ S := by rintro rfl; rcases hat with h | h; exact hSv h; omega
  have hob : (Value.slice (some ⟨gg, 0, none⟩) (L.length + 1) cap).ownBlock = some gg := rfl
  refine ⟨fun k => k = B ∨ k = gg, ⟨⟨.slice (some ⟨gg, 0, none⟩) (L.length + 1) cap, ?_, ?_, ?_, ?_⟩, ?_, ?_, ?_, ?_, hDS⟩, ⟨?_, ?_⟩⟩
  · exact (hB3.set_ _).set_other (Ne.symm hDB)
  · rw [strs_len, List.length_append, strs_app]
    exact ownsRow_kept hown2 (fun k hk => by
      have e : gg = k := by rw [hob] at hk; exact Option.some.inj hk
      subst e
      exact (Below.heap_setCell _ ⟨D, 0, none⟩ _ gg hgD).trans (Below.heap_setCell _ ⟨B, 0, none⟩ _ gg hgB))
  · rw [hob]; exact fun e => hgB (Option.some.inj e)
  · funext k; rw [hob]; simp [eq_comm]
  · exact ((hD.kept (ho.block D lD hDv)).set_other hDB).set_ _
  · exact ((hS.kept (ho.block S lS hSv)).set_other hSB).set_other (Ne.symm hDS)
  · rintro (h | h); exact hDB h; exact hgD h.symm
  · rintro (h | h); exact hSB h; exact hgS h.symm
  · refine (ho.mono (fun k hk => .inl (by rw [hF]; exact .inr hk))).trans (G := fun k => k = B ∨ k = D) ?_ ?_
    · exact (out_set w1 B _ |>.mono (fun k (e : k = B) => .inl e)).trans (out_set _ D _) (fun k _ (e : k = D) => .inr e)
    · rintro k _ (e | e)
      · exact .inl (by rw [hF]; exact .inl e)
      · exact .inr (.inl e)
  · rintro k ((h | h) | h)
    · exact .inl (.inl (by rw [hF]; exact .inl h))
    · rcases hat with h2 | h2
      · exact .inl (.inl (by rw [hF]; exact .inr (by rw [h]; exact h2)))
      · exact .inr (by omega)
    · exact .inl (.inr h)

set_option maxRecDepth 100000 in
set_option maxHeartbeats 8000000 in
theorem cutAt_any (s : ByteArray) (B D S : Nat) (c : Cut) (a : Nat) (Fb : Nat → Prop) (w : World) (h : CutI s B D S c Fb w) (ha : a ≤ s.size) (hl : c.out.length ≤ 16000000000) (hs : s.size ≤ 4000000000) :
    Calls Tryd.prog 35 #[.int .i64 a, .pointer (some ⟨D, 0, none⟩), .pointer (some ⟨B, 0, none⟩), .pointer (some ⟨S, 0, none⟩)] w fun e w' => e = .returned (.tuple #[]) ∧ ∃ Fb', CutI s B D S (cutAt s c a) Fb' w' ∧ Grew (CutF D S Fb) w (CutF D S Fb') w' := by
  obtain ⟨⟨v, hB, hown, hne, hFb⟩, hD, hS, hnD, hnS, hDS⟩ := h
  obtain ⟨i0, hi, hz0, hz1, hz2⟩ := info_parts infoStrT
  have hDB : D ≠ B := fun e => hnD (by rw [hFb]; exact .inl e)
  have hDv : v.ownBlock ≠ some D := fun e => hnD (by rw [hFb]; exact .inr e)
  have hSB : S ≠ B := fun e => hnS (by rw [hFb]; exact .inl e)
  have hSv : v.ownBlock ≠ some S := fun e => hnS (by rw [hFb]; exact .inr e)
  have HFB := Lib.hid hFb
  clear hFb hnD hnS
  obtain ⟨L, dn⟩ := c
  simp only at hown hD hl ⊢
  have lB := hB.lt
  have lD := hD.lt
  have lS := hS.lt
  have cB := hB.cell
  have cD := hD.cell
  have cS := hS.cell
  by_cases hlt : dn < a
  · have e : cutAt s ⟨L, dn⟩ a = ⟨L ++ [s.extract dn a], a⟩ := by unfold cutAt; rw [if_pos hlt]
    rw [e]
    clear e
    have p1 : (dn : Int) < a := by omega
    have p2 : (dn : Int) ≤ a := by omega
    have p3 : (a : Int) ≤ s.size := by omega
    have p4 : (0 : Int) ≤ dn := by omega
    have hown1 : w.ownsRow 0 9 1 v L.length (strs L) := by rwa [strs_len] at hown
    obtain ⟨T, hT⟩ : ∃ T, T = s.extract dn a := ⟨_, rfl⟩
    rw [← hT]
    have HT := Lib.hid hT
    have fB := hB.frozen
    have cB1 : (w.alloc (.cells #[.string (s.extract dn a)] 9)).cell? ⟨B, 0, none⟩ = some v := (hB.kept (Below.heap_alloc w _ B lB)).cell
    have fD := hD.frozen
    clear hT hown
    go_enter Tryd.func35, Tryd.ntmps35
    go_wp2_with fail
    go_region_law
      ((refine step_append_lies _ (by rfl) _ _ _ (by rfl) 0 9 i0 _ 1 16 Tryd.underlying42 hi hz0 hz1 hz2 rfl (by omega) v L.length (strs L) (by rfl) (ownsRow_kept hown1 (fun k hk => Below.heap_alloc w _ k (hown1.lt k hk).2))
          ⟨w.heap.size, 0, none⟩ 1 1 [.string (s.extract dn a)] (by rfl) (by rfl) (World.news_of_block (cs := #[.string (s.extract dn a)]) (t := 9) (fr := (0, 0)) (heap_alloc_new w _)) (by simp [Value.oneCell'])
          (by omega) (by unfold maxLen; omega) (by omega) (Nat.zero_le _) (w.heap.size + 1) (by simp) ?_; intro gg cap w1 hown2 hgrow hat hlt1; have hB3 : One w1 B v 42 := hB.kept ((hgrow.block B (by simp; omega) (fun e => hne e.symm)).trans (Below.heap_alloc w _ B lB)); have c3 := hB3.cell; have f3 := hB3.frozen))
    all_goals
      have ho : Out (fun k => v.ownBlock = some k) w w1 := ⟨hgrow.os, hgrow.tape, hgrow.output, (by have := hgrow.size; simp at this; omega), fun k hk hn => (hgrow.block k (by simp; omega) (fun e => hn e.symm)).trans (Below.heap_alloc w _ k hk)⟩
      have d1 : One (w1.setCell ⟨B, 0, none⟩ (.slice (some ⟨gg, 0, none⟩) (L.length + 1) cap)) D (.int .i64 dn) 3 := (hD.kept (ho.block D lD hDv)).set_other hDB
      have dc := d1.cell
      have df := d1.frozen
      have HX := Lib.hid (cut_fin (a := a) (T := T) hB3 ho hD hS hDB hDv hSB hSv hDS hne lB (by rw [HT.out]; exact hown2) hat HFB.out)
      clear hgrow hown2 hat hB3 c3 f3 cB1 d1 ho cB cD cS fB fD
      go_wp2
      go_end0
      exact ⟨rfl, HX.out⟩
  · have e : cutAt s ⟨L, dn⟩ a = ⟨L, dn⟩ := by unfold cutAt; rw [if_neg hlt]
    rw [e]
    clear e
    have p1 : ¬ (dn : Int) < a := by omega
    have HX : Hid (CutI s B D S ⟨L, dn⟩ Fb w) := Lib.hid ⟨⟨v, hB, hown, hne, HFB.out⟩, hD, hS, by rw [HFB.out]; rintro (e | e); exact hDB e; exact hDv e, by rw [HFB.out]; rintro (e | e); exact hSB e; exact hSv e, hDS⟩
    clear hown
    go_enter Tryd.func35, Tryd.ntmps35
    go_wp2
    go_end0
    exact ⟨rfl, Fb, HX.out, Grew.refl _ _⟩
end Go.Proofs.YtjfpaahidfhkoaaDoor
