/- Package text: the targets, the tags and the references of a string: what the program's visitors append. -/
import Derived.Test.YtjfpaahidfhkoaaGreatDoorTyD
import Derived.WalkKit
import Derived.Lib.Hide
import Derived.Outline
import Derived.Deep.QuietTactic
import Derived.BigQuiet
import Derived.Deep.RegionHeld3
namespace Go.Proofs.YtjfpaahidfhkoaaGreatDoor
open Go.RowKit

theorem infoStrT : (Tryz.prog.info? 9).map (fun i => (i.zero, i.size, i.bytes)) = some (some (.string ⟨#[]⟩), 1, 16) := by kernel_rfl
theorem infoIntT : (Tryz.prog.info? 3).map (fun i => (i.zero, i.size, i.bytes)) = some (some (.int .i64 0), 1, 8) := by kernel_rfl

/-- The texts of the spans of a kind. -/
def txtL (k : Nat) (l : List Sp) : List ByteArray := (l.filter fun x => x.kind == k).map Sp.text
def idL (l : List Sp) : List Nat := (l.filter fun x => x.kind == 5).map Sp.id
def strs (l : List ByteArray) : List Value := l.map Value.string
def nats (l : List Nat) : List Value := l.map fun (n : Nat) => Value.int .i64 n
theorem strs_len (l : List ByteArray) : (strs l).length = l.length := by simp [strs]
theorem nats_len (l : List Nat) : (nats l).length = l.length := by simp [nats]
theorem strs_app (a b : List ByteArray) : strs (a ++ b) = strs a ++ strs b := by simp [strs]
theorem nats_app (a b : List Nat) : nats (a ++ b) = nats a ++ nats b := by simp [nats]
theorem txtL_snoc (k : Nat) (l : List Sp) (x : Sp) : txtL k (l ++ [x]) = if x.kind = k then txtL k l ++ [x.text] else txtL k l := by
  unfold txtL
  rw [List.filter_append]
  by_cases h : x.kind = k <;> simp [List.filter_cons, h]
theorem idL_snoc (l : List Sp) (x : Sp) : idL (l ++ [x]) = if x.kind = 5 then idL l ++ [x.id] else idL l := by
  unfold idL
  rw [List.filter_append]
  by_cases h : x.kind = 5 <;> simp [List.filter_cons, h]
theorem txtL_len (k : Nat) (l : List Sp) : (txtL k l).length ≤ l.length := by
  unfold txtL; rw [List.length_map]; exact List.length_filter_le _ _
theorem idL_len (l : List Sp) : (idL l).length ≤ l.length := by
  unfold idL; rw [List.length_map]; exact List.length_filter_le _ _

/-- A list of values of one cell whose header is in block B; F names its blocks; G is a block beside it, that is only read. -/
def VList (T E : TypeId) (B : Nat) (c : List Value) (F : Nat → Prop) (w : World) : Prop :=
  ∃ v, One w B v T ∧ w.ownsRow 0 E 1 v c.length c ∧ v.ownBlock ≠ some B ∧ F = fun k => k = B ∨ v.ownBlock = some k
theorem VList.lt {T E : TypeId} {B : Nat} {c : List Value} {F : Nat → Prop} {w : World} (h : VList T E B c F w) : ∀ k, F k → k < w.heap.size := by
  obtain ⟨v, hB, hown, _, rfl⟩ := h
  rintro k (rfl | hk)
  · exact hB.lt
  · exact (hown.lt k hk).2
theorem VList.loc {T E : TypeId} {B : Nat} {c : List Value} {F : Nat → Prop} {w w' : World} (h : VList T E B c F w) (hk : ∀ k, F k → w'.heap[k]? = w.heap[k]?) : VList T E B c F w' := by
  obtain ⟨v, hB, hown, hne, rfl⟩ := h
  exact ⟨v, hB.kept (hk B (.inl rfl)), ownsRow_kept hown (fun k h => hk k (.inr h)), hne, rfl⟩

def TextsI (K kd B : Nat) (l : List Sp) (F : Nat → Prop) (w : World) : Prop :=
  ∃ Fb, VList 31 9 B (strs (txtL kd l)) Fb w ∧ One w K (.int .i64 kd) 3 ∧ ¬ Fb K ∧ F = fun k => Fb k ∨ k = K
def RefsI (B : Nat) (l : List Sp) (F : Nat → Prop) (w : World) : Prop := VList 34 3 B (nats (idL l)) F w

/-- One value is appended. -/
def VAdded (T E : TypeId) (B : Nat) (c : List Value) (F : Nat → Prop) (w : World) (e : Ending) (w' : World) : Prop :=
  e = .returned (.tuple #[]) ∧ ∃ F', VList T E B c F' w' ∧ Grew F w F' w'

set_option maxRecDepth 100000 in
set_option maxHeartbeats 4000000 in
theorem ref_added (B : Nat) (l : List Sp) (x : Sp) (F : Nat → Prop) (w : World) (h : RefsI B l F w) (hl : l.length ≤ 4000000000) :
    Calls Tryz.prog 48 #[x.val, .pointer (some ⟨B, 0, none⟩)] w (VAdded 34 3 B (nats (idL (l ++ [x]))) F w) := by
  obtain ⟨v, hB, hown, hne, hF⟩ := h
  obtain ⟨i0, hi, hz0, hz1, hz2⟩ := info_parts infoIntT
  have HF := Lib.hid hF
  clear hF
  have lB := hB.lt
  obtain ⟨o, ho⟩ : ∃ o, o = (Obj.cells #[.int .i64 x.kind, .int .i64 x.from_, .int .i64 x.to_, .string x.text, .string x.shw, .int .i64 x.id, .bool x.strong] 27) := ⟨_, rfl⟩
  have hk1 : ∀ k, k < w.heap.size → (w.alloc o).heap[k]? = w.heap[k]? := fun k hk => Below.heap_alloc w o k hk
  have hB1 : One (w.alloc o) B v 34 := hB.kept (hk1 B lB)
  have c0 := hB1.cell
  have hlen := idL_len l
  by_cases h5 : x.kind = 5
  · have q5 : ((x.kind : Int) == 5) = true := by simp; omega
    rw [idL_snoc, if_pos h5]
    obtain ⟨o2, ho2⟩ : ∃ o2, o2 = (Obj.cells #[.int .i64 x.id] 3) := ⟨_, rfl⟩
    have hk2 : ∀ k, k < w.heap.size → ((w.alloc o).alloc o2).heap[k]? = w.heap[k]? := fun k hk => (Below.heap_alloc _ o2 k (by simp; omega)).trans (hk1 k hk)
    have hB2 : One ((w.alloc o).alloc o2) B v 34 := hB.kept (hk2 B lB)
    have hown2 : ((w.alloc o).alloc o2).ownsRow 0 3 1 v (idL l).length (nats (idL l)) := by
      have := ownsRow_kept hown (fun k hk => hk2 k (hown.lt k hk).2)
      rwa [nats_len] at this
    have hrow : ((w.alloc o).alloc o2).heap[w.heap.size + 1]? = some o2 := by
      have := heap_alloc_new (w.alloc o) o2
      simpa using this
    have hnews : ∀ j u, [Value.int .i64 x.id][j]? = some u → ((w.alloc o).alloc o2).cell? ((⟨w.heap.size + 1, 0, none⟩ : Addr).add j) = some u := by
      intro j u hj
      rw [ho2] at hrow ⊢
      have := cell_of_row _ _ j _ _ (0, 0) hrow
      rw [addr_plus, Nat.zero_add, this]
      simpa using hj
    have HO := Lib.hid (Out.of_below (F := F) (((Below.refl _ w).alloc (Nat.le_refl _) o).alloc (by simp) o2))
    obtain ⟨xk, xf, xe, xt, xs, xi, xb⟩ := x
    subst ho ho2
    unfold Sp.val
    simp only at c0 hB2 hown2 hnews HO hk2 q5 ⊢
    clear hB1 hk1 hrow h5
    go_enter Tryz.func48, Tryz.ntmps48
    go_wp2_with (at_builtin; refine wpList_append_exactS _ rfl _ _ 34 rfl 3 i0 _ 1 8 Tryz.underlying34 hi hz0 hz1 hz2 rfl (by omega) _ _ _ rfl hown2 ⟨w.heap.size + 1, 0, none⟩ 1 1 [Value.int .i64 xi] rfl rfl hnews (by intro u hu; simp at hu; rw [hu]; rfl) (by unfold maxLen; omega) (by omega) ?_)
    intro v' w3 hown' hgrow hex
    have hB3 : One w3 B v 34 := hB2.kept (hgrow.block B hB2.lt (fun e => hne e.symm))
    have c3 := hB3.cell
    have f3 := hB3.frozen
    obtain ⟨ao, n', cap, rfl⟩ : ∃ ao n' cap, v' = .slice ao n' cap := by
      rcases hown'.2 with ⟨hv, _⟩ | ⟨g, cap, cur, hv, _⟩
      · exact ⟨_, _, _, hv⟩
      · exact ⟨_, _, _, hv⟩
    have hx : VAdded 34 3 B (nats (idL l ++ [xi])) F w (.returned (.tuple #[])) (w3.setCell ⟨B, 0, none⟩ (.slice ao n' cap)) := by
      have hlt2 := hB2.lt
      have hnb : (Value.slice ao n' cap).ownBlock ≠ some B := by
        intro hk
        rcases hex B hk with h1 | h1
        · exact hne h1
        · omega
      refine ⟨rfl, fun k => k = B ∨ (Value.slice ao n' cap).ownBlock = some k, ⟨.slice ao n' cap, hB3.set_ _, ?_, hnb, rfl⟩, ⟨?_, ?_⟩⟩
      · rw [nats_len, List.length_append, nats_app]
        exact ownsRow_kept hown' (fun k hk => Below.heap_setCell _ ⟨B, 0, none⟩ _ k (fun e => hnb (by rw [hk, e])))
      · exact (HO.out.trans (G := F) (c := w3) ⟨hgrow.os, hgrow.tape, hgrow.output, hgrow.size, fun k hk hn => hgrow.block k hk (fun e => hn (by rw [HF.out]; exact .inr e.symm))⟩ (fun _ _ h => h)).trans (out_set w3 B _) (fun k _ (e : k = B) => by rw [HF.out]; exact .inl e)
      · rw [HF.out]
        rintro k (hk | hk)
        · exact .inl (.inl hk)
        · rcases hex k hk with h1 | h1
          · exact .inl (.inr h1)
          · exact .inr (by omega)
    have HX := Lib.hid hx
    clear hx hex hgrow hown' hown2 hown hB2 hB3
    go_wp2
    go_end0
    exact HX.out
  · have q5 : ((x.kind : Int) == 5) = false := by simp; omega
    rw [idL_snoc, if_neg h5]
    have HX : Hid (VList 34 3 B (nats (idL l)) F (w.alloc o)) := Lib.hid ⟨v, hB1, ownsRow_kept hown (fun k hk => hk1 k (hown.lt k hk).2), hne, HF.out⟩
    have HO := Lib.hid (Out.of_below (F := F) ((Below.refl _ w).alloc (Nat.le_refl _) o))
    obtain ⟨xk, xf, xe, xt, xs, xi, xb⟩ := x
    subst ho
    unfold Sp.val
    simp only at HX HO q5 ⊢
    clear hB1 hk1 hown c0 h5
    go_enter Tryz.func48, Tryz.ntmps48
    go_wp2
    go_end0
    exact ⟨rfl, F, HX.out, HO.out, fun k hk => .inl hk⟩

set_option maxRecDepth 100000 in
set_option maxHeartbeats 4000000 in
theorem text_added (K kd B : Nat) (l : List Sp) (x : Sp) (F : Nat → Prop) (w : World) (h : TextsI K kd B l F w) (hl : l.length ≤ 4000000000) :
    Calls Tryz.prog 84 #[x.val, .pointer (some ⟨K, 0, none⟩), .pointer (some ⟨B, 0, none⟩)] w fun e w' => e = .returned (.tuple #[]) ∧ ∃ F', TextsI K kd B (l ++ [x]) F' w' ∧ Grew F w F' w' := by
  obtain ⟨Fb, ⟨v, hB, hown, hne, hFb⟩, hK, hnK, hF⟩ := h
  obtain ⟨i0, hi, hz0, hz1, hz2⟩ := info_parts infoStrT
  have hKB : K ≠ B := fun e => hnK (by rw [hFb]; exact .inl e)
  have hKv : v.ownBlock ≠ some K := fun e => hnK (by rw [hFb]; exact .inr e)
  have HF := Lib.hid hF
  have HFB := Lib.hid hFb
  clear hF hFb hnK
  have lB := hB.lt
  have lK := hK.lt
  obtain ⟨o, ho⟩ : ∃ o, o = (Obj.cells #[.int .i64 x.kind, .int .i64 x.from_, .int .i64 x.to_, .string x.text, .string x.shw, .int .i64 x.id, .bool x.strong] 27) := ⟨_, rfl⟩
  have hk1 : ∀ k, k < w.heap.size → (w.alloc o).heap[k]? = w.heap[k]? := fun k hk => Below.heap_alloc w o k hk
  have hB1 : One (w.alloc o) B v 31 := hB.kept (hk1 B lB)
  have hK1 : One (w.alloc o) K (.int .i64 kd) 3 := hK.kept (hk1 K lK)
  have c0 := hB1.cell
  have ck := hK1.cell
  have hlen := txtL_len kd l
  by_cases h5 : x.kind = kd
  · have q5 : ((x.kind : Int) == kd) = true := by simp [h5]
    obtain ⟨o2, ho2⟩ : ∃ o2, o2 = (Obj.cells #[.string x.text] 9) := ⟨_, rfl⟩
    have hk2 : ∀ k, k < w.heap.size → ((w.alloc o).alloc o2).heap[k]? = w.heap[k]? := fun k hk => (Below.heap_alloc _ o2 k (by simp; omega)).trans (hk1 k hk)
    have hB2 : One ((w.alloc o).alloc o2) B v 31 := hB.kept (hk2 B lB)
    have hK2 : One ((w.alloc o).alloc o2) K (.int .i64 kd) 3 := hK.kept (hk2 K lK)
    have hown2 : ((w.alloc o).alloc o2).ownsRow 0 9 1 v (txtL kd l).length (strs (txtL kd l)) := by
      have := ownsRow_kept hown (fun k hk => hk2 k (hown.lt k hk).2)
      rwa [strs_len] at this
    have hrow : ((w.alloc o).alloc o2).heap[w.heap.size + 1]? = some o2 := by
      have := heap_alloc_new (w.alloc o) o2
      simpa using this
    have hnews : ∀ j u, [Value.string x.text][j]? = some u → ((w.alloc o).alloc o2).cell? ((⟨w.heap.size + 1, 0, none⟩ : Addr).add j) = some u := by
      intro j u hj
      rw [ho2] at hrow ⊢
      have := cell_of_row _ _ j _ _ (0, 0) hrow
      rw [addr_plus, Nat.zero_add, this]
      simpa using hj
    have HO := Lib.hid (Out.of_below (F := F) (((Below.refl _ w).alloc (Nat.le_refl _) o).alloc (by simp) o2))
    have HL : Hid (txtL kd (l ++ [x]) = txtL kd l ++ [x.text]) := Lib.hid (by rw [txtL_snoc, if_pos h5])
    obtain ⟨y, hy⟩ : ∃ y, y = x := ⟨_, rfl⟩
    have HY := Lib.hid hy
    rw [← hy] at HL
    clear hy
    obtain ⟨xk, xf, xe, xt, xs, xi, xb⟩ := x
    subst ho ho2
    unfold Sp.val
    simp only at c0 ck hB2 hK2 hown2 hnews HO hk2 q5 HL ⊢
    clear hB1 hK1 hk1 hrow h5
    rw [← HY.out]
    go_enter Tryz.func84, Tryz.ntmps84
    go_wp2_with (at_builtin; refine wpList_append_exactS _ rfl _ _ 31 rfl 9 i0 _ 1 16 Tryz.underlying31 hi hz0 hz1 hz2 rfl (by omega) _ _ _ rfl hown2 ⟨w.heap.size + 1, 0, none⟩ 1 1 [Value.string xt] rfl rfl hnews (by intro u hu; simp at hu; rw [hu]; rfl) (by unfold maxLen; omega) (by omega) ?_)
    intro v' w3 hown' hgrow hex
    have hB3 : One w3 B v 31 := hB2.kept (hgrow.block B hB2.lt (fun e => hne e.symm))
    have hK3 : One w3 K (.int .i64 kd) 3 := hK2.kept (hgrow.block K hK2.lt (fun e => hKv e.symm))
    have c3 := hB3.cell
    have f3 := hB3.frozen
    obtain ⟨ao, n', cap, rfl⟩ : ∃ ao n' cap, v' = .slice ao n' cap := by
      rcases hown'.2 with ⟨hv, _⟩ | ⟨g, cap, cur, hv, _⟩
      · exact ⟨_, _, _, hv⟩
      · exact ⟨_, _, _, hv⟩
    have hx : ∃ F', TextsI K kd B (l ++ [y]) F' (w3.setCell ⟨B, 0, none⟩ (.slice ao n' cap)) ∧ Grew F w F' (w3.setCell ⟨B, 0, none⟩ (.slice ao n' cap)) := by
      have hlt2 := hB2.lt
      have hlk2 := hK2.lt
      have hnb : (Value.slice ao n' cap).ownBlock ≠ some B := by
        intro hk
        rcases hex B hk with h1 | h1
        · exact hne h1
        · omega
      have hnk : (Value.slice ao n' cap).ownBlock ≠ some K := by
        intro hk
        rcases hex K hk with h1 | h1
        · exact hKv h1
        · omega
      refine ⟨fun k => (k = B ∨ (Value.slice ao n' cap).ownBlock = some k) ∨ k = K, ⟨fun k => k = B ∨ (Value.slice ao n' cap).ownBlock = some k, ⟨.slice ao n' cap, hB3.set_ _, ?_, hnb, rfl⟩, hK3.set_other hKB, ?_, rfl⟩, ⟨?_, ?_⟩⟩
      · rw [HL.out, show y.text = xt by rw [HY.out], strs_len, List.length_append, strs_app]
        exact ownsRow_kept hown' (fun k hk => Below.heap_setCell _ ⟨B, 0, none⟩ _ k (fun e => hnb (by rw [hk, e])))
      · rintro (hk | hk)
        · exact hKB hk
        · exact hnk hk
      · exact (HO.out.trans (G := F) (c := w3) ⟨hgrow.os, hgrow.tape, hgrow.output, hgrow.size, fun k hk hn => hgrow.block k hk (fun e => hn (by rw [HF.out, HFB.out]; exact .inl (.inr e.symm)))⟩ (fun _ _ h => h)).trans (out_set w3 B _) (fun k _ (e : k = B) => by rw [HF.out, HFB.out]; exact .inl (.inl e))
      · rw [HF.out, HFB.out]
        rintro k ((hk | hk) | hk)
        · exact .inl (.inl (.inl hk))
        · rcases hex k hk with h1 | h1
          · exact .inl (.inl (.inr h1))
          · exact .inr (by omega)
        · exact .inl (.inr hk)
    have HX := Lib.hid hx
    clear hx hex hgrow hown' hown2 hown hB2 hB3 hK2 hK3 ck
    go_wp2
    go_end0
    exact ⟨rfl, HX.out⟩
  · have q5 : ((x.kind : Int) == kd) = false := by simp; omega
    have HX : Hid (TextsI K kd B (l ++ [x]) F (w.alloc o)) := Lib.hid (by
      unfold TextsI
      rw [txtL_snoc, if_neg h5]
      exact ⟨Fb, ⟨v, hB1, ownsRow_kept hown (fun k hk => hk1 k (hown.lt k hk).2), hne, HFB.out⟩, hK1, by rw [HFB.out]; rintro (e | e); exact hKB e; exact hKv e, HF.out⟩)
    have HO := Lib.hid (Out.of_below (F := F) ((Below.refl _ w).alloc (Nat.le_refl _) o))
    obtain ⟨y, hy⟩ : ∃ y, y = x := ⟨_, rfl⟩
    rw [← hy] at HX
    have HY := Lib.hid hy
    clear hy
    obtain ⟨xk, xf, xe, xt, xs, xi, xb⟩ := x
    subst ho
    unfold Sp.val
    simp only at HX HO q5 c0 ck ⊢
    rw [← HY.out]
    clear hB1 hk1 hown c0 h5 hK1
    go_enter Tryz.func84, Tryz.ntmps84
    go_wp2
    go_end0
    exact ⟨rfl, F, HX.out, HO.out, fun k hk => .inl hk⟩
end Go.Proofs.YtjfpaahidfhkoaaGreatDoor
