/- TextMarks, part 3: the reference's loop over the marks. -/
import Derived.Test.YtjfpaahidfhkoaaMarkB
import Derived.WalkKit
import Derived.Lib.Hide
import Derived.Deep.DeepCutAuto
import Derived.Deep.CutBlock
namespace Go.Proofs.Ytjfpaahidfhkoaa
open Go.RowKit

structure RefRel (w : World) (f t : Int) (s : ByteArray) (g : Int → Int) (zs : List Int) (k : Nat) (v : Value) (wr : World) : Prop where
  own : wr.ownsRow (w.heap.size + 1) 3 1 v k (((zs.take k).map g).map (Value.int .i64))
  edit : EditAt wr w.heap.size f t s
  below : Below w.heap.size w wr
  size : w.heap.size < wr.heap.size

theorem RefRel.step {w wr w1 : World} {f t : Int} {s : ByteArray} {g : Int → Int} {zs : List Int} {k : Nat} {v v' : Value} {o : Obj} (h : RefRel w f t s g zs k v wr) (hk : k < zs.length)
    (hown : w1.ownsRow (w.heap.size + 1) 3 1 v' (k + 1) (((zs.take k).map g).map (Value.int .i64) ++ [.int .i64 (g (zs.getD k 0))])) (hgrow : (wr.alloc o).grownBy w1 v.ownBlock) : RefRel w f t s g zs (k + 1) v' w1 := by
  have hs := h.size
  have hne : ∀ j, j ≤ w.heap.size → some j ≠ v.ownBlock := fun j hj e => by have := (h.own.lt j e.symm).1; omega
  have e2 : zs.take (k + 1) = zs.take k ++ [zs.getD k 0] := by
    rw [List.take_add_one, List.getElem?_eq_getElem hk, List.getD_eq_getElem?_getD, List.getElem?_eq_getElem hk]; rfl
  refine ⟨by rw [e2]; simpa using hown, ?_, (h.below.alloc (by omega) o).grown hgrow (by simp; omega) (fun j hj => by have := (h.own.lt j hj).1; omega), ?_⟩
  · exact (h.edit.of_block (Below.heap_alloc wr o _ hs)).of_block (hgrow.block _ (by simp; omega) (hne _ (Nat.le_refl _)))
  · have := hgrow.size; simp at this; omega

theorem RefRel.room {w wr : World} {f t : Int} {s : ByteArray} {g : Int → Int} {zs : List Int} {k : Nat} {v : Value} (h : RefRel w f t s g zs k v wr) (o : Obj) : w.heap.size + 1 ≤ (wr.alloc o).heap.size := by
  have := h.size; simp; omega

theorem one_cell {w : World} {k : IntKind} {m : Int} {T : TypeId} : ∀ (j : Nat) (u : Value), ([Value.int k m] : List Value)[j]? = some u → (w.alloc (.cells #[.int k m] T)).cell? ((⟨w.heap.size, 0, none⟩ : Addr).add j) = some u := by
  intro j u hj
  match j, hj with
  | 0, hj =>
    simp only [List.length_cons, List.length_nil, Nat.zero_add, Nat.lt_add_one, getElem?_pos, List.getElem_cons_zero, Option.some.injEq] at hj
    subst hj
    rw [show (⟨w.heap.size, 0, none⟩ : Addr).add 0 = ⟨w.heap.size, 0, none⟩ from rfl, World.cell?_alloc_at _ _ _ _ rfl]; rfl
theorem one_cell' {k : IntKind} {m : Int} : ∀ u ∈ ([Value.int k m] : List Value), u.oneCell' = true := by
  intro u hu; simp only [List.mem_singleton] at hu; subst hu; rfl

set_option maxHeartbeats 2000000 in
theorem shiftedMarks_any (A : Option Addr) (c : Nat) (zs : List Int) (f t : Int) (s : ByteArray) (af : Bool) (w : World) (hz : IntsAt w w.heap.size A zs) (hn : zs.length * 8 ≤ 140737488351232) (hs : s.size ≤ 140737488351232) :
    Calls Try.prog 15 #[.slice A zs.length c, .agg #[.int .i64 f, .int .i64 t, .string s], .bool af] w (GivesInts w (zs.map fun m => shM m f t s.size af)) := by
  obtain ⟨i0, hi, hz0, hz1, hz2⟩ := info_parts Try.info3
  have hstart : RefRel w f t s (fun m => shM m f t s.size af) zs 0 (.slice none 0 0) (w.alloc (.cells #[.int .i64 f, .int .i64 t, .string s] 24)) :=
    ⟨World.ownsRow_nil _ _ _ _, EditAt.boxed w f t s _, (Below.refl _ _).alloc (Nat.le_refl _) _, by simp⟩
  rcases (by omega : f < 0 ∨ (0 ≤ f ∧ t < f) ∨ (0 ≤ f ∧ f ≤ t)) with h0 | ⟨h0, h1⟩ | ⟨h0, h1⟩
  all_goals
    go_enter Try.func15, Try.ntmps15
    go_wp2_with fail
    go_loopw [7, 23] (fun v i wr => ∃ k : Nat, k ≤ zs.length ∧ i = .int .i64 k ∧ RefRel w f t s (fun m => shM m f t s.size af) zs k v wr) (fun _ i _ => zs.length - (intOf i).toNat)
    case atStart => exact ⟨0, Nat.zero_le _, rfl, hstart⟩
    case round =>
      obtain ⟨k, hk, rfl, hr⟩ := hrel
      clear hstart
      by_cases hlt : k < zs.length
      · obtain ⟨b, off, rfl, hb, hc⟩ := hz k hlt
        obtain ⟨m, hm⟩ : ∃ m, m = zs.getD k 0 := ⟨_, rfl⟩
        have hcx := (hr.below.cell (p := ⟨b, off + k, none⟩) hb).trans hc
        rw [← hm] at hcx
        have HM := Lib.hid hm
        clear hm hc
        obtain ⟨he1, he2, he3⟩ := hr.edit
        have hsz := hr.size
        go_upto_block 2 with fail
        go_cut [10] (fun x wx => x = .int .i64 (shM m f t s.size af) ∧ wr = wx)
        case first =>
          go_wp2
          all_goals go_meet
          all_goals refine ⟨?_, rfl⟩
          all_goals first
            | (rw [shM_id (by omega)]; done)
            | (rw [shM_far (by omega) (by assumption)]; go_num; done)
            | (rw [shM_in (by omega) (by omega)]; simp [*]; done)

        case rest =>
          obtain ⟨rfl, rfl⟩ := hcut
          go_wp2_with (at_builtin; refine wpList_append_own _ rfl _ _ 35 rfl (w.heap.size + 1) 3 i0 (.int .i64 0) 1 8 Try.underlying35 hi hz0 hz1 hz2 rfl (by decide) _ _ _ rfl (hr.own.alloc _) ⟨wr.heap.size, 0, none⟩ 1 1 [.int .i64 (shM m f t s.size af)] rfl rfl one_cell one_cell' (by unfold maxLen; omega) (by omega) (hr.room _) ?_; intro v' w1 hown1 hgrow1 _)
          have hstep := hr.step hlt (by simpa [HM.out] using hown1) hgrow1
          clear hown1 hgrow1
          go_wp2
          go_roundw
          case rel => exact ⟨k + 1, by omega, by go_num, hstep⟩
          case measure => simp [intOf]; omega
      · have e : k = zs.length := by omega
        have HE := Lib.hid e
        clear e
        go_wp2
        go_ret
        obtain rfl := HE.out
        have ho := hr.own
        rw [List.take_length] at ho
        exact ⟨_, rfl, by rw [List.length_map]; exact own_mono ho (by omega), hr.below⟩
end Go.Proofs.Ytjfpaahidfhkoaa
