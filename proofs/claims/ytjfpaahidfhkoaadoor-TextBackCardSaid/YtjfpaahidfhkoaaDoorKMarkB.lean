/- TextMarks, part 2: the program's loop over the marks. -/
import Derived.Test.YtjfpaahidfhkoaaDoorKMarkA
import Derived.WalkKit
import Derived.Lib.Hide
namespace Go.Proofs.YtjfpaahidfhkoaaDoor.Km
open Go.RowKit

theorem Tryd.info3 : (Tryd.prog.info? 3).map (fun i => (i.zero, i.size, i.bytes)) = some (some (.int .i64 0), 1, 8) := by kernel_rfl

/-- The numbers zs lie behind the address A, below block B. -/
def IntsAt (w : World) (B : Nat) (A : Option Addr) (zs : List Int) : Prop :=
  ∀ k, k < zs.length → ∃ b off, A = some ⟨b, off, none⟩ ∧ b < B ∧ w.cell? ⟨b, off + k, none⟩ = some (.int .i64 (zs.getD k 0))

theorem IntsAt.below {w w' : World} {B C : Nat} {A : Option Addr} {zs : List Int} (h : IntsAt w B A zs) (hb : Below C w w') (hc : B ≤ C) : IntsAt w' B A zs := fun k hk => by
  obtain ⟨b, off, e, hlt, hcell⟩ := h k hk
  exact ⟨b, off, e, hlt, (hb.cell (p := ⟨b, off + k, none⟩) (by show b < C; omega)).trans hcell⟩

theorem own_mono {w : World} {base base' : Nat} {e : TypeId} {size n : Nat} {v : Value} {xs : List Value} (h : w.ownsRow base e size v n xs) (hb : base' ≤ base) : w.ownsRow base' e size v n xs := by
  obtain ⟨h1, h2⟩ := h
  refine ⟨h1, ?_⟩
  rcases h2 with h2 | ⟨g, cap, cur, e1, hg, r⟩
  · exact .inl h2
  · exact .inr ⟨g, cap, cur, e1, by omega, r⟩

/-- A list of numbers of the call's own is handed back. -/
def GivesInts (w : World) (xs : List Int) (e : Ending) (w' : World) : Prop :=
  ∃ v, e = .returned v ∧ w'.ownsRow w.heap.size 3 1 v xs.length (xs.map (Value.int .i64)) ∧ Below w.heap.size w w'

/-- What the new list holds after k rounds. -/
def after (g : Int → Int) (zs : List Int) (k : Nat) : List Value := ((zs.take k).map g ++ List.replicate (zs.length - k) 0).map (Value.int .i64)

theorem after_zero (g : Int → Int) (zs : List Int) : after g zs 0 = List.replicate zs.length (Value.int .i64 0) := by simp [after]
theorem after_all (g : Int → Int) (zs : List Int) : after g zs zs.length = (zs.map g).map (Value.int .i64) := by simp [after]
theorem after_at (g : Int → Int) (zs : List Int) (k : Nat) (hk : k < zs.length) : (after g zs k)[k]? = some (Value.int .i64 0) := by
  have hl : ((zs.take k).map g).length = k := by simp; omega
  unfold after
  rw [List.map_append, List.getElem?_append_right (by simp at hl ⊢; omega), List.map_replicate, List.getElem?_replicate]
  simp only [List.length_map] at hl ⊢
  rw [hl, if_pos (by omega)]
theorem after_set (g : Int → Int) (zs : List Int) (k : Nat) (hk : k < zs.length) : (after g zs k).set k (.int .i64 (g (zs.getD k 0))) = after g zs (k + 1) := by
  unfold after
  have hl : ((zs.take k).map g).length = k := by simp; omega
  have e1 : zs.length - k = (zs.length - (k + 1)) + 1 := by omega
  have e2 : zs.take (k + 1) = zs.take k ++ [zs.getD k 0] := by
    rw [List.take_add_one, List.getElem?_eq_getElem hk, List.getD_eq_getElem?_getD, List.getElem?_eq_getElem hk]; rfl
  rw [e1, e2, List.replicate_succ, List.map_append, List.map_append, List.map_append, List.set_append_right _ _ (by simp at hl ⊢; omega)]
  simp only [List.length_map] at hl ⊢
  rw [hl, Nat.sub_self]
  simp

/-- The edit lies in block B. -/
def EditAt (w : World) (B : Nat) (f t : Int) (s : ByteArray) : Prop :=
  w.cell? ⟨B, 0, none⟩ = some (.int .i64 f) ∧ w.cell? ⟨B, 1, none⟩ = some (.int .i64 t) ∧ w.cell? ⟨B, 2, none⟩ = some (.string s)
theorem EditAt.boxed (w : World) (f t : Int) (s : ByteArray) (T : TypeId) : EditAt (w.alloc (.cells #[.int .i64 f, .int .i64 t, .string s] T)) w.heap.size f t s :=
  ⟨by rw [World.cell?_alloc_at _ _ _ _ rfl]; rfl, by rw [World.cell?_alloc_at _ _ _ _ rfl]; rfl, by rw [World.cell?_alloc_at _ _ _ _ rfl]; rfl⟩
theorem EditAt.of_block {w w' : World} {B : Nat} {f t : Int} {s : ByteArray} (h : EditAt w B f t s) (hb : w'.heap[B]? = w.heap[B]?) : EditAt w' B f t s :=
  ⟨(World.cell?_of_block (a := ⟨B, 0, none⟩) hb).trans h.1, (World.cell?_of_block (a := ⟨B, 1, none⟩) hb).trans h.2.1, (World.cell?_of_block (a := ⟨B, 2, none⟩) hb).trans h.2.2⟩

/-- What holds at the head of round k. -/
structure ShiftRel (w : World) (f t : Int) (s : ByteArray) (g : Int → Int) (zs : List Int) (k : Nat) (wr : World) : Prop where
  own : wr.ownsRow (w.heap.size + 1) 3 1 (.slice (some ⟨w.heap.size + 1, 0, none⟩) zs.length zs.length) zs.length (after g zs k)
  edit : EditAt wr w.heap.size f t s
  below : Below w.heap.size w wr
  size : w.heap.size + 1 < wr.heap.size

theorem ShiftRel.step {w wr : World} {f t : Int} {s : ByteArray} {g : Int → Int} {zs : List Int} {k : Nat} (h : ShiftRel w f t s g zs k wr) (hk : k < zs.length) (o : Obj) :
    ShiftRel w f t s g zs (k + 1) ((wr.setCell ⟨w.heap.size + 1, k, none⟩ (.int .i64 (g zs[k]))).alloc o) := by
  have e : zs[k] = zs.getD k 0 := by simp [hk]
  have h1 := h.own.stored k (.int .i64 (g (zs.getD k 0)))
  have hs := h.size
  rw [after_set g zs k hk] at h1
  rw [e]
  refine ⟨h1.1.alloc o, ?_, (h.below.setCell (by show w.heap.size ≤ w.heap.size + 1; omega) _).alloc (by simp; omega) o, by simpa using (by omega : w.heap.size + 1 < wr.heap.size + 1)⟩
  exact (h.edit.of_block (Below.heap_setCell _ _ _ _ (by simp))).of_block (Below.heap_alloc _ o _ (by simp; omega))

theorem ShiftRel.cell {w wr : World} {f t : Int} {s : ByteArray} {g : Int → Int} {zs : List Int} {k : Nat} (h : ShiftRel w f t s g zs k wr) (hk : k < zs.length) (o : Obj) :
    (wr.alloc o).cell? ⟨w.heap.size + 1, k, none⟩ = some (.int .i64 0) ∧ (wr.alloc o).frozen? ⟨w.heap.size + 1, k, none⟩ = false :=
  ⟨((h.own.alloc o).cellAt k (by omega)).trans (after_at g zs k hk), (h.own.alloc o).frozenAt k⟩

set_option maxHeartbeats 1000000 in
theorem shift_any (A : Option Addr) (c : Nat) (zs : List Int) (f t : Int) (s : ByteArray) (af : Bool) (w : World) (hz : IntsAt w w.heap.size A zs) (hn : zs.length * 8 ≤ 140737488351232) (hs : s.size ≤ 140737488351232) :
    Calls Tryd.prog 21 #[.slice A zs.length c, .agg #[.int .i64 f, .int .i64 t, .string s], .bool af] w (GivesInts w (zs.map fun m => shM m f t s.size af)) := by
  obtain ⟨i0, hi, hz0, hz1, hz2⟩ := info_parts Tryd.info3
  go_enter Tryd.func21, Tryd.ntmps21
  go_wp2_with (at_make; refine wpList_make_full _ rfl _ _ 54 rfl (w.heap.size + 1) 3 i0 (.int .i64 0) 1 Tryd.underlying54 hi hz0 hz1 .i64 .i64 _ _ zs.length rfl rfl rfl rfl (by rw [hz2]; omega) (by unfold maxLen; omega) (by simp) ?_; intro w1 hown1 hgrow1)
  have hstart : ShiftRel w f t s (fun m => shM m f t s.size af) zs 0 w1 := by
    refine ⟨?_, (EditAt.boxed w f t s _).of_block (hgrow1.block _ (by simp) (by simp)), (((Below.refl _ _).alloc (Nat.le_refl _) _).grown hgrow1 (by simp) (by simp)), ?_⟩
    · rw [after_zero]
      rw [show (madeCells (Value.int .i64 0).cells (zs.length * 1)).toList = List.replicate zs.length (Value.int .i64 0) from by rw [Nat.mul_one]; exact toList_madeCells_one _ _] at hown1
      simpa using hown1
    · have := (hown1.lt _ rfl).2; simpa using this
  clear hown1 hgrow1
  go_loopw [15] (fun i wr => ∃ k : Nat, k ≤ zs.length ∧ i = .int .i64 k ∧ ShiftRel w f t s (fun m => shM m f t s.size af) zs k wr) (fun i _ => zs.length - (intOf i).toNat)
  case atStart => exact ⟨0, Nat.zero_le _, rfl, hstart⟩
  case round =>
    obtain ⟨k, hk, rfl, hr⟩ := hrel
    clear hstart
    by_cases hlt : k < zs.length
    · obtain ⟨b, off, rfl, hb, hc⟩ := hz k hlt
      have hcx := (hr.below.cell (p := ⟨b, off + k, none⟩) hb).trans hc
      obtain ⟨he1, he2, he3⟩ := hr.edit
      obtain ⟨hd1, hd2⟩ := hr.cell hlt (.cells #[.int .i64 f, .int .i64 t, .string s] 46)
      have hsz := hr.size
      go_wp2_with (go_at_call 39; refine (shiftMark_any _ _ _ _ _ _ hs).mono ?_; rintro e w' ⟨rfl, rfl⟩)
      go_roundw
      case rel => exact ⟨k + 1, by omega, by go_num, hr.step hlt _⟩
      case measure => simp [intOf]; omega
    · have e : k = zs.length := by omega
      have HE := Lib.hid e
      clear e
      go_wp2
      go_ret
      obtain rfl := HE.out
      have ho := hr.own
      rw [after_all] at ho
      exact ⟨_, rfl, by rw [List.length_map]; exact own_mono ho (by omega), hr.below⟩
end Go.Proofs.YtjfpaahidfhkoaaDoor.Km
