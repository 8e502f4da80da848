/- What came in, opened: lists of properties, of strings and of types. -/
import Derived.Test.YtggnocajpnmemaaDoorPbF
namespace Go.Proofs.YtggnocajpnmemaaDoor
open Go.ChangeShapes Go.WideShapes Go.ChangeAt Go.RowKit Go.Joins Go.Shelf

/-- A table of things at places. -/
def tabA {α : Type} (F : Nat → α) : Nat → Nat → List α
  | _, 0 => []
  | i, n + 1 => F i :: tabA F (i + 1) n
theorem tabA_len {α : Type} (F : Nat → α) : ∀ i n, (tabA F i n).length = n
  | _, 0 => rfl
  | i, n + 1 => by simp [tabA, tabA_len F (i + 1) n]
theorem pick_lt {α : Type} [Inhabited α] {n : Nat} {p : Nat → α → Prop} (h : ∀ i, i < n → ∃ x, p i x) : ∃ F : Nat → α, ∀ i, i < n → p i (F i) :=
  ⟨fun i => if h' : i < n then (h i h').choose else default, fun i hi => by simp only [hi, dite_true]; exact (h i hi).choose_spec⟩
instance : Inhabited V := ⟨.mk 0 0 0 ⟨#[]⟩ []⟩
instance : Inhabited PV := ⟨⟨⟨#[]⟩, default⟩⟩
instance : Inhabited TV := ⟨⟨⟨#[]⟩, 0, false, [], 0, 0⟩⟩

/-! ### Properties -/
theorem prop_cells : Tryd.prog.cellsOf 51 = 6 := by kernel_rfl
theorem prop_bytes : 1 ≤ Tryd.prog.bytesOf 51 := of_decide_eq_true (by kernel_rfl)
theorem prop_fields : ∃ f0 f1 : Field, Tryd.prog.underlying 51 = some (.struct #[f0, f1]) ∧ f0.type = 9 ∧ f1.type = 40 ∧ f0.offset = 0 ∧ f1.offset = 1 :=
  ⟨_, _, Tryd.underlying51, rfl, rfl, rfl, rfl⟩
theorem str_cells : Tryd.prog.cellsOf 9 = 1 := by kernel_rfl
theorem prow_tab {w : World} {B b off : Nat} (F : Nat → PV) : ∀ n i, (∀ k, i ≤ k → k < i + n → b < B ∧ w.cell? ⟨b, off + k * 6, none⟩ = some (.string (F k).nm) ∧ (F k).nm.size ≤ 140737488355328 ∧ CellsAt w B (F k).val b (off + k * 6 + 1)) → PRow w B (tabA F i n) b (off + i * 6)
  | 0, _, _ => by unfold tabA PRow; trivial
  | n + 1, i, h => by
    unfold tabA PRow
    refine ⟨h i (Nat.le_refl _) (by omega), ?_⟩
    have := prow_tab F n (i + 1) (fun k h1 h2 => h k (by omega) (by omega))
    rw [show off + i * 6 + 6 = off + (i + 1) * 6 by omega]
    exact this

set_option maxRecDepth 100000 in
theorem props_came {H : Type} {enc : TypeId × Value → H} {W : World} {sp : Nat → Bool} {hd : Bool} (fuel : Nat) (cs : List Value) (d : DataW H) (p : List MemPlace)
    (h : DataW.trod enc Tryd.prog W 0 sp hd fuel 23 cs = some (d, p)) (ho : Okw Tryd.prog 23 d) : ∃ (l : List PV) (g : Value), cs = [g] ∧ PSl W W.heap.size l g := by
  rcases Deep.open_slice Tryd.underlying23 h with ⟨hcs, hx⟩ | ⟨a, len, cap, m, n, D, Pl, hcs, hb, hl, hm, hmm, hx, hi⟩
  · exact ⟨[], _, hcs, none, 0, rfl, by simp, by simp, .inl rfl⟩
  · simp only [Prod.mk.injEq] at hx
    obtain ⟨rfl, -⟩ := hx
    have hlm : len ≤ m := by rw [hmm]; split <;> omega
    obtain ⟨hw, hwe⟩ := okw_slice Tryd.underlying23 ho
    have hln : len ≤ 140737488355328 := by
      have hv := prop_bytes
      have h1 : len * 1 ≤ (((List.range len).map D).length + ((List.range (m - len)).map fun j => D (len + j)).length) * Tryd.prog.bytesOf 51 := Nat.mul_le_mul (by simp) hv
      rw [reach_is] at hw
      omega
    rcases Nat.eq_zero_or_pos len with h0 | h0
    · subst h0
      exact ⟨[], _, hcs, some a, cap, rfl, by simp, by simp, .inl rfl⟩
    · obtain ⟨cz, hz, -⟩ := hi 0 (by omega)
      rw [prop_cells] at hz
      obtain ⟨b, off, rfl⟩ := spot_none hz
      have hrow : ∀ i, i < len → ∃ x : PV, b < W.heap.size ∧ W.cell? ⟨b, off + i * 6, none⟩ = some (.string x.nm) ∧ x.nm.size ≤ 140737488355328 ∧ CellsAt W W.heap.size x.val b (off + i * 6 + 1) := by
        intro i hil
        obtain ⟨cs', hc, ht⟩ := hi i (by omega)
        rw [prop_cells] at hc
        obtain ⟨_, hcl, hat⟩ := World.cells?_some hc
        have hmem : D i ∈ (List.range len).map D := List.mem_map.2 ⟨i, List.mem_range.2 hil, rfl⟩
        have hoi := hwe _ hmem
        obtain ⟨f0, f1, hS, q0, q1, o0, o1⟩ := prop_fields
        obtain ⟨ys, n', -, hx', hlen, hyl, hf⟩ := DataW.trod_struct hS ht
        obtain ⟨c0, c1, c2, c3, c4, c5, rfl⟩ : ∃ c0 c1 c2 c3 c4 c5, cs' = [c0, c1, c2, c3, c4, c5] := by
          match cs', hcl with
          | [c0, c1, c2, c3, c4, c5], _ => exact ⟨c0, c1, c2, c3, c4, c5, rfl⟩
        obtain ⟨y0, y1, rfl⟩ : ∃ y0 y1, ys = [y0, y1] := by
          match ys, hyl with
          | [c0, c1], _ => exact ⟨c0, c1, rfl⟩
        have h0' := hf 0 f0 rfl
        have h1' := hf 1 f1 rfl
        rw [o0, q0, str_cells] at h0'
        rw [o1, q1, val_cells] at h1'
        simp only [Prod.mk.injEq] at hx'
        have hD : D i = .agg [y0.1, y1.1] := hx'.1
        rw [hD] at hoi
        have hw0 := okw_struct hS hoi (j := 0) (f := f0) (d := y0.1) rfl rfl
        have hw1 := okw_struct hS hoi (j := 1) (f := f1) (d := y1.1) rfl rfl
        rw [q1] at hw1
        obtain ⟨s, e0, e0', -⟩ := DataW.trod_string Tryd.underlying9 (h0'.trans rfl)
        rw [e0'] at hw0
        have hs := okw_string hw0
        rw [reach_is, ← Lib.size_eq] at hs
        obtain ⟨k, j, t, s2, l2, g, e1, hs2, hsl⟩ := value_of n' _ y1.1 y1.2 (h1'.trans rfl) hw1
        simp at e0 e1
        obtain ⟨e1, e2, e3, e4, e5⟩ := e1
        subst e0 e1 e2 e3 e4 e5
        have a0 := hat 0 (by omega)
        have a1 := hat 1 (by omega)
        have a2 := hat 2 (by omega)
        have a3 := hat 3 (by omega)
        have a4 := hat 4 (by omega)
        have a5 := hat 5 (by omega)
        rw [Deep.add_add, add_plain] at a0 a1 a2 a3 a4 a5
        have z0 : W.cell? ⟨b, off + i * 6, none⟩ = some (.string s) := by simpa using a0
        refine ⟨⟨s, .mk k j t s2 l2⟩, World.block_lt_of_cell? W _ z0, z0, by show s.size ≤ _; omega, cells_of ?_ ?_ ?_ ?_ ?_ hs2 hsl⟩
        · rw [Nat.add_assoc]; exact a1
        · rw [Nat.add_assoc, Nat.add_assoc]; exact a2
        · rw [Nat.add_assoc, Nat.add_assoc]; exact a3
        · rw [Nat.add_assoc, Nat.add_assoc]; exact a4
        · rw [Nat.add_assoc, Nat.add_assoc]; exact a5
      obtain ⟨F, hF⟩ := pick_lt hrow
      have hr := prow_tab (w := W) (B := W.heap.size) (b := b) (off := off) F len 0 (fun k _ h2 => hF k (by omega))
      rw [Nat.zero_mul, Nat.add_zero] at hr
      exact ⟨tabA F 0 len, _, hcs, some ⟨b, off, none⟩, cap, by rw [tabA_len], by rw [tabA_len]; omega, by rw [tabA_len]; omega, .inr ⟨b, off, rfl, hr⟩⟩

/-! ### Strings -/
theorem srow_of {w : World} {B b : Nat} : ∀ (l : List ByteArray) (off : Nat), (∀ j (h : j < l.length), b < B ∧ w.cell? ⟨b, off + j, none⟩ = some (.string l[j]) ∧ l[j].size ≤ 140737488355328) → SRow w B l b off
  | [], _, _ => trivial
  | s :: r, off, h => by
    unfold SRow
    refine ⟨?_, srow_of r (off + 1) (fun j hj => ?_)⟩
    · have := h 0 (by simp)
      simpa using this
    · have := h (j + 1) (by simp; exact hj)
      rw [show off + (j + 1) = off + 1 + j by omega] at this
      simpa using this
theorem str_bytes : 1 ≤ Tryd.prog.bytesOf 9 := of_decide_eq_true (by kernel_rfl)
set_option maxRecDepth 100000 in
theorem strings_came {H : Type} {enc : TypeId × Value → H} {W : World} {sp : Nat → Bool} {hd : Bool} (fuel : Nat) (cs : List Value) (d : DataW H) (p : List MemPlace)
    (h : DataW.trod enc Tryd.prog W 0 sp hd fuel 34 cs = some (d, p)) (ho : Okw Tryd.prog 34 d) : ∃ (l : List ByteArray) (g : Value), cs = [g] ∧ StSl W W.heap.size l g := by
  rcases ChangeShapes.open_strings Tryd.underlying34 Tryd.underlying9 str_cells h with ⟨hcs, hx⟩ | ⟨a, len, cap, ss, hcs, hb, hl, hm, hss, hx, hcell, hz⟩
  · exact ⟨[], _, hcs, none, 0, rfl, by simp, by simp, .inl rfl⟩
  · simp only [Prod.mk.injEq] at hx
    obtain ⟨rfl, -⟩ := hx
    have hlm : len ≤ ss.length := by rw [hss]; split <;> omega
    obtain ⟨hw, hwe⟩ := okw_slice Tryd.underlying34 ho
    have htl : (ss.take len).length = len := by rw [List.length_take]; omega
    have hln : len ≤ 140737488355328 := by
      have hv := str_bytes
      have h1 : len * 1 ≤ ((ChangeShapes.strs (H := H) (ss.take len)).length + (ChangeShapes.strs (H := H) (ss.drop len)).length) * Tryd.prog.bytesOf 9 := Nat.mul_le_mul (by unfold ChangeShapes.strs; simp; omega) hv
      rw [reach_is] at hw
      omega
    rcases Nat.eq_zero_or_pos len with h0 | h0
    · subst h0
      exact ⟨[], _, hcs, some a, cap, rfl, by simp, by simp, .inl rfl⟩
    · have hc0 := hcell 0 (by omega)
      obtain ⟨b, off, spot⟩ := a
      have hspot : spot = none := by simpa [Addr.add] using World.cell?_spot hc0
      subst hspot
      refine ⟨ss.take len, _, hcs, some ⟨b, off, none⟩, cap, by rw [htl], by rw [htl]; omega, by rw [htl]; omega, .inr ⟨b, off, rfl, srow_of _ _ (fun j hj => ?_)⟩⟩
      rw [htl] at hj
      have hcj := hcell j (by omega)
      rw [add_plain] at hcj
      have e : ss.getD j ByteArray.empty = (ss.take len)[j] := by
        rw [List.getD_eq_getElem?_getD, List.getElem?_eq_getElem (by omega), List.getElem_take]; rfl
      rw [e] at hcj
      have hmem : (.lit (.string ((ss.take len)[j]).data.toList) : DataW H) ∈ ChangeShapes.strs (H := H) (ss.take len) := List.mem_map.2 ⟨_, List.getElem_mem _, rfl⟩
      have hs := okw_string (hwe _ hmem)
      rw [reach_is, ← Lib.size_eq] at hs
      exact ⟨World.block_lt_of_cell? W _ hcj, hcj, by omega⟩

/-! ### Types -/
theorem type_cells : Tryd.prog.cellsOf 36 = 6 := by kernel_rfl
theorem type_bytes : 1 ≤ Tryd.prog.bytesOf 36 := of_decide_eq_true (by kernel_rfl)
theorem type_fields : ∃ f0 f1 f2 f3 f4 f5 : Field, Tryd.prog.underlying 36 = some (.struct #[f0, f1, f2, f3, f4, f5]) ∧ Deep.oneCellFields Tryd.prog #[f0, f1, f2, f3, f4, f5] = true ∧ f0.type = 9 ∧ f1.type = 3 ∧ f2.type = 4 ∧ f3.type = 34 ∧ f4.type = 3 ∧ f5.type = 3 :=
  ⟨_, _, _, _, _, _, Tryd.underlying36, by kernel_rfl, rfl, rfl, rfl, rfl, rfl, rfl⟩
/-- One type's cells. -/
def TCell (w : World) (B : Nat) (t : TV) (b off : Nat) : Prop :=
  b < B ∧ w.cell? ⟨b, off, none⟩ = some (.string t.nm) ∧ t.nm.size ≤ 140737488355328 ∧ w.cell? ⟨b, off + 1, none⟩ = some (.int .i64 t.kind) ∧ w.cell? ⟨b, off + 2, none⟩ = some (.bool t.need) ∧
    (∃ g, w.cell? ⟨b, off + 3, none⟩ = some g ∧ StSl w B t.cs g) ∧ w.cell? ⟨b, off + 4, none⟩ = some (.int .i64 t.least) ∧ w.cell? ⟨b, off + 5, none⟩ = some (.int .i64 t.most)
theorem trow_tab {w : World} {B b off : Nat} (F : Nat → TV) : ∀ n i, (∀ k, i ≤ k → k < i + n → TCell w B (F k) b (off + k * 6)) → TRow w B (tabA F i n) b (off + i * 6)
  | 0, _, _ => by unfold tabA TRow; trivial
  | n + 1, i, h => by
    unfold tabA TRow
    refine ⟨h i (Nat.le_refl _) (by omega), ?_⟩
    have := trow_tab F n (i + 1) (fun k h1 h2 => h k (by omega) (by omega))
    rw [show off + i * 6 + 6 = off + (i + 1) * 6 by omega]
    exact this

set_option maxRecDepth 100000 in
theorem types_came {H : Type} {enc : TypeId × Value → H} {W : World} {sp : Nat → Bool} {hd : Bool} (fuel : Nat) (cs : List Value) (d : DataW H) (p : List MemPlace)
    (h : DataW.trod enc Tryd.prog W 0 sp hd fuel 22 cs = some (d, p)) (ho : Okw Tryd.prog 22 d) : ∃ (l : List TV) (g : Value), cs = [g] ∧ TySl W W.heap.size l g := by
  rcases Deep.open_slice Tryd.underlying22 h with ⟨hcs, hx⟩ | ⟨a, len, cap, m, n, D, Pl, hcs, hb, hl, hm, hmm, hx, hi⟩
  · exact ⟨[], _, hcs, none, 0, rfl, by simp, by simp, .inl rfl⟩
  · simp only [Prod.mk.injEq] at hx
    obtain ⟨rfl, -⟩ := hx
    have hlm : len ≤ m := by rw [hmm]; split <;> omega
    obtain ⟨hw, hwe⟩ := okw_slice Tryd.underlying22 ho
    have hln : len ≤ 140737488355328 := by
      have hv := type_bytes
      have h1 : len * 1 ≤ (((List.range len).map D).length + ((List.range (m - len)).map fun j => D (len + j)).length) * Tryd.prog.bytesOf 36 := Nat.mul_le_mul (by simp) hv
      rw [reach_is] at hw
      omega
    rcases Nat.eq_zero_or_pos len with h0 | h0
    · subst h0
      exact ⟨[], _, hcs, some a, cap, rfl, by simp, by simp, .inl rfl⟩
    · obtain ⟨cz, hz, -⟩ := hi 0 (by omega)
      rw [type_cells] at hz
      obtain ⟨b, off, rfl⟩ := spot_none hz
      have hrow : ∀ i, i < len → ∃ x : TV, TCell W W.heap.size x b (off + i * 6) := by
        intro i hil
        obtain ⟨cs', hc, ht⟩ := hi i (by omega)
        rw [type_cells] at hc
        obtain ⟨_, hcl, hat⟩ := World.cells?_some hc
        have hmem : D i ∈ (List.range len).map D := List.mem_map.2 ⟨i, List.mem_range.2 hil, rfl⟩
        have hoi := hwe _ hmem
        obtain ⟨f0, f1, f2, f3, f4, f5, hS, hone, q0, q1, q2, q3, q4, q5⟩ := type_fields
        obtain ⟨ys, n', -, hx', hlen, hyl, hf⟩ := DataW.trod_struct hS ht
        obtain ⟨c0, c1, c2, c3, c4, c5, rfl⟩ : ∃ c0 c1 c2 c3 c4 c5, cs' = [c0, c1, c2, c3, c4, c5] := by
          match cs', hcl with
          | [c0, c1, c2, c3, c4, c5], _ => exact ⟨c0, c1, c2, c3, c4, c5, rfl⟩
        obtain ⟨y0, y1, y2, y3, y4, y5, rfl⟩ : ∃ y0 y1 y2 y3 y4 y5, ys = [y0, y1, y2, y3, y4, y5] := by
          match ys, hyl with
          | [c0, c1, c2, c3, c4, c5], _ => exact ⟨c0, c1, c2, c3, c4, c5, rfl⟩
        obtain ⟨o0, k0⟩ := Deep.hone_of hone 0 f0 rfl
        obtain ⟨o1, k1⟩ := Deep.hone_of hone 1 f1 rfl
        obtain ⟨o2, k2⟩ := Deep.hone_of hone 2 f2 rfl
        obtain ⟨o3, k3⟩ := Deep.hone_of hone 3 f3 rfl
        obtain ⟨o4, k4⟩ := Deep.hone_of hone 4 f4 rfl
        obtain ⟨o5, k5⟩ := Deep.hone_of hone 5 f5 rfl
        have g0 := hf 0 f0 rfl
        have g1 := hf 1 f1 rfl
        have g2 := hf 2 f2 rfl
        have g3 := hf 3 f3 rfl
        have g4 := hf 4 f4 rfl
        have g5 := hf 5 f5 rfl
        rw [o0, k0, q0] at g0
        rw [o1, k1, q1] at g1
        rw [o2, k2, q2] at g2
        rw [o3, k3, q3] at g3
        rw [o4, k4, q4] at g4
        rw [o5, k5, q5] at g5
        simp only [Prod.mk.injEq] at hx'
        have hD : D i = .agg [y0.1, y1.1, y2.1, y3.1, y4.1, y5.1] := hx'.1
        rw [hD] at hoi
        have hw0 := okw_struct hS hoi (j := 0) (f := f0) (d := y0.1) rfl rfl
        have hw3 := okw_struct hS hoi (j := 3) (f := f3) (d := y3.1) rfl rfl
        rw [q3] at hw3
        obtain ⟨s, e0, e0', -⟩ := DataW.trod_string Tryd.underlying9 (g0.trans rfl)
        rw [e0'] at hw0
        have hs := okw_string hw0
        rw [reach_is, ← Lib.size_eq] at hs
        obtain ⟨k, e1, -, -⟩ := DataW.trod_int Tryd.underlying3 (g1.trans rfl)
        obtain ⟨nd, e2, -⟩ := DataW.trod_bool Tryd.underlying4 (g2.trans rfl)
        obtain ⟨ls, gs, e3, hls⟩ := strings_came n' _ y3.1 y3.2 (g3.trans rfl) hw3
        obtain ⟨le, e4, -, -⟩ := DataW.trod_int Tryd.underlying3 (g4.trans rfl)
        obtain ⟨mo, e5, -, -⟩ := DataW.trod_int Tryd.underlying3 (g5.trans rfl)
        simp at e0 e1 e2 e3 e4 e5
        subst e0 e1 e2 e3 e4 e5
        have a0 := hat 0 (by omega)
        have a1 := hat 1 (by omega)
        have a2 := hat 2 (by omega)
        have a3 := hat 3 (by omega)
        have a4 := hat 4 (by omega)
        have a5 := hat 5 (by omega)
        rw [Deep.add_add, add_plain] at a0 a1 a2 a3 a4 a5
        have z0 : W.cell? ⟨b, off + i * 6, none⟩ = some (.string s) := by simpa using a0
        refine ⟨⟨s, k, nd, ls, le, mo⟩, World.block_lt_of_cell? W _ z0, z0, by show s.size ≤ _; omega, ?_, ?_, ⟨_, ?_, hls⟩, ?_, ?_⟩
        · rw [Nat.add_assoc]; exact a1
        · rw [Nat.add_assoc]; exact a2
        · rw [Nat.add_assoc]; exact a3
        · rw [Nat.add_assoc]; exact a4
        · rw [Nat.add_assoc]; exact a5
      obtain ⟨F, hF⟩ := pick_lt hrow
      have hr := trow_tab (w := W) (B := W.heap.size) (b := b) (off := off) F len 0 (fun k _ h2 => hF k (by omega))
      rw [Nat.zero_mul, Nat.add_zero] at hr
      exact ⟨tabA F 0 len, _, hcs, some ⟨b, off, none⟩, cap, by rw [tabA_len], by rw [tabA_len]; omega, by rw [tabA_len]; omega, .inr ⟨b, off, rfl, hr⟩⟩
end Go.Proofs.YtggnocajpnmemaaDoor
