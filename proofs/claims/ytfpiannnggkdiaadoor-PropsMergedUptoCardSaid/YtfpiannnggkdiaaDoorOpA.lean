/- What came in, opened within the bulk: values, lists of properties. -/
import Derived.Test.YtfpiannnggkdiaaDoorPgX
import Derived.Test.YtfpiannnggkdiaaDoorRows
import Derived.ProofKit
import Derived.OpenShut
import Derived.ChangeOld
import Derived.SizedLaws
import Derived.Lib.SmallJoins
import Derived.Deep.Slices
import Derived.Deep.Fields
import Derived.SliceStrings
namespace Go.Proofs.YtfpiannnggkdiaaDoor
open Go.ChangeShapes Go.WideShapes Go.ChangeAt Go.RowKit Go.Joins Go.Shelf

theorem spot_none {w : World} {base : Nat} {a : Addr} {m n : Nat} {cs : List Value} (h : w.cells? base (a.add (0 * m)) (n + 1) = some cs) : ∃ b off, a = ⟨b, off, none⟩ := by
  obtain ⟨_, hl, hat⟩ := World.cells?_some h
  have h0 := hat 0 (by omega)
  rw [List.getElem?_eq_getElem (by omega)] at h0
  obtain ⟨b, off, spot⟩ := a
  have hspot : spot = none := by simpa [Addr.add] using World.cell?_spot h0
  subst hspot
  exact ⟨b, off, rfl⟩
theorem val_cells : Tryd.prog.cellsOf 53 = 5 := by kernel_rfl
theorem val_fields : ∃ f0 f1 f2 f3 f4 : Field, Tryd.prog.underlying 53 = some (.struct #[f0, f1, f2, f3, f4]) ∧ Deep.oneCellFields Tryd.prog #[f0, f1, f2, f3, f4] = true ∧ f0.type = 3 ∧ f1.type = 3 ∧ f2.type = 3 ∧ f3.type = 9 ∧ f4.type = 51 :=
  ⟨_, _, _, _, _, Tryd.underlying53, by kernel_rfl, rfl, rfl, rfl, rfl, rfl⟩
theorem bulk_in {H : Type} {d : DataW H} {l : List (DataW H)} (h : d ∈ l) : Rows.uptoBulk d ≤ Rows.uptoBulkAll l := by
  induction l with
  | nil => simp at h
  | cons a r ih =>
    rw [Rows.uptoBulkAll]
    rcases List.mem_cons.1 h with rfl | h
    · omega
    · have := ih h; omega
theorem bulk_pos {H : Type} (d : DataW H) : 1 ≤ Rows.uptoBulk d := by
  cases d with
  | lit l => cases l <;> simp [Rows.uptoBulk]
  | _ => simp [Rows.uptoBulk]
theorem bulk_len {H : Type} (l : List (DataW H)) : l.length ≤ Rows.uptoBulkAll l := by
  induction l with
  | nil => simp
  | cons d r ih => have := bulk_pos d; simp only [Rows.uptoBulkAll, List.length_cons]; omega

theorem five_of {α : Type} : ∀ {l : List α}, l.length = 5 → ∃ a b c d e, l = [a, b, c, d, e]
  | [a, b, c, d, e], _ => ⟨a, b, c, d, e, rfl⟩
theorem six_of {α : Type} : ∀ {l : List α}, l.length = 6 → ∃ a b c d e f, l = [a, b, c, d, e, f]
  | [a, b, c, d, e, f], _ => ⟨a, b, c, d, e, f, rfl⟩
theorem two_of {α : Type} : ∀ {l : List α}, l.length = 2 → ∃ a b, l = [a, b]
  | [a, b], _ => ⟨a, b, rfl⟩
/-- One value's cells, its items opened already. -/
theorem value_in {H : Type} {enc : TypeId × Value → H} {W : World} {sp : Nat → Bool} {hd : Bool} (K : Nat) (hK : K ≤ 1048576)
    (ih : ∀ (fuel : Nat) (cs : List Value) (d : DataW H) (p : List MemPlace), DataW.trod enc Tryd.prog W 0 sp hd fuel 51 cs = some (d, p) → Rows.uptoBulk d ≤ K → ∃ (l : List V) (g : Value), cs = [g] ∧ SlAt W W.heap.size l g ∧ nodesL l ≤ Rows.uptoBulk d)
    (fuel : Nat) (cs : List Value) (d : DataW H) (p : List MemPlace) (h : DataW.trod enc Tryd.prog W 0 sp hd fuel 53 cs = some (d, p)) (hk : Rows.uptoBulk d ≤ K + 1) :
    ∃ (k i t : Int) (s : ByteArray) (l : List V) (g : Value), cs = [.int .i64 k, .int .i64 i, .int .i64 t, .string s, g] ∧ s.size ≤ 1048576 ∧ SlAt W W.heap.size l g ∧ 1 + nodesL l ≤ Rows.uptoBulk d := by
  obtain ⟨f0, f1, f2, f3, f4, hS, hone, q0, q1, q2, q3, q4⟩ := val_fields
  obtain ⟨ys, n, -, hx, hlen, hyl, hf⟩ := DataW.trod_struct hS h
  rw [val_cells] at hlen
  obtain ⟨c0, c1, c2, c3, c4, rfl⟩ := five_of hlen
  obtain ⟨y0, y1, y2, y3, y4, rfl⟩ := five_of hyl
  obtain ⟨o0, k0⟩ := Deep.hone_of hone 0 f0 rfl
  obtain ⟨o1, k1⟩ := Deep.hone_of hone 1 f1 rfl
  obtain ⟨o2, k2⟩ := Deep.hone_of hone 2 f2 rfl
  obtain ⟨o3, k3⟩ := Deep.hone_of hone 3 f3 rfl
  obtain ⟨o4, k4⟩ := Deep.hone_of hone 4 f4 rfl
  have h0 := hf 0 f0 rfl
  have h1 := hf 1 f1 rfl
  have h2 := hf 2 f2 rfl
  have h3 := hf 3 f3 rfl
  have h4 := hf 4 f4 rfl
  rw [o0, k0, q0] at h0
  rw [o1, k1, q1] at h1
  rw [o2, k2, q2] at h2
  rw [o3, k3, q3] at h3
  rw [o4, k4, q4] at h4
  obtain ⟨k, e0, -, -⟩ := DataW.trod_int Tryd.underlying3 (h0.trans rfl)
  obtain ⟨i, e1, -, -⟩ := DataW.trod_int Tryd.underlying3 (h1.trans rfl)
  obtain ⟨t, e2, -, -⟩ := DataW.trod_int Tryd.underlying3 (h2.trans rfl)
  obtain ⟨s, e3, e3', -⟩ := DataW.trod_string Tryd.underlying9 (h3.trans rfl)
  simp at e0 e1 e2 e3
  simp only [Prod.mk.injEq] at hx
  obtain ⟨rfl, -⟩ := hx
  simp only [Rows.uptoBulk, Rows.uptoBulkAll, List.map_cons, List.map_nil] at hk ⊢
  rw [e3'] at hk ⊢
  simp only [Rows.uptoBulk] at hk ⊢
  have h5 := bulk_pos y0.1
  obtain ⟨l, g, hg, hl, hnl⟩ := ih n _ y4.1 y4.2 (h4.trans rfl) (by omega)
  simp at hg
  have es : s.size = s.data.toList.length := by rw [Array.length_toList]; rfl
  exact ⟨k, i, t, s, l, g, by rw [e0, e1, e2, e3, hg], by omega, hl, by omega⟩

def tabV (F : Nat → V) : Nat → Nat → List V
  | _, 0 => []
  | i, n + 1 => F i :: tabV F (i + 1) n
theorem tabV_len (F : Nat → V) : ∀ i n, (tabV F i n).length = n
  | _, 0 => rfl
  | i, n + 1 => by simp [tabV, tabV_len F (i + 1) n]
theorem tabV_nodes {H : Type} (F : Nat → V) (D : Nat → DataW H) : ∀ n i, (∀ k, i ≤ k → k < i + n → nodesV (F k) ≤ Rows.uptoBulk (D k)) → nodesL (tabV F i n) ≤ Rows.uptoBulkAll ((List.range' i n).map D)
  | 0, _, _ => by simp [tabV, nodesL]
  | n + 1, i, h => by
    unfold tabV
    rw [nodesL_cons, List.range'_succ, List.map_cons, Rows.uptoBulkAll]
    have h1 := h i (Nat.le_refl _) (by omega)
    have h2 := tabV_nodes F D n (i + 1) (fun k hk1 hk2 => h k (by omega) (by omega))
    omega
theorem tabV_row {w : World} {B b off : Nat} (F : Nat → V) : ∀ n i, (∀ k, i ≤ k → k < i + n → CellsAt w B (F k) b (off + k * 5)) → RowAt w B (tabV F i n) b (off + i * 5)
  | 0, _, _ => by unfold tabV RowAt; trivial
  | n + 1, i, h => by
    unfold tabV RowAt
    refine ⟨h i (Nat.le_refl _) (by omega), ?_⟩
    have := tabV_row F n (i + 1) (fun k h1 h2 => h k (by omega) (by omega))
    rw [show off + i * 5 + 5 = off + (i + 1) * 5 by omega]
    exact this
theorem cells_of {W : World} {b off : Nat} {k i t : Int} {s : ByteArray} {l : List V} {g : Value} (h0 : W.cell? ⟨b, off, none⟩ = some (.int .i64 k)) (h1 : W.cell? ⟨b, off + 1, none⟩ = some (.int .i64 i)) (h2 : W.cell? ⟨b, off + 2, none⟩ = some (.int .i64 t)) (h3 : W.cell? ⟨b, off + 3, none⟩ = some (.string s)) (h4 : W.cell? ⟨b, off + 4, none⟩ = some g) (hs : s.size ≤ 1048576) (hl : SlAt W W.heap.size l g) : CellsAt W W.heap.size (.mk k i t s l) b off := by
  obtain ⟨A, c, rfl, s1, s2, s3⟩ := hl
  unfold CellsAt
  exact ⟨World.block_lt_of_cell? W _ h0, h0, h1, h2, h3, hs, A, c, h4, s1, s2, s3⟩

set_option maxRecDepth 100000 in
/-- A slice of values that came in. -/
theorem values_came {H : Type} {enc : TypeId × Value → H} {W : World} {sp : Nat → Bool} {hd : Bool} : ∀ (K fuel : Nat) (cs : List Value) (d : DataW H) (p : List MemPlace), K ≤ 1048576 →
    DataW.trod enc Tryd.prog W 0 sp hd fuel 51 cs = some (d, p) → Rows.uptoBulk d ≤ K → ∃ (l : List V) (g : Value), cs = [g] ∧ SlAt W W.heap.size l g ∧ nodesL l ≤ Rows.uptoBulk d := by
  intro K
  induction K with
  | zero =>
    intro fuel cs d p _ h hk
    have := bulk_pos d
    omega
  | succ K ih =>
    intro fuel cs d p hK h hk
    rcases Deep.open_slice Tryd.underlying51 h with ⟨hcs, hx⟩ | ⟨a, len, cap, m, n, D, Pl, hcs, hb, hl, hm, hmm, hx, hi⟩
    · exact ⟨[], _, hcs, ⟨none, 0, rfl, by simp, by simp, .inl rfl⟩, by simp [nodesL]⟩
    · simp only [Prod.mk.injEq] at hx
      obtain ⟨rfl, -⟩ := hx
      have hlm : len ≤ m := by rw [hmm]; split <;> omega
      simp only [Rows.uptoBulk] at hk ⊢
      have hln : len ≤ 1048576 := by
        have := bulk_len ((List.range len).map D)
        simp at this
        omega
      have hrow : ∀ i, i < len → ∃ x : V, (∃ b off, a = ⟨b, off, none⟩ ∧ CellsAt W W.heap.size x b (off + i * 5)) ∧ nodesV x ≤ Rows.uptoBulk (D i) := by
        intro i hil
        obtain ⟨cz, hz, -⟩ := hi 0 (by omega)
        rw [val_cells] at hz
        obtain ⟨b, off, rfl⟩ := spot_none hz
        obtain ⟨cs', hc, ht⟩ := hi i (by omega)
        rw [val_cells] at hc
        obtain ⟨_, hcl, hat⟩ := World.cells?_some hc
        have hmem : D i ∈ (List.range len).map D := List.mem_map.2 ⟨i, List.mem_range.2 hil, rfl⟩
        obtain ⟨k, j, t, s, l, g, rfl, hs, hsl, hno⟩ := value_in K (by omega) (fun f c d p h1 h2 => ih f c d p (by omega) h1 h2) n cs' (D i) (Pl i) ht (by have := bulk_in hmem; omega)
        have a0 := hat 0 (by omega)
        have a1 := hat 1 (by omega)
        have a2 := hat 2 (by omega)
        have a3 := hat 3 (by omega)
        have a4 := hat 4 (by omega)
        rw [Deep.add_add] at a0 a1 a2 a3 a4
        rw [add_plain] at a0 a1 a2 a3 a4
        exact ⟨_, ⟨b, off, rfl, cells_of (by simpa using a0) (by rw [Nat.add_assoc]; exact a1) (by rw [Nat.add_assoc]; exact a2) (by rw [Nat.add_assoc]; exact a3) (by rw [Nat.add_assoc]; exact a4) hs hsl⟩, by rw [nodesV_mk]; exact hno⟩
      rcases Nat.eq_zero_or_pos len with h0 | h0
      · subst h0
        exact ⟨[], _, hcs, ⟨some a, cap, rfl, by simp, by simp, .inl rfl⟩, by simp [nodesL]⟩
      · obtain ⟨_, ⟨b, off, rfl, _⟩, _⟩ := hrow 0 h0
        have hrow' : ∀ i, i < len → ∃ x : V, CellsAt W W.heap.size x b (off + i * 5) ∧ nodesV x ≤ Rows.uptoBulk (D i) := by
          intro i hil
          obtain ⟨x, ⟨b', off', e, h1⟩, h2⟩ := hrow i hil
          simp only [Addr.mk.injEq, and_true] at e
          obtain ⟨rfl, rfl⟩ := e
          exact ⟨x, h1, h2⟩
        have : ∃ F : Nat → V, ∀ i, i < len → CellsAt W W.heap.size (F i) b (off + i * 5) ∧ nodesV (F i) ≤ Rows.uptoBulk (D i) :=
          ⟨fun i => if h : i < len then (hrow' i h).choose else .mk 0 0 0 ByteArray.empty [], fun i h => by simp only [h, dite_true]; exact (hrow' i h).choose_spec⟩
        obtain ⟨F, hF⟩ := this
        have hr := tabV_row (w := W) (B := W.heap.size) (b := b) (off := off) F len 0 (fun k _ h2 => (hF k (by omega)).1)
        have hn := tabV_nodes F D len 0 (fun k _ h2 => (hF k (by omega)).2)
        rw [← List.range_eq_range'] at hn
        rw [Nat.zero_mul, Nat.add_zero] at hr
        exact ⟨tabV F 0 len, _, hcs, ⟨some ⟨b, off, none⟩, cap, by rw [tabV_len], by rw [tabV_len]; omega, by rw [tabV_len]; omega, .inr ⟨b, off, rfl, hr⟩⟩, by omega⟩
theorem value_of {H : Type} {enc : TypeId × Value → H} {W : World} {sp : Nat → Bool} {hd : Bool} (fuel : Nat) (cs : List Value) (d : DataW H) (p : List MemPlace) (h : DataW.trod enc Tryd.prog W 0 sp hd fuel 53 cs = some (d, p)) (hk : Rows.uptoBulk d ≤ 1048576) :
    ∃ (k i t : Int) (s : ByteArray) (l : List V) (g : Value), cs = [.int .i64 k, .int .i64 i, .int .i64 t, .string s, g] ∧ s.size ≤ 1048576 ∧ SlAt W W.heap.size l g ∧ 1 + nodesL l ≤ Rows.uptoBulk d :=
  value_in 1048576 (Nat.le_refl _) (fun f c d p h hk => values_came 1048576 f c d p (Nat.le_refl _) h hk) fuel cs d p h (by omega)

/-! ### Properties -/
def tabA {α : Type} (F : Nat → α) : Nat → Nat → List α
  | _, 0 => []
  | i, n + 1 => F i :: tabA F (i + 1) n
theorem tabA_len {α : Type} (F : Nat → α) : ∀ i n, (tabA F i n).length = n
  | _, 0 => rfl
  | i, n + 1 => by simp [tabA, tabA_len F (i + 1) n]
theorem tabA_mem {α : Type} (F : Nat → α) : ∀ n i x, x ∈ tabA F i n → ∃ k, i ≤ k ∧ k < i + n ∧ x = F k
  | 0, _, _, h => by simp [tabA] at h
  | n + 1, i, x, h => by
    unfold tabA at h
    rcases List.mem_cons.1 h with rfl | h
    · exact ⟨i, Nat.le_refl _, by omega, rfl⟩
    · obtain ⟨k, h1, h2, h3⟩ := tabA_mem F n (i + 1) x h
      exact ⟨k, by omega, by omega, h3⟩
instance : Inhabited V := ⟨.mk 0 0 0 ⟨#[]⟩ []⟩
instance : Inhabited PV := ⟨⟨⟨#[]⟩, default⟩⟩
theorem pick_lt {α : Type} [Inhabited α] {n : Nat} {p : Nat → α → Prop} (h : ∀ i, i < n → ∃ x, p i x) : ∃ F : Nat → α, ∀ i, i < n → p i (F i) :=
  ⟨fun i => if h' : i < n then (h i h').choose else default, fun i hi => by simp only [hi, dite_true]; exact (h i hi).choose_spec⟩
theorem prop_cells : Tryd.prog.cellsOf 59 = 6 := by kernel_rfl
theorem prop_fields : ∃ f0 f1 : Field, Tryd.prog.underlying 59 = some (.struct #[f0, f1]) ∧ f0.type = 9 ∧ f1.type = 53 ∧ f0.offset = 0 ∧ f1.offset = 1 :=
  ⟨_, _, Tryd.underlying59, rfl, rfl, rfl, rfl⟩
theorem str_cells : Tryd.prog.cellsOf 9 = 1 := by kernel_rfl
theorem prow_tab {w : World} {B b off : Nat} (F : Nat → PV) : ∀ n i, (∀ k, i ≤ k → k < i + n → b < B ∧ w.cell? ⟨b, off + k * 6, none⟩ = some (.string (F k).nm) ∧ (F k).nm.size ≤ 1048576 ∧ CellsAt w B (F k).val b (off + k * 6 + 1)) → PRow w B (tabA F i n) b (off + i * 6)
  | 0, _, _ => by unfold tabA PRow; trivial
  | n + 1, i, h => by
    unfold tabA PRow
    refine ⟨h i (Nat.le_refl _) (by omega), ?_⟩
    have := prow_tab F n (i + 1) (fun k h1 h2 => h k (by omega) (by omega))
    rw [show off + i * 6 + 6 = off + (i + 1) * 6 by omega]
    exact this

set_option maxRecDepth 100000 in
theorem props_came {H : Type} {enc : TypeId × Value → H} {W : World} {sp : Nat → Bool} {hd : Bool} (fuel : Nat) (cs : List Value) (d : DataW H) (p : List MemPlace)
    (h : DataW.trod enc Tryd.prog W 0 sp hd fuel 31 cs = some (d, p)) (hk : Rows.uptoBulk d ≤ 1048576) : ∃ (l : List PV) (g : Value), cs = [g] ∧ PSl W W.heap.size l g ∧ (∀ x ∈ l, nodesV x.val ≤ 1048576) ∧ l.length ≤ 1048575 := by
  rcases Deep.open_slice Tryd.underlying31 h with ⟨hcs, hx⟩ | ⟨a, len, cap, m, n, D, Pl, hcs, hb, hl, hm, hmm, hx, hi⟩
  · exact ⟨[], _, hcs, ⟨none, 0, rfl, by simp, by simp, .inl rfl⟩, fun _ h => by simp at h, by simp⟩
  · simp only [Prod.mk.injEq] at hx
    obtain ⟨rfl, -⟩ := hx
    have hlm : len ≤ m := by rw [hmm]; split <;> omega
    simp only [Rows.uptoBulk] at hk
    have hln : len ≤ 1048575 := by
      have := bulk_len ((List.range len).map D)
      simp at this
      omega
    rcases Nat.eq_zero_or_pos len with h0 | h0
    · subst h0
      exact ⟨[], _, hcs, ⟨some a, cap, rfl, by simp, by simp, .inl rfl⟩, fun _ h => by simp at h, by simp⟩
    · obtain ⟨cz, hz, -⟩ := hi 0 (by omega)
      rw [prop_cells] at hz
      obtain ⟨b, off, rfl⟩ := spot_none hz
      have hrow : ∀ i, i < len → ∃ x : PV, (b < W.heap.size ∧ W.cell? ⟨b, off + i * 6, none⟩ = some (.string x.nm) ∧ x.nm.size ≤ 1048576 ∧ CellsAt W W.heap.size x.val b (off + i * 6 + 1)) ∧ nodesV x.val ≤ 1048576 := by
        intro i hil
        obtain ⟨cs', hc, ht⟩ := hi i (by omega)
        rw [prop_cells] at hc
        obtain ⟨_, hcl, hat⟩ := World.cells?_some hc
        have hmem : D i ∈ (List.range len).map D := List.mem_map.2 ⟨i, List.mem_range.2 hil, rfl⟩
        have hbi := bulk_in hmem
        obtain ⟨f0, f1, hS, q0, q1, o0, o1⟩ := prop_fields
        obtain ⟨ys, n', -, hx', hlen, hyl, hf⟩ := DataW.trod_struct hS ht
        obtain ⟨c0, c1, c2, c3, c4, c5, rfl⟩ := six_of hcl
        obtain ⟨y0, y1, rfl⟩ := two_of hyl
        have h0' := hf 0 f0 rfl
        have h1' := hf 1 f1 rfl
        rw [o0, q0, str_cells] at h0'
        rw [o1, q1, val_cells] at h1'
        simp only [Prod.mk.injEq] at hx'
        have hD : D i = .agg [y0.1, y1.1] := hx'.1
        rw [hD] at hbi
        obtain ⟨s, e0, e0', -⟩ := DataW.trod_string Tryd.underlying9 (h0'.trans rfl)
        rw [e0'] at hbi
        simp only [Rows.uptoBulk, Rows.uptoBulkAll] at hbi
        obtain ⟨k, j, t, s2, l2, g, e1, hs2, hsl, hno⟩ := value_of n' _ y1.1 y1.2 (h1'.trans rfl) (by omega)
        simp at e0 e1
        obtain ⟨e1, e2, e3, e4, e5⟩ := e1
        subst e0 e1 e2 e3 e4 e5
        have a0 := hat 0 (by omega)
        have a1 := hat 1 (by omega)
        have a2 := hat 2 (by omega)
        have a3 := hat 3 (by omega)
        have a4 := hat 4 (by omega)
        have a5 := hat 5 (by omega)
        rw [Deep.add_add, add_plain] at a0 a1 a2 a3 a4 a5
        have z0 : W.cell? ⟨b, off + i * 6, none⟩ = some (.string s) := by simpa using a0
        have es : s.size = s.data.toList.length := by rw [Array.length_toList]; rfl
        refine ⟨⟨s, .mk k j t s2 l2⟩, ⟨World.block_lt_of_cell? W _ z0, z0, by show s.size ≤ _; omega, cells_of ?_ ?_ ?_ ?_ ?_ hs2 hsl⟩, by show nodesV (.mk k j t s2 l2) ≤ _; rw [nodesV_mk]; omega⟩
        · rw [Nat.add_assoc]; exact a1
        · rw [Nat.add_assoc, Nat.add_assoc]; exact a2
        · rw [Nat.add_assoc, Nat.add_assoc]; exact a3
        · rw [Nat.add_assoc, Nat.add_assoc]; exact a4
        · rw [Nat.add_assoc, Nat.add_assoc]; exact a5
      obtain ⟨F, hF⟩ := pick_lt hrow
      have hr := prow_tab (w := W) (B := W.heap.size) (b := b) (off := off) F len 0 (fun k _ h2 => (hF k (by omega)).1)
      rw [Nat.zero_mul, Nat.add_zero] at hr
      refine ⟨tabA F 0 len, _, hcs, ⟨some ⟨b, off, none⟩, cap, by rw [tabA_len], by rw [tabA_len]; omega, by rw [tabA_len]; omega, .inr ⟨b, off, rfl, hr⟩⟩, fun x hx => ?_, by rw [tabA_len]; exact hln⟩
      obtain ⟨k, _, h2, rfl⟩ := tabA_mem F len 0 x hx
      exact (hF k (by omega)).2
end Go.Proofs.YtfpiannnggkdiaaDoor
