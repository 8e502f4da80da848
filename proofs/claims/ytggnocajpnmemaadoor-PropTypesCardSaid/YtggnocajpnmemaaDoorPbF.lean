/- What came in, opened: values, properties, types. -/
import Derived.Test.YtggnocajpnmemaaDoorPbE
import Derived.Test.YtggnocajpnmemaaDoorRows
import Derived.ProofKit
import Derived.OpenShut
import Derived.ChangeOld
import Derived.SizedLaws
import Derived.Lib.SmallJoins
import Derived.Deep.Slices
import Derived.Deep.Fields
import Derived.SliceStrings
namespace Go.Proofs.YtggnocajpnmemaaDoor
open Go.ChangeShapes Go.WideShapes Go.ChangeAt Go.RowKit Go.Joins Go.Shelf

/-! ### Sizes within the reach -/
def Okw {H : Type} (P : Program) (t : TypeId) (d : DataW H) : Prop := ∀ n ∈ d.weights P t, n ≤ reachBytes
theorem weights_all {H : Type} {P : Program} {e : TypeId} {d : DataW H} : ∀ {l : List (DataW H)}, d ∈ l → ∀ n ∈ d.weights P e, n ∈ DataW.weightsAll P e l
  | [], h, _, _ => absurd h (by simp)
  | x :: l, h, n, hn => by
    simp only [DataW.weightsAll, List.mem_append]
    rcases List.mem_cons.1 h with rfl | h
    · exact .inl hn
    · exact .inr (weights_all h n hn)
theorem okw_slice {H : Type} {P : Program} {t e : TypeId} {el sp : List (DataW H)} (hu : P.underlying t = some (.slice e)) (h : Okw P t (.slice el sp)) : (el.length + sp.length) * P.bytesOf e ≤ reachBytes ∧ ∀ d ∈ el, Okw P e d := by
  unfold Okw at h
  simp only [DataW.weights, hu, List.mem_cons, List.mem_append] at h
  exact ⟨h _ (.inl rfl), fun d hd n hn => h n (.inr (.inl (weights_all hd n hn)))⟩
theorem okw_struct {H : Type} {P : Program} {t : TypeId} {fs : Array Field} {parts : List (DataW H)} (hu : P.underlying t = some (.struct fs)) (h : Okw P t (.agg parts)) {j : Nat} {f : Field} {d : DataW H} (hf : fs[j]? = some f) (hd : parts[j]? = some d) : Okw P f.type d := by
  unfold Okw at h
  simp only [DataW.weights, hu] at h
  exact fun n hn => h n (DataW.weights_mem_each (j := j) (by simp [hf]) hd n hn)
theorem okw_string {H : Type} {P : Program} {t : TypeId} {bytes : List UInt8} (h : Okw (H := H) P t (.lit (.string bytes))) : bytes.length ≤ reachBytes := h _ (by simp [DataW.weights])
theorem reach_is : reachBytes = 140737488351232 := rfl

theorem spot_none {w : World} {base : Nat} {a : Addr} {m n : Nat} {cs : List Value} (h : w.cells? base (a.add (0 * m)) (n + 1) = some cs) : ∃ b off, a = ⟨b, off, none⟩ := by
  obtain ⟨_, hl, hat⟩ := World.cells?_some h
  have h0 := hat 0 (by omega)
  rw [List.getElem?_eq_getElem (by omega)] at h0
  obtain ⟨b, off, spot⟩ := a
  have hspot : spot = none := by simpa [Addr.add] using World.cell?_spot h0
  subst hspot
  exact ⟨b, off, rfl⟩

/-! ### Values -/
theorem val_cells : Tryd.prog.cellsOf 40 = 5 := by kernel_rfl
theorem val_bytes : 1 ≤ Tryd.prog.bytesOf 40 := of_decide_eq_true (by kernel_rfl)
theorem val_fields : ∃ f0 f1 f2 f3 f4 : Field, Tryd.prog.underlying 40 = some (.struct #[f0, f1, f2, f3, f4]) ∧ Deep.oneCellFields Tryd.prog #[f0, f1, f2, f3, f4] = true ∧ f0.type = 3 ∧ f1.type = 3 ∧ f2.type = 3 ∧ f3.type = 9 ∧ f4.type = 38 :=
  ⟨_, _, _, _, _, Tryd.underlying40, by kernel_rfl, rfl, rfl, rfl, rfl, rfl⟩
theorem bulk_in {H : Type} {d : DataW H} {l : List (DataW H)} (h : d ∈ l) : Rows.uptoBulk d ≤ Rows.uptoBulkAll l := by
  induction l with
  | nil => simp at h
  | cons a r ih =>
    rw [Rows.uptoBulkAll]
    rcases List.mem_cons.1 h with rfl | h
    · omega
    · have := ih h; omega
theorem bulk_pos {H : Type} (d : DataW H) : 1 ≤ Rows.uptoBulk d := by
  cases d with
  | lit l => cases l <;> simp [Rows.uptoBulk]
  | _ => simp [Rows.uptoBulk]

/-- One value's cells, its items opened already. -/
theorem value_in {H : Type} {enc : TypeId × Value → H} {W : World} {sp : Nat → Bool} {hd : Bool} (K : Nat)
    (ih : ∀ (fuel : Nat) (cs : List Value) (d : DataW H) (p : List MemPlace), DataW.trod enc Tryd.prog W 0 sp hd fuel 38 cs = some (d, p) → Rows.uptoBulk d ≤ K → Okw Tryd.prog 38 d → ∃ (l : List V) (g : Value), cs = [g] ∧ SlAt W W.heap.size l g)
    (fuel : Nat) (cs : List Value) (d : DataW H) (p : List MemPlace) (h : DataW.trod enc Tryd.prog W 0 sp hd fuel 40 cs = some (d, p)) (hk : Rows.uptoBulk d ≤ K + 1) (ho : Okw Tryd.prog 40 d) :
    ∃ (k i t : Int) (s : ByteArray) (l : List V) (g : Value), cs = [.int .i64 k, .int .i64 i, .int .i64 t, .string s, g] ∧ s.size ≤ 140737488355328 ∧ SlAt W W.heap.size l g := by
  obtain ⟨f0, f1, f2, f3, f4, hS, hone, q0, q1, q2, q3, q4⟩ := val_fields
  obtain ⟨ys, n, -, hx, hlen, hyl, hf⟩ := DataW.trod_struct hS h
  rw [val_cells] at hlen
  obtain ⟨c0, c1, c2, c3, c4, rfl⟩ : ∃ c0 c1 c2 c3 c4, cs = [c0, c1, c2, c3, c4] := by
    match cs, hlen with
    | [c0, c1, c2, c3, c4], _ => exact ⟨c0, c1, c2, c3, c4, rfl⟩
  obtain ⟨y0, y1, y2, y3, y4, rfl⟩ : ∃ y0 y1 y2 y3 y4, ys = [y0, y1, y2, y3, y4] := by
    match ys, hyl with
    | [c0, c1, c2, c3, c4], _ => exact ⟨c0, c1, c2, c3, c4, rfl⟩
  obtain ⟨o0, k0⟩ := Deep.hone_of hone 0 f0 rfl
  obtain ⟨o1, k1⟩ := Deep.hone_of hone 1 f1 rfl
  obtain ⟨o2, k2⟩ := Deep.hone_of hone 2 f2 rfl
  obtain ⟨o3, k3⟩ := Deep.hone_of hone 3 f3 rfl
  obtain ⟨o4, k4⟩ := Deep.hone_of hone 4 f4 rfl
  have h0 := hf 0 f0 rfl
  have h1 := hf 1 f1 rfl
  have h2 := hf 2 f2 rfl
  have h3 := hf 3 f3 rfl
  have h4 := hf 4 f4 rfl
  rw [o0, k0, q0] at h0
  rw [o1, k1, q1] at h1
  rw [o2, k2, q2] at h2
  rw [o3, k3, q3] at h3
  rw [o4, k4, q4] at h4
  obtain ⟨k, e0, -, -⟩ := DataW.trod_int Tryd.underlying3 (h0.trans rfl)
  obtain ⟨i, e1, -, -⟩ := DataW.trod_int Tryd.underlying3 (h1.trans rfl)
  obtain ⟨t, e2, -, -⟩ := DataW.trod_int Tryd.underlying3 (h2.trans rfl)
  obtain ⟨s, e3, e3', -⟩ := DataW.trod_string Tryd.underlying9 (h3.trans rfl)
  simp at e0 e1 e2 e3
  simp only [Prod.mk.injEq] at hx
  obtain ⟨rfl, -⟩ := hx
  have hw3 := okw_struct hS ho (j := 3) (f := f3) (d := y3.1) rfl rfl
  have hw4 := okw_struct hS ho (j := 4) (f := f4) (d := y4.1) rfl rfl
  rw [e3'] at hw3
  rw [q4] at hw4
  have hs := okw_string hw3
  have hb : Rows.uptoBulk y4.1 ≤ K := by
    have h5 := bulk_pos y0.1
    simp only [Rows.uptoBulk, Rows.uptoBulkAll, List.map_cons, List.map_nil] at hk
    omega
  obtain ⟨l, g, hg, hl⟩ := ih n _ y4.1 y4.2 (h4.trans rfl) hb hw4
  simp at hg
  rw [reach_is, ← Lib.size_eq] at hs
  exact ⟨k, i, t, s, l, g, by rw [e0, e1, e2, e3, hg], by omega, hl⟩

def tabV (F : Nat → V) : Nat → Nat → List V
  | _, 0 => []
  | i, n + 1 => F i :: tabV F (i + 1) n
theorem tabV_len (F : Nat → V) : ∀ i n, (tabV F i n).length = n
  | _, 0 => rfl
  | i, n + 1 => by simp [tabV, tabV_len F (i + 1) n]
theorem tabV_row {w : World} {B b off : Nat} (F : Nat → V) : ∀ n i, (∀ k, i ≤ k → k < i + n → CellsAt w B (F k) b (off + k * 5)) → RowAt w B (tabV F i n) b (off + i * 5)
  | 0, _, _ => by unfold tabV RowAt; trivial
  | n + 1, i, h => by
    unfold tabV RowAt
    refine ⟨h i (Nat.le_refl _) (by omega), ?_⟩
    have := tabV_row F n (i + 1) (fun k h1 h2 => h k (by omega) (by omega))
    rw [show off + i * 5 + 5 = off + (i + 1) * 5 by omega]
    exact this
theorem cells_of {W : World} {b off : Nat} {k i t : Int} {s : ByteArray} {l : List V} {g : Value} (h0 : W.cell? ⟨b, off, none⟩ = some (.int .i64 k)) (h1 : W.cell? ⟨b, off + 1, none⟩ = some (.int .i64 i)) (h2 : W.cell? ⟨b, off + 2, none⟩ = some (.int .i64 t)) (h3 : W.cell? ⟨b, off + 3, none⟩ = some (.string s)) (h4 : W.cell? ⟨b, off + 4, none⟩ = some g) (hs : s.size ≤ 140737488355328) (hl : SlAt W W.heap.size l g) : CellsAt W W.heap.size (.mk k i t s l) b off := by
  obtain ⟨A, c, rfl, s1, s2, s3⟩ := hl
  unfold CellsAt
  exact ⟨World.block_lt_of_cell? W _ h0, h0, h1, h2, h3, hs, A, c, h4, s1, s2, s3⟩

set_option maxRecDepth 100000 in
/-- A slice of values that came in. -/
theorem values_came {H : Type} {enc : TypeId × Value → H} {W : World} {sp : Nat → Bool} {hd : Bool} : ∀ (K fuel : Nat) (cs : List Value) (d : DataW H) (p : List MemPlace),
    DataW.trod enc Tryd.prog W 0 sp hd fuel 38 cs = some (d, p) → Rows.uptoBulk d ≤ K → Okw Tryd.prog 38 d → ∃ (l : List V) (g : Value), cs = [g] ∧ SlAt W W.heap.size l g := by
  intro K
  induction K with
  | zero =>
    intro fuel cs d p h hk
    have := bulk_pos d
    omega
  | succ K ih =>
    intro fuel cs d p h hk ho
    rcases Deep.open_slice Tryd.underlying38 h with ⟨hcs, hx⟩ | ⟨a, len, cap, m, n, D, Pl, hcs, hb, hl, hm, hmm, hx, hi⟩
    · exact ⟨[], _, hcs, none, 0, rfl, by simp, by simp, .inl rfl⟩
    · simp only [Prod.mk.injEq] at hx
      obtain ⟨rfl, -⟩ := hx
      have hlm : len ≤ m := by rw [hmm]; split <;> omega
      simp only [Rows.uptoBulk] at hk
      obtain ⟨hw, hwe⟩ := okw_slice Tryd.underlying38 ho
      have hln : len ≤ 140737488355328 := by
        have hv := val_bytes
        have h1 : len * 1 ≤ (((List.range len).map D).length + ((List.range (m - len)).map fun j => D (len + j)).length) * Tryd.prog.bytesOf 40 := Nat.mul_le_mul (by simp) hv
        rw [reach_is] at hw
        omega
      have hrow : ∀ i, i < len → ∃ x : V, ∃ b off, a = ⟨b, off, none⟩ ∧ CellsAt W W.heap.size x b (off + i * 5) := by
        intro i hil
        obtain ⟨cz, hz, -⟩ := hi 0 (by omega)
        rw [val_cells] at hz
        obtain ⟨b, off, rfl⟩ := spot_none hz
        obtain ⟨cs', hc, ht⟩ := hi i (by omega)
        rw [val_cells] at hc
        obtain ⟨_, hcl, hat⟩ := World.cells?_some hc
        have hmem : D i ∈ (List.range len).map D := List.mem_map.2 ⟨i, List.mem_range.2 hil, rfl⟩
        obtain ⟨k, j, t, s, l, g, rfl, hs, hsl⟩ := value_in K ih n cs' (D i) (Pl i) ht (by have := bulk_in hmem; omega) (hwe _ hmem)
        have a0 := hat 0 (by omega)
        have a1 := hat 1 (by omega)
        have a2 := hat 2 (by omega)
        have a3 := hat 3 (by omega)
        have a4 := hat 4 (by omega)
        rw [Deep.add_add] at a0 a1 a2 a3 a4
        rw [add_plain] at a0 a1 a2 a3 a4
        exact ⟨_, b, off, rfl, cells_of (by simpa using a0) (by rw [Nat.add_assoc]; exact a1) (by rw [Nat.add_assoc]; exact a2) (by rw [Nat.add_assoc]; exact a3) (by rw [Nat.add_assoc]; exact a4) hs hsl⟩
      rcases Nat.eq_zero_or_pos len with h0 | h0
      · subst h0
        exact ⟨[], _, hcs, some a, cap, rfl, by simp, by simp, .inl rfl⟩
      · obtain ⟨_, b, off, rfl, _⟩ := hrow 0 h0
        have hrow' : ∀ i, i < len → ∃ x : V, CellsAt W W.heap.size x b (off + i * 5) := by
          intro i hil
          obtain ⟨x, b', off', e, h1⟩ := hrow i hil
          simp only [Addr.mk.injEq, and_true] at e
          obtain ⟨rfl, rfl⟩ := e
          exact ⟨x, h1⟩
        have : ∃ F : Nat → V, ∀ i, i < len → CellsAt W W.heap.size (F i) b (off + i * 5) :=
          ⟨fun i => if h : i < len then (hrow' i h).choose else .mk 0 0 0 ByteArray.empty [], fun i h => by simp only [h, dite_true]; exact (hrow' i h).choose_spec⟩
        obtain ⟨F, hF⟩ := this
        have hr := tabV_row (w := W) (B := W.heap.size) (b := b) (off := off) F len 0 (fun k _ h2 => hF k (by omega))
        rw [Nat.zero_mul, Nat.add_zero] at hr
        exact ⟨tabV F 0 len, _, hcs, some ⟨b, off, none⟩, cap, by rw [tabV_len], by rw [tabV_len]; omega, by rw [tabV_len]; omega, .inr ⟨b, off, rfl, hr⟩⟩
theorem value_of {H : Type} {enc : TypeId × Value → H} {W : World} {sp : Nat → Bool} {hd : Bool} (fuel : Nat) (cs : List Value) (d : DataW H) (p : List MemPlace) (h : DataW.trod enc Tryd.prog W 0 sp hd fuel 40 cs = some (d, p)) (ho : Okw Tryd.prog 40 d) :
    ∃ (k i t : Int) (s : ByteArray) (l : List V) (g : Value), cs = [.int .i64 k, .int .i64 i, .int .i64 t, .string s, g] ∧ s.size ≤ 140737488355328 ∧ SlAt W W.heap.size l g :=
  value_in (Rows.uptoBulk d) (fun f c d p h hk ho => values_came _ f c d p h (Nat.le_refl _) ho) fuel cs d p h (by omega) ho
end Go.Proofs.YtggnocajpnmemaaDoor
