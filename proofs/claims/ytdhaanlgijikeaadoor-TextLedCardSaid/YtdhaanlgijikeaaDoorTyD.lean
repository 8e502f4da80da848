/- Package text: the list of the spans: what its visitor appends. -/
import Derived.Test.YtdhaanlgijikeaaDoorTyA
import Derived.WalkKit
import Derived.Lib.Hide
import Derived.Outline
import Derived.Deep.QuietTactic
import Derived.BigQuiet
import Derived.Deep.RegionHeld3
namespace Go.Proofs.YtdhaanlgijikeaaDoor
open Go.RowKit

/-- Values appended to a row: where the row is behind it. -/
theorem append_exactS {P : Program} (w : World) (t ty e : TypeId) (i : TypeInfo) (z : Value) (size bytes : Nat) (ht : P.underlying t = some (.slice e)) (hi : P.info? e = some i) (hz : i.zero = some z)
    (hsize : i.size = size) (hby : i.bytes = bytes) (hzs : z.cells.size = size) (hsz : 0 < size) (v : Value) (n : Nat) (xs : List Value) (hown : w.ownsRow 0 e size v n xs)
    (a : Addr) (m c : Nat) (news : List Value) (hl : news.length = m * size) (hnews : ∀ j u, news[j]? = some u → w.cell? (a.add j) = some u) (h1 : ∀ u ∈ news, u.oneCell' = true)
    (h63 : n + m ≤ maxLen) (hbytes : (n + m) * bytes ≤ 140737488355328) :
    ∃ v' w', (Builtin.append_ #[t, t] ty #[v, .slice (some a) m c]).run P w = .ok v' w' ∧ w'.ownsRow 0 e size v' (n + m) (xs ++ news) ∧ w.grownBy w' v.ownBlock ∧
      ∀ k, v'.ownBlock = some k → v.ownBlock = some k ∨ w.heap.size ≤ k := by
  have hx := hown.1
  rcases hown.2 with ⟨rfl, rfl⟩ | ⟨g, cap, cur, rfl, _, hg, hnc, hcm, hcs, htake⟩
  · obtain ⟨v', w', hr, h2, h3, _⟩ := run_append_own (P := P) w w.heap.size t ty e i z size bytes ht hi hz hsize hby hzs hsz (.slice none 0 0) 0 xs ⟨hx, .inl ⟨rfl, rfl⟩⟩ a m c news hl hnews h1 h63 hbytes (Nat.le_refl _)
    exact ⟨v', w', hr, own_zero h2, h3, fun k hk => .inr (h2.lt k hk).1⟩
  · obtain ⟨v', w', hr, h2, h3, _⟩ := run_append_own (P := P) w 0 t ty e i z size bytes ht hi hz hsize hby hzs hsz _ n xs hown a m c news hl hnews h1 h63 hbytes (Nat.zero_le _)
    refine ⟨v', w', hr, h2, h3, ?_⟩
    subst hsize
    subst hby
    by_cases hroom : n + m ≤ cap
    · have hfit : n * i.size + news.length ≤ cur.size := by rw [hl, hcs, ← Nat.add_mul]; exact Nat.mul_le_mul_right _ hroom
      have hr2 := run_append_room (P := P) w t ty e i ht hi g n cap cur hg a m c news hl hnews h1 hroom hfit
      rw [hr2] at hr
      cases hr
      intro k hk
      exact .inl hk
    · have hr2 := run_append_grow (P := P) w t ty e i z ht hi hz ⟨g, 0, none⟩ n cap xs hx (fun j u hj => hown.cells (g := g) rfl j u hj) a m c news hl hnews (by omega) (by simp only [maxLen] at h63; omega) (growslice_fits (by omega) hbytes)
      rw [hr2] at hr
      cases hr
      intro k hk
      simp only [Value.ownBlock, Option.some.injEq] at hk
      exact .inr (by omega)

theorem wpList_append_exactS {P : Program} (w : World) {ops : Array Oper} {rest : List Oper} {o : Oper} {a : Act} {Q : Exit → Act → World → Prop} (hgd : o.guard = none) (s x : Operand) (t : TypeId)
    (ho : o.op = .call { callee := .builtin .append, args := #[s, x], argTypes := #[t, t] })
    (e : TypeId) (i : TypeInfo) (z : Value) (size bytes : Nat) (ht : P.underlying t = some (.slice e)) (hi : P.info? e = some i) (hz : i.zero = some z)
    (hsize : i.size = size) (hby : i.bytes = bytes) (hzs : z.cells.size = size) (hsz : 0 < size) (v : Value) (n : Nat) (xs : List Value) (hs : a.eval s = v) (hown : w.ownsRow 0 e size v n xs)
    (ad : Addr) (m c : Nat) (news : List Value) (hx : a.eval x = .slice (some ad) m c) (hl : news.length = m * size) (hnews : ∀ j u, news[j]? = some u → w.cell? (ad.add j) = some u) (h1 : ∀ u ∈ news, u.oneCell' = true)
    (h63 : n + m ≤ maxLen) (hbytes : (n + m) * bytes ≤ 140737488355328)
    (h : ∀ v' w', w'.ownsRow 0 e size v' (n + m) (xs ++ news) → w.grownBy w' v.ownBlock → (∀ k, v'.ownBlock = some k → v.ownBlock = some k ∨ w.heap.size ≤ k) → wpList P ops Q rest (a.put o.dst v') w') : wpList P ops Q (o :: rest) a w := by
  refine wpList_plain hgd fun K hK => ?_
  obtain ⟨v', w', hr, h2, h3, h4⟩ := append_exactS (P := P) w t o.type e i z size bytes ht hi hz hsize hby hzs hsz v n xs hown ad m c news hl hnews h1 h63 hbytes
  unfold Oper.wp execOp
  simp only [ho, resolve, invoke, builtin, Sem.run_bind, Sem.run_pure, Result.andThen_ok, List.map_toArray, List.map_cons, List.map_nil, hs, hx, hr]
  exact hK _ _ (h v' w' h2 h3 h4)

theorem addr_plus (b off j : Nat) : (⟨b, off, none⟩ : Addr).add j = ⟨b, off + j, none⟩ := by simp [Addr.add]

def Sp.cells (x : Sp) : List Value := [.int .i64 x.kind, .int .i64 x.from_, .int .i64 x.to_, .string x.text, .string x.shw, .int .i64 x.id, .bool x.strong]
theorem Sp.cells_len (x : Sp) : x.cells.length = 7 := rfl
theorem infoSpan : (Tryd.prog.info? 29).map (fun i => (i.zero, i.size, i.bytes)) = some (some (.agg #[.int .i64 0, .int .i64 0, .int .i64 0, .string ⟨#[]⟩, .string ⟨#[]⟩, .int .i64 0, .bool false]), 7, 72) := by kernel_rfl

/-- A list of spans whose header is in block B; F names its blocks. -/
def SpList (B : Nat) (l : List Sp) (F : Nat → Prop) (w : World) : Prop :=
  ∃ v, One w B v 26 ∧ w.ownsRow 0 29 7 v l.length (l.flatMap Sp.cells) ∧ v.ownBlock ≠ some B ∧ F = fun k => k = B ∨ v.ownBlock = some k

def SpAdded (B : Nat) (l : List Sp) (x : Sp) (F : Nat → Prop) (w : World) (e : Ending) (w' : World) : Prop :=
  e = .returned (.tuple #[]) ∧ ∃ F', SpList B (l ++ [x]) F' w' ∧ Grew F w F' w'

set_option maxRecDepth 100000 in
set_option maxHeartbeats 4000000 in
theorem span_added (B : Nat) (l : List Sp) (x : Sp) (F : Nat → Prop) (w : World) (h : SpList B l F w) (hl : (l.length + 1) * 72 ≤ 140737488355328) :
    Calls Tryd.prog 12 #[x.val, .pointer (some ⟨B, 0, none⟩)] w (SpAdded B l x F w) := by
  obtain ⟨v, hB, hown, hne, hF⟩ := h
  obtain ⟨i0, hi, hz0, hz1, hz2⟩ := info_parts infoSpan
  have HF := Lib.hid hF
  clear hF
  have lB := hB.lt
  have W1 : ∃ o, o = (Obj.cells #[.int .i64 x.kind, .int .i64 x.from_, .int .i64 x.to_, .string x.text, .string x.shw, .int .i64 x.id, .bool x.strong] 29) := ⟨_, rfl⟩
  obtain ⟨o, ho⟩ := W1
  have hk1 : ∀ k, k < w.heap.size → (w.alloc o).heap[k]? = w.heap[k]? := fun k hk => Below.heap_alloc w o k hk
  have hB1 : One (w.alloc o) B v 26 := hB.kept (hk1 B lB)
  have c0 := hB1.cell
  have hk2 : ∀ k, k < w.heap.size → ((w.alloc o).alloc o).heap[k]? = w.heap[k]? := fun k hk => (Below.heap_alloc _ o k (by simp; omega)).trans (hk1 k hk)
  have hB2 : One ((w.alloc o).alloc o) B v 26 := hB.kept (hk2 B lB)
  have hown2 : ((w.alloc o).alloc o).ownsRow 0 29 7 v l.length (l.flatMap Sp.cells) := ownsRow_kept hown (fun k hk => hk2 k (hown.lt k hk).2)
  have hrow : ((w.alloc o).alloc o).heap[w.heap.size + 1]? = some o := by
    have := heap_alloc_new (w.alloc o) o
    simpa using this
  have hnews : ∀ j u, x.cells[j]? = some u → ((w.alloc o).alloc o).cell? ((⟨w.heap.size + 1, 0, none⟩ : Addr).add j) = some u := by
    intro j u hj
    rw [ho] at hrow ⊢
    have := cell_of_row _ _ j _ _ (0, 0) hrow
    rw [addr_plus, Nat.zero_add, this]
    simpa [Sp.cells] using hj
  have honecell : ∀ u ∈ x.cells, u.oneCell' = true := by
    intro u hu
    simp only [Sp.cells, List.mem_cons, List.not_mem_nil, or_false] at hu
    rcases hu with rfl | rfl | rfl | rfl | rfl | rfl | rfl <;> rfl
  have HO := Lib.hid (Out.of_below (F := F) (((Below.refl _ w).alloc (Nat.le_refl _) o).alloc (by simp) o))
  obtain ⟨xk, xf, xe, xt, xs, xi, xb⟩ := x
  subst ho
  unfold Sp.val
  simp only at c0 hB2 hown2 hnews HO hk2 ⊢
  clear hB1 hk1 hrow
  go_enter Tryd.func12, Tryd.ntmps12
  go_wp2_with (at_builtin; refine wpList_append_exactS _ rfl _ _ 26 rfl 29 i0 _ 7 72 Tryd.underlying26 hi hz0 hz1 hz2 rfl (by omega) _ _ _ rfl hown2 ⟨w.heap.size + 1, 0, none⟩ 1 1 (Sp.cells ⟨xk, xf, xe, xt, xs, xi, xb⟩) rfl rfl hnews honecell ?c3 hl ?_)
  case c3 => unfold maxLen; omega
  intro v' w3 hown' hgrow hex
  have hB3 : One w3 B v 26 := hB2.kept (hgrow.block B hB2.lt (fun e => hne e.symm))
  have c3 := hB3.cell
  have f3 := hB3.frozen
  obtain ⟨ao, n', cap, rfl⟩ : ∃ ao n' cap, v' = .slice ao n' cap := by
    rcases hown'.2 with ⟨hv, _⟩ | ⟨g, cap, cur, hv, _⟩
    · exact ⟨_, _, _, hv⟩
    · exact ⟨_, _, _, hv⟩
  have hx : SpAdded B l ⟨xk, xf, xe, xt, xs, xi, xb⟩ F w (.returned (.tuple #[])) (w3.setCell ⟨B, 0, none⟩ (.slice ao n' cap)) := by
    have hlt2 := hB2.lt
    have hnb : (Value.slice ao n' cap).ownBlock ≠ some B := by
      intro hk
      rcases hex B hk with h1 | h1
      · exact hne h1
      · omega
    refine ⟨rfl, fun k => k = B ∨ (Value.slice ao n' cap).ownBlock = some k, ⟨.slice ao n' cap, hB3.set_ _, ?_, hnb, rfl⟩, ⟨?_, ?_⟩⟩
    · have hl1 : (l ++ [(⟨xk, xf, xe, xt, xs, xi, xb⟩ : Sp)]).length = l.length + 1 := by simp
      have hl2 : (l ++ [(⟨xk, xf, xe, xt, xs, xi, xb⟩ : Sp)]).flatMap Sp.cells = l.flatMap Sp.cells ++ Sp.cells ⟨xk, xf, xe, xt, xs, xi, xb⟩ := by simp
      rw [hl1, hl2]
      exact ownsRow_kept hown' (fun k hk => Below.heap_setCell _ ⟨B, 0, none⟩ _ k (fun e => hnb (by rw [hk, e])))
    · exact (HO.out.trans (G := F) (c := w3) ⟨hgrow.os, hgrow.tape, hgrow.output, hgrow.size, fun k hk hn => hgrow.block k hk (fun e => hn (by rw [HF.out]; exact .inr e.symm))⟩ (fun _ _ h => h)).trans (out_set w3 B _) (fun k _ (e : k = B) => by rw [HF.out]; exact .inl e)
    · rw [HF.out]
      rintro k (hk | hk)
      · exact .inl (.inl hk)
      · rcases hex k hk with h1 | h1
        · exact .inl (.inr h1)
        · exact .inr (by omega)
  have HX := Lib.hid hx
  clear hx hex hgrow hown' hown2 hown hB2 hB3
  go_wp2
  go_end0
  exact HX.out

theorem spans_count {s : ByteArray} : ∀ {a b : Nat} {l : List Sp}, SpRow s a l b → a + l.length ≤ b
  | a, b, [], h => by
    have : a = b := h
    simp [this]
  | a, b, y :: r, h => by
    have h1 := spans_count h.2.2
    have h2 := h.2.1.lt
    have h3 := h.1
    simp only [List.length_cons]
    omega
theorem SpList.lt {B : Nat} {l : List Sp} {F : Nat → Prop} {w : World} (h : SpList B l F w) : ∀ k, F k → k < w.heap.size := by
  obtain ⟨v, hB, hown, _, rfl⟩ := h
  rintro k (rfl | hk)
  · exact hB.lt
  · exact (hown.lt k hk).2
theorem list_visits (s : ByteArray) (hs : s.size ≤ 4000000000) (B : Nat) : Visits Tryd.prog 12 #[.pointer (some ⟨B, 0, none⟩)] spArgs (spans s) (SpList B) where
  enter := enters_of Tryd.func12 (by kernel_rfl) rfl
  lt := fun done F w h => h.lt
  loc := by
    rintro done F w w' ⟨v, hB, hown, hne, rfl⟩ hk _
    exact ⟨v, hB.kept (hk B (.inl rfl)), ownsRow_kept hown (fun k h => hk k (.inr h)), hne, rfl⟩
  step := by
    intro done x post F w ha h
    have hc := spans_count (spans_row s)
    rw [ha, List.length_append, List.length_cons] at hc
    refine (span_added B done x F w h (by omega)).mono ?_
    rintro e w' ⟨rfl, F', h1, h2⟩
    exact ⟨rfl, F', h1, h2⟩

/-- The list of the spans is handed back. -/
def GivesSpans (l : List Sp) (w : World) (e : Ending) (w' : World) : Prop :=
  ∃ v, e = .returned v ∧ w'.ownsRow w.heap.size 29 7 v l.length (l.flatMap Sp.cells) ∧ Below w.heap.size w w'

set_option maxRecDepth 100000 in
set_option maxHeartbeats 4000000 in
theorem spans_any (s : ByteArray) (w : World) (hs : s.size ≤ 4000000000) : Calls Tryd.prog 6 #[.string s] w (GivesSpans (spans s) w) := by
  have hmf : ∀ (fn : Fn) (first cap : Array Value) (w : World), (Instr.makeFunc fn first cap).run Tryd.prog w = .ok (.func fn first cap) w := fun _ _ _ _ => rfl
  have h0 : SpList w.heap.size [] (fun k => k = w.heap.size) (w.alloc (.cells #[.slice none 0 0] 26)) :=
    ⟨.slice none 0 0, heap_alloc_new w _, World.ownsRow_nil _ _ _ _, by simp [Value.ownBlock], by funext k; simp [Value.ownBlock]⟩
  have HE := Lib.hid (eachSpan_any s _ _ _ _ _ (by omega) (list_visits s hs w.heap.size) h0)
  clear h0
  go_enter Tryd.func6, Tryd.ntmps6
  go_wp2_with fail
  refine HE.out.mono ?_
  rintro e1 w1 ⟨rfl, F1, ⟨v, hB, hown, hne, hF⟩, hg⟩
  have hlo : ∀ k, F1 k → w.heap.size ≤ k := fun k hk => by
    rcases hg.new k hk with h | h
    · omega
    · simp at h; omega
  have hown2 : w1.ownsRow w.heap.size 29 7 v (spans s).length ((spans s).flatMap Sp.cells) := by
    refine ⟨hown.1, ?_⟩
    rcases hown.2 with h | ⟨g, cap, cur, hv, _, h2⟩
    · exact .inl h
    · exact .inr ⟨g, cap, cur, hv, hlo g (by rw [hF]; exact .inr (by rw [hv]; rfl)), h2⟩
  have HR := Lib.hid hown2
  have HB := Lib.hid (((Below.refl _ _).alloc (Nat.le_refl _) (.cells #[.slice none 0 0] 26)).trans (hg.out.below (by simp) (fun k hk => by omega)))
  have c1 := hB.cell
  clear hB hown hne hF hg hlo hown2
  obtain ⟨ao, n', cap, rfl⟩ : ∃ ao n' cap, v = .slice ao n' cap := by
    rcases HR.out.2 with ⟨hv, _⟩ | ⟨g, cap, cur, hv, _⟩
    · exact ⟨_, _, _, hv⟩
    · exact ⟨_, _, _, hv⟩
  go_wp2
  go_ret
  exact ⟨_, rfl, HR.out, HB.out⟩
end Go.Proofs.YtdhaanlgijikeaaDoor
