/- Types in memory; hasType. -/
import Derived.Test.YtggnocajpnmemaaDoorPtR
namespace Go.Proofs.YtggnocajpnmemaaDoor
open Go.RowKit Go.Shelf

structure TV where
  nm : ByteArray
  kind : Int
  need : Bool
  cs : List ByteArray
  least : Int
  most : Int
/-- A type in hand: its choices' slice is g. -/
def TV.hand (t : TV) (g : Value) : Value := .agg #[.string t.nm, .int .i64 t.kind, .bool t.need, g, .int .i64 t.least, .int .i64 t.most]
/-- Types lie one after the other, six cells each, all of them below block B. -/
def TRow (w : World) (B : Nat) : List TV → Nat → Nat → Prop
  | [], _, _ => True
  | t :: r, b, off => (b < B ∧ w.cell? ⟨b, off, none⟩ = some (.string t.nm) ∧ t.nm.size ≤ 140737488355328 ∧ w.cell? ⟨b, off + 1, none⟩ = some (.int .i64 t.kind) ∧ w.cell? ⟨b, off + 2, none⟩ = some (.bool t.need) ∧
      (∃ g, w.cell? ⟨b, off + 3, none⟩ = some g ∧ StSl w B t.cs g) ∧ w.cell? ⟨b, off + 4, none⟩ = some (.int .i64 t.least) ∧ w.cell? ⟨b, off + 5, none⟩ = some (.int .i64 t.most)) ∧ TRow w B r b (off + 6)
def TySl (w : World) (B : Nat) (l : List TV) (g : Value) : Prop :=
  ∃ A c, g = .slice A l.length c ∧ l.length ≤ 140737488355328 ∧ l.length ≤ c ∧ (l = [] ∨ ∃ b off, A = some ⟨b, off, none⟩ ∧ TRow w B l b off)
theorem TRow.get {w : World} {B : Nat} : ∀ (l : List TV) (b off j : Nat), TRow w B l b off → (h : j < l.length) →
    b < B ∧ w.cell? ⟨b, off + j * 6, none⟩ = some (.string l[j].nm) ∧ l[j].nm.size ≤ 140737488355328 ∧ w.cell? ⟨b, off + j * 6 + 1, none⟩ = some (.int .i64 l[j].kind) ∧ w.cell? ⟨b, off + j * 6 + 2, none⟩ = some (.bool l[j].need) ∧
      (∃ g, w.cell? ⟨b, off + j * 6 + 3, none⟩ = some g ∧ StSl w B l[j].cs g) ∧ w.cell? ⟨b, off + j * 6 + 4, none⟩ = some (.int .i64 l[j].least) ∧ w.cell? ⟨b, off + j * 6 + 5, none⟩ = some (.int .i64 l[j].most)
  | [], _, _, _, _, h => absurd h (by simp)
  | t :: r, b, off, 0, h, _ => by
    unfold TRow at h
    simpa using h.1
  | t :: r, b, off, j + 1, h, hj => by
    unfold TRow at h
    have h2 := TRow.get r b (off + 6) j h.2 (by simpa using hj)
    rw [show off + (j + 1) * 6 = off + 6 + j * 6 by omega]
    simpa using h2
theorem TRow.take {w : World} {B : Nat} : ∀ (l : List TV) (b off j : Nat), TRow w B l b off → TRow w B (l.take j) b off
  | [], _, _, _, _ => by rw [List.take_nil]; trivial
  | t :: r, _, _, 0, _ => trivial
  | t :: r, b, off, j + 1, h => by
    unfold TRow at h
    exact ⟨h.1, TRow.take r b (off + 6) j h.2⟩
theorem TRow.below {w w' : World} {B C : Nat} (hb : Below C w w') (hc : B ≤ C) : ∀ (l : List TV) (b off : Nat), TRow w B l b off → TRow w' B l b off
  | [], _, _, _ => trivial
  | t :: r, b, off, h => by
    unfold TRow at h ⊢
    obtain ⟨⟨h0, h1, hz, h2, h3, ⟨g, h4, h5⟩, h6, h7⟩, h8⟩ := h
    have q : ∀ o, w'.cell? ⟨b, o, none⟩ = w.cell? ⟨b, o, none⟩ := fun o => hb.cell (p := ⟨b, o, none⟩) (by show b < C; omega)
    exact ⟨⟨h0, (q _).trans h1, hz, (q _).trans h2, (q _).trans h3, ⟨g, (q _).trans h4, h5.below hb hc⟩, (q _).trans h6, (q _).trans h7⟩, TRow.below hb hc r b (off + 6) h8⟩
theorem TRow.up {w : World} {B C : Nat} (hc : B ≤ C) : ∀ (l : List TV) (b off : Nat), TRow w B l b off → TRow w C l b off
  | [], _, _, _ => trivial
  | t :: r, b, off, h => by
    unfold TRow at h ⊢
    obtain ⟨⟨h0, h1, hz, h2, h3, ⟨g, h4, h5⟩, h6, h7⟩, h8⟩ := h
    exact ⟨⟨by omega, h1, hz, h2, h3, ⟨g, h4, h5.up hc⟩, h6, h7⟩, TRow.up hc r b (off + 6) h8⟩
theorem TySl.below {w w' : World} {B C : Nat} {l : List TV} {g : Value} (h : TySl w B l g) (hb : Below C w w') (hc : B ≤ C) : TySl w' B l g := by
  obtain ⟨A, c, e, h1, h2, h3⟩ := h
  refine ⟨A, c, e, h1, h2, ?_⟩
  rcases h3 with h3 | ⟨b, off, rfl, h3⟩
  · exact .inl h3
  · exact .inr ⟨b, off, rfl, h3.below hb hc⟩
theorem TySl.up {w : World} {B C : Nat} {l : List TV} {g : Value} (h : TySl w B l g) (hc : B ≤ C) : TySl w C l g := by
  obtain ⟨A, c, e, h1, h2, h3⟩ := h
  refine ⟨A, c, e, h1, h2, ?_⟩
  rcases h3 with h3 | ⟨b, off, rfl, h3⟩
  · exact .inl h3
  · exact .inr ⟨b, off, rfl, h3.up hc⟩
theorem TySl.take {w : World} {B : Nat} {l : List TV} {A : Option Addr} {c j : Nat} (h : TySl w B l (.slice A l.length c)) (hj : j ≤ l.length) : TySl w B (l.take j) (.slice A (l.take j).length c) := by
  obtain ⟨A', c', e, h1, h2, h3⟩ := h
  injection e with e1 e2 e3
  subst e1 e3
  have hl : (l.take j).length = j := by rw [List.length_take]; omega
  refine ⟨A, c, rfl, by omega, by omega, ?_⟩
  rcases h3 with h3 | ⟨b, off, rfl, h3⟩
  · exact .inl (by rw [h3, List.take_nil])
  · exact .inr ⟨b, off, rfl, h3.take _ _ _ _⟩
/-- A type's cells. -/
theorem type_item {w : World} {B : Nat} {l : List TV} {A : Option Addr} {c j : Nat} (h : TySl w B l (.slice A l.length c)) (hj : j < l.length) :
    ∃ b off nm k nd cs le mo Ac cc, A = some ⟨b, off, none⟩ ∧ l[j] = ⟨nm, k, nd, cs, le, mo⟩ ∧ b < B ∧ w.cell? ⟨b, off + j * 6, none⟩ = some (.string nm) ∧ w.cell? ⟨b, off + j * 6 + 1, none⟩ = some (.int .i64 k) ∧ w.cell? ⟨b, off + j * 6 + 2, none⟩ = some (.bool nd) ∧
      w.cell? ⟨b, off + j * 6 + 3, none⟩ = some (.slice Ac cs.length cc) ∧ w.cell? ⟨b, off + j * 6 + 4, none⟩ = some (.int .i64 le) ∧ w.cell? ⟨b, off + j * 6 + 5, none⟩ = some (.int .i64 mo) ∧ nm.size ≤ 140737488355328 ∧ StSl w B cs (.slice Ac cs.length cc) := by
  obtain ⟨A', c', e, h1, h2, h3⟩ := h
  injection e with e1 e2 e3
  subst e1
  rcases h3 with h3 | ⟨b, off, rfl, h3⟩
  · rw [h3] at hj; exact absurd hj (by simp)
  · obtain ⟨g0, gn, gz, g1, g2, ⟨g, g3, gs⟩, g4, g5⟩ := TRow.get l b off j h3 hj
    obtain ⟨nm, k, nd, cs, le, mo, hx⟩ : ∃ nm k nd cs le mo, l[j] = ⟨nm, k, nd, cs, le, mo⟩ := ⟨_, _, _, _, _, _, rfl⟩
    rw [hx] at gn gz g1 g2 gs g4 g5
    obtain ⟨Ac, cc, rfl, q1, q2, q3⟩ := gs
    exact ⟨b, off, nm, k, nd, cs, le, mo, Ac, cc, rfl, hx, g0, gn, g1, g2, g3, g4, g5, gz, Ac, cc, rfl, q1, q2, q3⟩
def hasT (l : List TV) (q : ByteArray) : Bool := l.any fun t => t.nm.toList == q.toList
theorem hasT_yes {l : List TV} {q : ByteArray} {j : Nat} (hj : j < l.length) (h : (l[j].nm.toList == q.toList) = true) : hasT l q = true := by
  unfold hasT; rw [List.any_eq_true]; exact ⟨l[j], List.getElem_mem hj, h⟩
theorem hasT_no {l : List TV} {q : ByteArray} (h : ∀ j (hj : j < l.length), (l[j].nm.toList == q.toList) = false) : hasT l q = false := by
  unfold hasT; rw [List.any_eq_false]
  intro x hx
  obtain ⟨j, hj, rfl⟩ := List.mem_iff_getElem.mp hx
  rw [h j hj]; simp

/-- A function value that compares a type's name with q, in whatever later world. -/
structure Asks (K : Nat) (cap : Array Value) (q : ByteArray) (w : World) : Prop where
  enter : ∀ (xs : Array Value) (W : World), (callFunc K xs).run Tryd.prog W = .ok (.enter K xs) W
  call : ∀ (W : World) (nm : ByteArray) (k : Int) (nd : Bool) (g : Value) (le mo : Int), Below w.heap.size w W →
    Calls Tryd.prog K (#[.agg #[.string nm, .int .i64 k, .bool nd, g, .int .i64 le, .int .i64 mo]] ++ cap) W (Quiet W (.bool (nm.toList == q.toList)))

set_option maxRecDepth 100000 in
set_option maxHeartbeats 4000000 in
theorem typeIndex_any (l : List TV) (q : ByteArray) (K : Nat) (cap : Array Value) (A : Option Addr) (c : Nat) (w : World) (hl : TySl w w.heap.size l (.slice A l.length c)) (ha : Asks K cap q w) :
    Calls Tryd.prog 30 #[.slice A l.length c, .func (Fn.func K) #[] cap] w fun e w' => (∃ r : Int, e = .returned (.int .i64 r) ∧ decide (0 ≤ r) = hasT l q) ∧ Below w.heap.size w w' := by
  have hn : l.length ≤ 140737488355328 := by obtain ⟨_, _, e, h1, _⟩ := hl; exact h1
  have HSL := Lib.hid hl
  have HA := Lib.hid ha
  have hen := ha.enter
  obtain ⟨n, hnn⟩ : ∃ n, n = l.length := ⟨_, rfl⟩
  rw [← hnn] at hn HSL ⊢
  have HN := Lib.hid hnn
  clear hl hnn ha
  go_enter Tryd.func30, Tryd.ntmps30
  go_wp2_with fail
  go_loopw [8] (fun iv wx => ∃ j : Nat, iv = .int .i64 j ∧ j ≤ n ∧ Hid (Below w.heap.size w wx ∧ ∀ k (hk : k < l.length), k < j → (l[k].nm.toList == q.toList) = false)) (fun iv _ => n - (intOf iv).toNat)
  case atStart => exact ⟨0, rfl, Nat.zero_le _, Lib.hid ⟨Below.refl _ _, fun _ _ h => absurd h (by omega)⟩⟩
  case round =>
    obtain ⟨j, rfl, hjl, HR⟩ := hrel
    by_cases hj : j < n
    · have hj2 : j < l.length := by rw [← HN.out]; exact hj
      have p2 : (j : Int) < n := by omega
      obtain ⟨b, off, nm, kd, nd, cs, le, mo, Ac, cc, rfl, hx, hlt, gn, g1, g2, g3, g4, g5, hnz, gs⟩ := type_item (by rw [← HN.out]; exact HSL.out) hj2
      have hbel := HR.out.1
      replace gn := (hbel.cell (p := ⟨b, off + j * 6, none⟩) hlt).trans gn
      replace g1 := (hbel.cell (p := ⟨b, off + j * 6 + 1, none⟩) hlt).trans g1
      replace g2 := (hbel.cell (p := ⟨b, off + j * 6 + 2, none⟩) hlt).trans g2
      replace g3 := (hbel.cell (p := ⟨b, off + j * 6 + 3, none⟩) hlt).trans g3
      replace g4 := (hbel.cell (p := ⟨b, off + j * 6 + 4, none⟩) hlt).trans g4
      replace g5 := (hbel.cell (p := ⟨b, off + j * 6 + 5, none⟩) hlt).trans g5
      have HBL := Lib.hid hbel
      have hnx : l[j].nm = nm := by rw [hx]
      obtain ⟨m, hm⟩ : ∃ m, m = cs.length := ⟨_, rfl⟩
      rw [← hm] at g3
      clear gs hm hx hbel
      rcases he : (nm.toList == q.toList) with _ | _
      · have HR2 : Hid (∀ k (hk : k < l.length), k < j + 1 → (l[k].nm.toList == q.toList) = false) := Lib.hid (by
          intro k hk hk2
          by_cases hkj : k < j
          · exact HR.out.2 k hk hkj
          · obtain rfl : k = j := by omega
            rw [hnx]; exact he)
        have HC := Lib.hid (fun W hW => HA.out.call W nm kd nd (.slice Ac m cc) le mo hW)
        rw [he] at HC
        clear hnx HR he
        go_wp2_with fail
        refine (HC.out _ HBL.out).mono ?_
        rintro e6 w6 ⟨rfl, hb6⟩
        have HB6 := Lib.hid (HBL.out.trans (hb6.mono HBL.out.size))
        clear hb6
        go_wp2_with fail
        go_roundw
        case rel => exact ⟨j + 1, by go_num, hj, Lib.hid ⟨HB6.out, HR2.out⟩⟩
        case measure => simp [intOf]; omega
      · have HY : Hid (hasT l q = true) := Lib.hid (hasT_yes hj2 (by rw [hnx]; exact he))
        have HC := Lib.hid (fun W hW => HA.out.call W nm kd nd (.slice Ac m cc) le mo hW)
        rw [he] at HC
        clear hnx HR he
        go_wp2_with fail
        refine (HC.out _ HBL.out).mono ?_
        rintro e6 w6 ⟨rfl, hb6⟩
        have HB6 := Lib.hid (HBL.out.trans (hb6.mono HBL.out.size))
        clear hb6
        go_wp2_with fail
        go_ret
        exact ⟨⟨j, rfl, by rw [HY.out]; exact decide_eq_true (by omega)⟩, HB6.out⟩
    · have p2 : ¬ (j : Int) < n := by omega
      have HY : Hid (hasT l q = false) := Lib.hid (hasT_no (fun k hk => HR.out.2 k hk (by rw [← HN.out] at hk; omega)))
      have HBL := Lib.hid HR.out.1
      clear HR
      go_wp2_with fail
      go_ret
      exact ⟨⟨-1, rfl, by rw [HY.out]; rfl⟩, HBL.out⟩

set_option maxRecDepth 100000 in
set_option maxHeartbeats 4000000 in
theorem typeContains_any (l : List TV) (q : ByteArray) (K : Nat) (cap : Array Value) (A : Option Addr) (c : Nat) (w : World) (hl : TySl w w.heap.size l (.slice A l.length c)) (ha : Asks K cap q w) :
    Calls Tryd.prog 18 #[.slice A l.length c, .func (Fn.func K) #[] cap] w (Quiet w (.bool (hasT l q))) := by
  have HI := Lib.hid (typeIndex_any l q K cap A c w hl ha)
  obtain ⟨n, hnn⟩ : ∃ n, n = l.length := ⟨_, rfl⟩
  rw [← hnn] at HI ⊢
  clear hl hnn ha
  go_enter Tryd.func18, Tryd.ntmps18
  go_wp2_with fail
  refine HI.out.mono ?_
  rintro e2 w2 ⟨⟨r, rfl, hr⟩, hw⟩
  have HR := Lib.hid hr
  have HB := Lib.hid hw
  clear hw hr
  go_wp2_with fail
  go_ret
  exact ⟨ret_bool HR.out, HB.out⟩

/-! ### hasType -/
set_option maxRecDepth 100000 in
set_option maxHeartbeats 4000000 in
theorem hasAsk_any (q nm : ByteArray) (k : Int) (nd : Bool) (g : Value) (le mo : Int) (b : Nat) (W : World) (hc : W.cell? ⟨b, 0, none⟩ = some (.string q)) (hb : b < W.heap.size) :
    Calls Tryd.prog 27 #[.agg #[.string nm, .int .i64 k, .bool nd, g, .int .i64 le, .int .i64 mo], .pointer (some ⟨b, 0, none⟩)] W (Quiet W (.bool (nm.toList == q.toList))) := by
  go_enter Tryd.func27, Tryd.ntmps27
  go_wp2_with fail
  go_ret
  exact ⟨rfl, (Below.refl _ _).alloc (Nat.le_refl _) _⟩
end Go.Proofs.YtggnocajpnmemaaDoor
