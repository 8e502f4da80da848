/- Properties: cmp.Compare at strings; the comparison of position. Properties: slices.BinarySearchFunc at properties, by name. Properties: position. Properties: names in order (pure); what is at fault with a type (pure). -/
import Derived.Test.YtggnocajpnmemaaGreatDoorPvX
import Derived.Sort.Walk0
namespace Go.Proofs.YtggnocajpnmemaaGreatDoor
open Go.RowKit Go.Shelf

def cmpS (a b : ByteArray) : Int := if Op.bytesLess a.toList b.toList = true then -1 else if leB a b = true then 0 else 1
theorem gtr_str (a b : ByteArray) (W : World) : (binOp .gtr 9 (.string a) (.string b)).run Tryz.prog W = .ok (.bool (!leB a b)) W := rfl

set_option maxRecDepth 100000 in
set_option maxHeartbeats 4000000 in
theorem strNaN_any (a : ByteArray) (w : World) : Calls Tryz.prog 157 #[.string a] w fun e w' => e = .returned (.bool false) ∧ w' = w := by
  have h : (a.toList == a.toList) = true := by simp
  go_enter Tryz.func157, Tryz.ntmps157
  go_wp2_with fail
  go_ret
  exact ⟨ret_bool (by simp), rfl⟩
set_option maxRecDepth 100000 in
set_option maxHeartbeats 4000000 in
theorem strCmp_any (a b : ByteArray) (w : World) : Calls Tryz.prog 106 #[.string a, .string b] w fun e w' => e = .returned (.int .i64 (cmpS a b)) ∧ w' = w := by
  have HA := Lib.hid (fun W => strNaN_any a W)
  have HB := Lib.hid (fun W => strNaN_any b W)
  have HE : Hid (cmpS a b = if Op.bytesLess a.toList b.toList = true then -1 else if leB a b = true then 0 else 1) := Lib.hid rfl
  rcases hl : Op.bytesLess a.toList b.toList with _ | _
  · rw [hl, if_neg (by simp)] at HE
    rcases hg : leB a b with _ | _
    · rw [hg, if_neg (by simp)] at HE
      have o2 : ∀ W, (binOp .gtr 9 (.string a) (.string b)).run Tryz.prog W = .ok (.bool true) W := fun W => by rw [gtr_str, hg]; rfl
      clear hg
      go_enter Tryz.func106, Tryz.ntmps106
      go_wp2_with fail
      refine (HA.out _).mono ?_
      rintro e1 w1 ⟨rfl, h1⟩
      rw [h1]
      clear h1
      go_wp2_with fail
      refine (HB.out _).mono ?_
      rintro e2 w2 ⟨rfl, h2⟩
      rw [h2]
      clear h2
      go_wp2_with fail
      go_ret
      exact ⟨ret_int HE.out.symm, rfl⟩
    · rw [hg, if_pos rfl] at HE
      have o2 : ∀ W, (binOp .gtr 9 (.string a) (.string b)).run Tryz.prog W = .ok (.bool false) W := fun W => by rw [gtr_str, hg]; rfl
      clear hg
      go_enter Tryz.func106, Tryz.ntmps106
      go_wp2_with fail
      refine (HA.out _).mono ?_
      rintro e1 w1 ⟨rfl, h1⟩
      rw [h1]
      clear h1
      go_wp2_with fail
      refine (HB.out _).mono ?_
      rintro e2 w2 ⟨rfl, h2⟩
      rw [h2]
      clear h2
      go_wp2_with fail
      go_ret
      exact ⟨ret_int HE.out.symm, rfl⟩
  · rw [hl, if_pos rfl] at HE
    go_enter Tryz.func106, Tryz.ntmps106
    go_wp2_with fail
    refine (HA.out _).mono ?_
    rintro e1 w1 ⟨rfl, h1⟩
    rw [h1]
    clear h1
    go_wp2_with fail
    refine (HB.out _).mono ?_
    rintro e2 w2 ⟨rfl, h2⟩
    rw [h2]
    clear h2
    go_wp2_with fail
    go_ret
    exact ⟨ret_int HE.out.symm, rfl⟩

set_option maxRecDepth 100000 in
set_option maxHeartbeats 4000000 in
theorem posCmp_any (nm q : ByteArray) (k i t : Int) (s : ByteArray) (g : Value) (w : World) :
    Calls Tryz.prog 105 #[.agg #[.string nm, .int .i64 k, .int .i64 i, .int .i64 t, .string s, g], .string q] w (Quiet w (.int .i64 (cmpS nm q))) := by
  have HC := Lib.hid (fun W => strCmp_any nm q W)
  go_enter Tryz.func105, Tryz.ntmps105
  go_wp2_with fail
  refine (HC.out _).mono ?_
  rintro e1 w1 ⟨rfl, h1⟩
  rw [h1]
  clear h1
  go_wp2_with fail
  go_ret
  exact ⟨rfl, (Below.refl _ _).alloc (Nat.le_refl _) _⟩
end Go.Proofs.YtggnocajpnmemaaGreatDoor
namespace Go.Proofs.YtggnocajpnmemaaGreatDoor
open Go.RowKit Go.Shelf

/-- Names are in order. -/
def Mono (l : List PV) (q : ByteArray) : Prop := ∀ a b (_ : a ≤ b) (hb : b < l.length), cmpS l[b].nm q < 0 → cmpS (l[a]'(by omega)).nm q < 0
structure BsRow (l : List PV) (q : ByteArray) (w : World) (lo hi : Nat) (wx : World) : Prop where
  bel : Below w.heap.size w wx
  lo : ∀ t (ht : t < l.length), t < lo → cmpS l[t].nm q < 0
  hi : ∀ t (ht : t < l.length), hi ≤ t → 0 ≤ cmpS l[t].nm q

set_option maxRecDepth 100000 in
set_option maxHeartbeats 8000000 in
theorem search_any (l : List PV) (q : ByteArray) (A : Option Addr) (c : Nat) (w : World) (hl : PSl w w.heap.size l (.slice A l.length c)) (hm : Mono l q) :
    Calls Tryz.prog 104 #[.slice A l.length c, .string q, .func (Fn.func 105) #[] #[]] w fun e w' =>
      (∃ (r : Nat) (b : Bool), r ≤ l.length ∧ (∀ t (ht : t < l.length), t < r → cmpS l[t].nm q < 0) ∧ (∀ t (ht : t < l.length), r ≤ t → 0 ≤ cmpS l[t].nm q) ∧ (b = true ↔ ∃ hr : r < l.length, cmpS l[r].nm q = 0) ∧ e = .returned (.tuple #[.int .i64 r, .bool b])) ∧ Below w.heap.size w w' := by
  have hn : l.length ≤ 1048576 := by obtain ⟨_, _, e, h1, _⟩ := hl; exact h1
  have HSL := Lib.hid hl
  have HM := Lib.hid hm
  have hen := enters_of Tryz.func105 (by kernel_rfl) rfl
  obtain ⟨n, hnn⟩ : ∃ n, n = l.length := ⟨_, rfl⟩
  rw [← hnn] at hn HSL
  rw [show (Value.slice A l.length c) = Value.slice A n c from by rw [hnn]]
  have HN := Lib.hid hnn
  clear hl hnn hm
  go_enter Tryz.func104, Tryz.ntmps104
  go_wp2
  go_loopg [9, 10] n (fun kx s9 s10 wr => ∃ lo hi : Nat, s9 = .int .i64 lo ∧ s10 = .int .i64 hi ∧ lo ≤ hi ∧ hi ≤ n ∧ hi - lo ≤ kx ∧ Hid (BsRow l q w lo hi wr))
  case atStart => exact ⟨0, n, rfl, rfl, Nat.zero_le _, Nat.le_refl _, by omega, Lib.hid ⟨Below.refl _ _, fun _ _ h => absurd h (by omega), fun t ht h => absurd ht (by rw [← HN.out]; omega)⟩⟩
  case round =>
    obtain ⟨lo, hi, rfl, rfl, hlh, hin, hg, HR⟩ := hrel
    by_cases hlt : lo < hi
    · have hx2 : (lo + hi) / 2 < l.length := by rw [← HN.out]; omega
      obtain ⟨b, off, nm, kx, ix, tx, sx, lx, Ax, cx, rfl, hx, hlt', gn, g0, g1, g2, g3, g4, hnz, gz, gl, gs, hpv⟩ := prop_item (by rw [← HN.out]; exact HSL.out) hx2
      replace gn := (HR.out.bel.cell (p := ⟨b, off + (lo + hi) / 2 * 6, none⟩) hlt').trans gn
      replace g0 := (HR.out.bel.cell (p := ⟨b, off + (lo + hi) / 2 * 6 + 1, none⟩) hlt').trans g0
      replace g1 := (HR.out.bel.cell (p := ⟨b, off + (lo + hi) / 2 * 6 + 2, none⟩) hlt').trans g1
      replace g2 := (HR.out.bel.cell (p := ⟨b, off + (lo + hi) / 2 * 6 + 3, none⟩) hlt').trans g2
      replace g3 := (HR.out.bel.cell (p := ⟨b, off + (lo + hi) / 2 * 6 + 4, none⟩) hlt').trans g3
      replace g4 := (HR.out.bel.cell (p := ⟨b, off + (lo + hi) / 2 * 6 + 5, none⟩) hlt').trans g4
      have hnx : l[(lo + hi) / 2].nm = nm := by rw [hx]
      have HNX := Lib.hid hnx
      obtain ⟨m, hmm⟩ : ∃ m, m = lx.length := ⟨_, rfl⟩
      rw [← hmm] at g4
      obtain ⟨y, hy⟩ : ∃ y, y = cmpS nm q := ⟨_, rfl⟩
      have HY := Lib.hid hy
      have hc := fun W => posCmp_any nm q kx ix tx sx (.slice Ax m cx) W
      rw [← hy] at hc
      have HC := Lib.hid hc
      clear gs hmm hx hpv hnx gl gz hc hy
      by_cases hyx : y < 0
      · go_wp2_with fail
        refine (HC.out _).mono ?_
        rintro e w' ⟨rfl, hb⟩
        have HB := Lib.hid (HR.out.bel.trans (hb.mono HR.out.bel.size))
        clear hb
        go_wp2_with fail
        go_roundg (hi - ((lo + hi) / 2 + 1))
        case measure => omega
        case rel =>
          exact ⟨(lo + hi) / 2 + 1, hi, by rw [show ((lo : Int) + (hi : Int)) / 2 + 1 = (((lo + hi) / 2 + 1 : Nat) : Int) by omega], rfl, by omega, hin, Nat.le_refl _,
            Lib.hid ⟨HB.out, fun t ht h => HM.out t _ (by omega) hx2 (by rw [HNX.out, ← HY.out]; exact hyx), HR.out.hi⟩⟩
      · go_wp2_with fail
        refine (HC.out _).mono ?_
        rintro e w' ⟨rfl, hb⟩
        have HB := Lib.hid (HR.out.bel.trans (hb.mono HR.out.bel.size))
        clear hb
        go_wp2_with fail
        go_roundg ((lo + hi) / 2 - lo)
        case measure => omega
        case rel =>
          exact ⟨lo, (lo + hi) / 2, rfl, by rw [show ((lo : Int) + (hi : Int)) / 2 = (((lo + hi) / 2 : Nat) : Int) by omega], by omega, by omega, Nat.le_refl _,
            Lib.hid ⟨HB.out, HR.out.lo, fun t ht h => Int.not_lt.1 fun hh => by have := HM.out _ t h ht hh; rw [HNX.out, ← HY.out] at this; omega⟩⟩
    · obtain rfl : hi = lo := by omega
      by_cases hcn : hi < n
      · have hx2 : hi < l.length := by rw [← HN.out]; exact hcn
        obtain ⟨b, off, nm, kx, ix, tx, sx, lx, Ax, cx, rfl, hx, hlt', gn, g0, g1, g2, g3, g4, hnz, gz, gl, gs, hpv⟩ := prop_item (by rw [← HN.out]; exact HSL.out) hx2
        replace gn := (HR.out.bel.cell (p := ⟨b, off + hi * 6, none⟩) hlt').trans gn
        replace g0 := (HR.out.bel.cell (p := ⟨b, off + hi * 6 + 1, none⟩) hlt').trans g0
        replace g1 := (HR.out.bel.cell (p := ⟨b, off + hi * 6 + 2, none⟩) hlt').trans g1
        replace g2 := (HR.out.bel.cell (p := ⟨b, off + hi * 6 + 3, none⟩) hlt').trans g2
        replace g3 := (HR.out.bel.cell (p := ⟨b, off + hi * 6 + 4, none⟩) hlt').trans g3
        replace g4 := (HR.out.bel.cell (p := ⟨b, off + hi * 6 + 5, none⟩) hlt').trans g4
        have hnx : l[hi].nm = nm := by rw [hx]
        have HNX := Lib.hid hnx
        obtain ⟨m, hmm⟩ : ∃ m, m = lx.length := ⟨_, rfl⟩
        rw [← hmm] at g4
        obtain ⟨y, hy⟩ : ∃ y, y = cmpS nm q := ⟨_, rfl⟩
        have HY := Lib.hid hy
        have hc := fun W => posCmp_any nm q kx ix tx sx (.slice Ax m cx) W
        rw [← hy] at hc
        have HC := Lib.hid hc
        clear gs hmm hx hpv hnx gl gz hc hy
        go_wp2_with fail
        refine (HC.out _).mono ?_
        rintro e w' ⟨rfl, hb⟩
        have HB := Lib.hid (HR.out.bel.trans (hb.mono HR.out.bel.size))
        clear hb
        go_wp2_with fail
        go_ret2
        refine ⟨⟨hi, (y == 0), Nat.le_of_lt hx2, HR.out.lo, HR.out.hi, ?_, ?_⟩, HB.out⟩
        · rw [beq_iff_eq]
          exact ⟨fun h => ⟨hx2, by rw [HNX.out, ← HY.out]; exact h⟩, fun ⟨_, h⟩ => by rw [HNX.out, ← HY.out] at h; exact h⟩
        · rfl
      · go_wp2_with fail
        go_ret2
        refine ⟨⟨hi, false, by rw [← HN.out]; exact hin, HR.out.lo, HR.out.hi, ?_, rfl⟩, HR.out.bel⟩
        exact ⟨fun h => absurd h (by decide), fun ⟨h, _⟩ => absurd h (by rw [← HN.out]; exact hcn)⟩
end Go.Proofs.YtggnocajpnmemaaGreatDoor
namespace Go.Proofs.YtggnocajpnmemaaGreatDoor
open Go.RowKit Go.Shelf

/-- What position finds. -/
def Found (l : List PV) (q : ByteArray) (w : World) (e : Ending) (w' : World) : Prop :=
  (∃ (r : Nat) (b : Bool), r ≤ l.length ∧ (∀ t (ht : t < l.length), t < r → cmpS l[t].nm q < 0) ∧ (∀ t (ht : t < l.length), r ≤ t → 0 ≤ cmpS l[t].nm q) ∧ (b = true ↔ ∃ hr : r < l.length, cmpS l[r].nm q = 0) ∧ e = .returned (.tuple #[.int .i64 r, .bool b])) ∧ Below w.heap.size w w'

set_option maxRecDepth 100000 in
set_option maxHeartbeats 8000000 in
theorem position_any (l : List PV) (q : ByteArray) (A : Option Addr) (c : Nat) (w : World) (hl : PSl w w.heap.size l (.slice A l.length c)) (hm : Mono l q) :
    Calls Tryz.prog 46 #[.slice A l.length c, .string q] w (Found l q w) := by
  have HC : Hid (Calls Tryz.prog 104 #[.slice A l.length c, .string q, .func (Fn.func 105) #[] #[]] w (Found l q w)) := Lib.hid (search_any l q A c w hl hm)
  have HF : Hid (∀ (r : Nat) (b : Bool) (W : World), Found l q w (.returned (.tuple #[.int .i64 r, .bool b])) W → Found l q w (.returned (.tuple #[.int .i64 r, .bool b])) W) := Lib.hid (fun _ _ _ h => h)
  generalize hn : l.length = n at HC ⊢
  clear hl hm hn
  go_enter Tryz.func46, Tryz.ntmps46
  go_wp2_with fail
  refine HC.out.mono ?_
  intro e w' h
  have HH := Lib.hid h
  obtain ⟨⟨r, b, -, -, -, -, rfl⟩, -⟩ := h
  go_wp2_with fail
  go_ret2
  exact HH.out
end Go.Proofs.YtggnocajpnmemaaGreatDoor
namespace Go.Proofs.YtggnocajpnmemaaGreatDoor
open Go.RowKit Go.Shelf

theorem bl_iff (a b : ByteArray) : Op.bytesLess a.toList b.toList = true ↔ a.toList < b.toList := by rw [Go.Proofs.bytesLess_eq]; exact decide_eq_true_iff
theorem leB_iff (a b : ByteArray) : leB a b = true ↔ a.toList < b.toList ∨ a.toList = b.toList := by
  unfold leB; rw [Bool.or_eq_true, bl_iff, beq_iff_eq]
theorem cmpS_neg (a b : ByteArray) : cmpS a b < 0 ↔ a.toList < b.toList := by
  unfold cmpS
  rw [← bl_iff]
  split
  · rename_i h; simp [h]
  · rename_i h
    split <;> simp [h]
theorem cmpS_zero (a b : ByteArray) : cmpS a b = 0 ↔ a.toList = b.toList := by
  unfold cmpS
  split
  · rename_i h
    rw [bl_iff] at h
    refine ⟨fun h => absurd h (by decide), fun e => ?_⟩
    rw [e] at h; exact absurd h (List.lt_irrefl _)
  · rename_i h
    rw [bl_iff] at h
    split
    · rename_i g
      rw [leB_iff] at g
      exact ⟨fun _ => g.resolve_left h, fun _ => rfl⟩
    · rename_i g
      rw [leB_iff] at g
      exact ⟨fun h => absurd h (by decide), fun e => absurd (.inr e) g⟩
theorem tri (a b : List UInt8) : a < b ∨ a = b ∨ b < a := by
  by_cases h : a < b
  · exact .inl h
  · by_cases g : b < a
    · exact .inr (.inr g)
    · exact .inr (.inl (List.le_antisymm (List.not_lt.1 g) (List.not_lt.1 h)))
/-- Names that CheckProps lets pass rise. -/
theorem props_rise : ∀ (l : List PV) (prev : Option ByteArray), propsFrom prev l = 0 → (∀ q, prev = some q → ∀ p ∈ l, q.toList < p.nm.toList) ∧ l.Pairwise (fun a b => a.nm.toList < b.nm.toList)
  | [], _, _ => ⟨fun _ _ p hp => absurd hp (by simp), List.Pairwise.nil⟩
  | p :: r, prev, h => by
    rw [propsFrom] at h
    have h0 : itemP prev p = 0 := by
      by_cases h0 : itemP prev p = 0
      · exact h0
      · rw [if_neg h0] at h; exact h
    rw [if_pos h0] at h
    obtain ⟨i1, i2⟩ := props_rise r (some p.nm) h
    have hq : ∀ q, prev = some q → q.toList < p.nm.toList := by
      intro q e
      subst e
      have hle : leB p.nm q = false := by
        rcases hle : leB p.nm q with _ | _
        · rfl
        · exfalso
          unfold itemP at h0
          split at h0
          all_goals exact absurd h0 (by decide)
      have : ¬ (p.nm.toList < q.toList ∨ p.nm.toList = q.toList) := by rw [← leB_iff, hle]; simp
      rcases tri p.nm.toList q.toList with g | g | g
      · exact absurd (.inl g) this
      · exact absurd (.inr g) this
      · exact g
    refine ⟨fun q e x hx => ?_, List.Pairwise.cons (fun x hx => i1 _ rfl x hx) i2⟩
    rcases List.mem_cons.1 hx with rfl | hx
    · exact hq q e
    · exact List.lt_trans (hq q e) (i1 _ rfl x hx)
theorem rise_at {l : List PV} (h : l.Pairwise (fun a b => a.nm.toList < b.nm.toList)) (a b : Nat) (hab : a < b) (hb : b < l.length) : (l[a]'(by omega)).nm.toList < l[b].nm.toList :=
  List.pairwise_iff_getElem.1 h a b (by omega) hb hab
theorem mono_of {l : List PV} (h : l.Pairwise (fun a b => a.nm.toList < b.nm.toList)) (q : ByteArray) : Mono l q := by
  intro a b hab hb hlt
  rw [cmpS_neg] at hlt ⊢
  by_cases e : a = b
  · subst e; exact hlt
  · exact List.lt_trans (rise_at h a b (by omega) hb) hlt
theorem propsE_rise {l : List PV} (h : propsE l = 0) : l.Pairwise (fun a b => a.nm.toList < b.nm.toList) := by
  unfold propsE at h
  split at h
  · exact absurd h (by decide)
  · exact (props_rise l none h).2

/-! ### What the first property of a name is -/
def getV (l : List PV) (q : ByteArray) : Option V := (l.find? (fun p => p.nm.toList == q.toList)).map (·.val)
theorem getV_at {l : List PV} {q : ByteArray} {j : Nat} (hj : j < l.length) (h : (l[j].nm.toList == q.toList) = true) (hb : ∀ k (hk : k < l.length), k < j → (l[k].nm.toList == q.toList) = false) : getV l q = some l[j].val := by
  unfold getV
  rw [show l.find? (fun p => p.nm.toList == q.toList) = some l[j] from List.find?_eq_some_iff_getElem.2 ⟨h, j, hj, rfl, fun k hk => by rw [hb k (by omega) hk]; rfl⟩]
  rfl
theorem getV_none {l : List PV} {q : ByteArray} (h : ∀ k (hk : k < l.length), (l[k].nm.toList == q.toList) = false) : getV l q = none := by
  unfold getV
  rw [show l.find? (fun p => p.nm.toList == q.toList) = none from List.find?_eq_none.2 (fun x hx => by
    obtain ⟨k, hk, rfl⟩ := List.mem_iff_getElem.1 hx
    rw [h k hk]; simp)]
  rfl
theorem found_some {l : List PV} {q : ByteArray} {r : Nat} (h1 : ∀ t (ht : t < l.length), t < r → cmpS l[t].nm q < 0) (hr : r < l.length) (h : cmpS l[r].nm q = 0) : getV l q = some l[r].val := by
  refine getV_at hr (by rw [beq_iff_eq]; exact (cmpS_zero _ _).1 h) (fun k hk hkr => ?_)
  have := h1 k hk hkr
  rcases hb : (l[k].nm.toList == q.toList) with _ | _
  · rfl
  · rw [beq_iff_eq, ← cmpS_zero] at hb; omega
theorem found_none {l : List PV} {q : ByteArray} {r : Nat} (hl : l.Pairwise (fun a b => a.nm.toList < b.nm.toList)) (h1 : ∀ t (ht : t < l.length), t < r → cmpS l[t].nm q < 0) (h2 : ∀ t (ht : t < l.length), r ≤ t → 0 ≤ cmpS l[t].nm q) (h : ¬ ∃ hr : r < l.length, cmpS l[r].nm q = 0) : getV l q = none := by
  refine getV_none (fun k hk => ?_)
  rcases hb : (l[k].nm.toList == q.toList) with _ | _
  · rfl
  · exfalso
    rw [beq_iff_eq] at hb
    have hz := (cmpS_zero _ _).2 hb
    by_cases hkr : k < r
    · have := h1 k hk hkr; omega
    · by_cases e : k = r
      · subst e; exact h ⟨hk, hz⟩
      · have hlt := rise_at hl r k (by omega) hk
        rw [hb] at hlt
        have := h2 r (by omega) (Nat.le_refl _)
        rw [← cmpS_neg] at hlt
        omega

end Go.Proofs.YtggnocajpnmemaaGreatDoor
