/- Properties: slices.BinarySearchFunc at properties, by name. -/
import Derived.Test.YtggnocajpnmemaaDoorPtY
namespace Go.Proofs.YtggnocajpnmemaaDoor
open Go.RowKit Go.Shelf

/-- Names are in order. -/
def Mono (l : List PV) (q : ByteArray) : Prop := ∀ a b (_ : a ≤ b) (hb : b < l.length), cmpS l[b].nm q < 0 → cmpS (l[a]'(by omega)).nm q < 0
structure BsRow (l : List PV) (q : ByteArray) (w : World) (lo hi : Nat) (wx : World) : Prop where
  bel : Below w.heap.size w wx
  lo : ∀ t (ht : t < l.length), t < lo → cmpS l[t].nm q < 0
  hi : ∀ t (ht : t < l.length), hi ≤ t → 0 ≤ cmpS l[t].nm q

set_option maxRecDepth 100000 in
set_option maxHeartbeats 8000000 in
theorem search_any (l : List PV) (q : ByteArray) (A : Option Addr) (c : Nat) (w : World) (hl : PSl w w.heap.size l (.slice A l.length c)) (hm : Mono l q) :
    Calls Tryd.prog 32 #[.slice A l.length c, .string q, .func (Fn.func 33) #[] #[]] w fun e w' =>
      (∃ (r : Nat) (b : Bool), r ≤ l.length ∧ (∀ t (ht : t < l.length), t < r → cmpS l[t].nm q < 0) ∧ (∀ t (ht : t < l.length), r ≤ t → 0 ≤ cmpS l[t].nm q) ∧ (b = true ↔ ∃ hr : r < l.length, cmpS l[r].nm q = 0) ∧ e = .returned (.tuple #[.int .i64 r, .bool b])) ∧ Below w.heap.size w w' := by
  have hn : l.length ≤ 140737488355328 := by obtain ⟨_, _, e, h1, _⟩ := hl; exact h1
  have HSL := Lib.hid hl
  have HM := Lib.hid hm
  have hen := enters_of Tryd.func33 (by kernel_rfl) rfl
  obtain ⟨n, hnn⟩ : ∃ n, n = l.length := ⟨_, rfl⟩
  rw [← hnn] at hn HSL
  rw [show (Value.slice A l.length c) = Value.slice A n c from by rw [hnn]]
  have HN := Lib.hid hnn
  clear hl hnn hm
  go_enter Tryd.func32, Tryd.ntmps32
  go_wp2
  go_loopg [9, 10] n (fun kx s9 s10 wr => ∃ lo hi : Nat, s9 = .int .i64 lo ∧ s10 = .int .i64 hi ∧ lo ≤ hi ∧ hi ≤ n ∧ hi - lo ≤ kx ∧ Hid (BsRow l q w lo hi wr))
  case atStart => exact ⟨0, n, rfl, rfl, Nat.zero_le _, Nat.le_refl _, by omega, Lib.hid ⟨Below.refl _ _, fun _ _ h => absurd h (by omega), fun t ht h => absurd ht (by rw [← HN.out]; omega)⟩⟩
  case round =>
    obtain ⟨lo, hi, rfl, rfl, hlh, hin, hg, HR⟩ := hrel
    by_cases hlt : lo < hi
    · have hx2 : (lo + hi) / 2 < l.length := by rw [← HN.out]; omega
      obtain ⟨b, off, nm, kx, ix, tx, sx, lx, Ax, cx, rfl, hx, hlt', gn, g0, g1, g2, g3, g4, hnz, gz, gl, gs, hpv⟩ := prop_item (by rw [← HN.out]; exact HSL.out) hx2
      replace gn := (HR.out.bel.cell (p := ⟨b, off + (lo + hi) / 2 * 6, none⟩) hlt').trans gn
      replace g0 := (HR.out.bel.cell (p := ⟨b, off + (lo + hi) / 2 * 6 + 1, none⟩) hlt').trans g0
      replace g1 := (HR.out.bel.cell (p := ⟨b, off + (lo + hi) / 2 * 6 + 2, none⟩) hlt').trans g1
      replace g2 := (HR.out.bel.cell (p := ⟨b, off + (lo + hi) / 2 * 6 + 3, none⟩) hlt').trans g2
      replace g3 := (HR.out.bel.cell (p := ⟨b, off + (lo + hi) / 2 * 6 + 4, none⟩) hlt').trans g3
      replace g4 := (HR.out.bel.cell (p := ⟨b, off + (lo + hi) / 2 * 6 + 5, none⟩) hlt').trans g4
      have hnx : l[(lo + hi) / 2].nm = nm := by rw [hx]
      have HNX := Lib.hid hnx
      obtain ⟨m, hmm⟩ : ∃ m, m = lx.length := ⟨_, rfl⟩
      rw [← hmm] at g4
      obtain ⟨y, hy⟩ : ∃ y, y = cmpS nm q := ⟨_, rfl⟩
      have HY := Lib.hid hy
      have hc := fun W => posCmp_any nm q kx ix tx sx (.slice Ax m cx) W
      rw [← hy] at hc
      have HC := Lib.hid hc
      clear gs hmm hx hpv hnx gl gz hc hy
      by_cases hyx : y < 0
      · go_wp2_with fail
        refine (HC.out _).mono ?_
        rintro e w' ⟨rfl, hb⟩
        have HB := Lib.hid (HR.out.bel.trans (hb.mono HR.out.bel.size))
        clear hb
        go_wp2_with fail
        go_roundg (hi - ((lo + hi) / 2 + 1))
        case measure => omega
        case rel =>
          exact ⟨(lo + hi) / 2 + 1, hi, by rw [show ((lo : Int) + (hi : Int)) / 2 + 1 = (((lo + hi) / 2 + 1 : Nat) : Int) by omega], rfl, by omega, hin, Nat.le_refl _,
            Lib.hid ⟨HB.out, fun t ht h => HM.out t _ (by omega) hx2 (by rw [HNX.out, ← HY.out]; exact hyx), HR.out.hi⟩⟩
      · go_wp2_with fail
        refine (HC.out _).mono ?_
        rintro e w' ⟨rfl, hb⟩
        have HB := Lib.hid (HR.out.bel.trans (hb.mono HR.out.bel.size))
        clear hb
        go_wp2_with fail
        go_roundg ((lo + hi) / 2 - lo)
        case measure => omega
        case rel =>
          exact ⟨lo, (lo + hi) / 2, rfl, by rw [show ((lo : Int) + (hi : Int)) / 2 = (((lo + hi) / 2 : Nat) : Int) by omega], by omega, by omega, Nat.le_refl _,
            Lib.hid ⟨HB.out, HR.out.lo, fun t ht h => Int.not_lt.1 fun hh => by have := HM.out _ t h ht hh; rw [HNX.out, ← HY.out] at this; omega⟩⟩
    · obtain rfl : hi = lo := by omega
      by_cases hcn : hi < n
      · have hx2 : hi < l.length := by rw [← HN.out]; exact hcn
        obtain ⟨b, off, nm, kx, ix, tx, sx, lx, Ax, cx, rfl, hx, hlt', gn, g0, g1, g2, g3, g4, hnz, gz, gl, gs, hpv⟩ := prop_item (by rw [← HN.out]; exact HSL.out) hx2
        replace gn := (HR.out.bel.cell (p := ⟨b, off + hi * 6, none⟩) hlt').trans gn
        replace g0 := (HR.out.bel.cell (p := ⟨b, off + hi * 6 + 1, none⟩) hlt').trans g0
        replace g1 := (HR.out.bel.cell (p := ⟨b, off + hi * 6 + 2, none⟩) hlt').trans g1
        replace g2 := (HR.out.bel.cell (p := ⟨b, off + hi * 6 + 3, none⟩) hlt').trans g2
        replace g3 := (HR.out.bel.cell (p := ⟨b, off + hi * 6 + 4, none⟩) hlt').trans g3
        replace g4 := (HR.out.bel.cell (p := ⟨b, off + hi * 6 + 5, none⟩) hlt').trans g4
        have hnx : l[hi].nm = nm := by rw [hx]
        have HNX := Lib.hid hnx
        obtain ⟨m, hmm⟩ : ∃ m, m = lx.length := ⟨_, rfl⟩
        rw [← hmm] at g4
        obtain ⟨y, hy⟩ : ∃ y, y = cmpS nm q := ⟨_, rfl⟩
        have HY := Lib.hid hy
        have hc := fun W => posCmp_any nm q kx ix tx sx (.slice Ax m cx) W
        rw [← hy] at hc
        have HC := Lib.hid hc
        clear gs hmm hx hpv hnx gl gz hc hy
        go_wp2_with fail
        refine (HC.out _).mono ?_
        rintro e w' ⟨rfl, hb⟩
        have HB := Lib.hid (HR.out.bel.trans (hb.mono HR.out.bel.size))
        clear hb
        go_wp2_with fail
        go_ret2
        refine ⟨⟨hi, (y == 0), Nat.le_of_lt hx2, HR.out.lo, HR.out.hi, ?_, ?_⟩, HB.out⟩
        · rw [beq_iff_eq]
          exact ⟨fun h => ⟨hx2, by rw [HNX.out, ← HY.out]; exact h⟩, fun ⟨_, h⟩ => by rw [HNX.out, ← HY.out] at h; exact h⟩
        · rfl
      · go_wp2_with fail
        go_ret2
        refine ⟨⟨hi, false, by rw [← HN.out]; exact hin, HR.out.lo, HR.out.hi, ?_, rfl⟩, HR.out.bel⟩
        exact ⟨fun h => absurd h (by decide), fun ⟨h, _⟩ => absurd h (by rw [← HN.out]; exact hcn)⟩
end Go.Proofs.YtggnocajpnmemaaDoor
