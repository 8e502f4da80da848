/- The reference's token at a position. -/
import Derived.Test.YticdapkljbillaaGreatDoorTyH
import Derived.Test.YticdapkljbillaaGreatDoorTzA
import Derived.WalkKit
import Derived.Lib.Hide
import Derived.Outline
import Derived.Deep.DeepCutAuto
import Derived.Deep.CutBlock
import Derived.Deep.QuietTactic
import Derived.BigQuiet
import Derived.Laws.DeepStrings4
namespace Go.Proofs.YticdapkljbillaaGreatDoor
open Go.RowKit

/-- The rest of a string. -/
structure Rest (s : ByteArray) (a : Nat) (r : ByteArray) : Prop where
  eq : r = s.extract a s.size
  size : r.size = s.size - a
  le : a ≤ s.size
theorem rest_mk {s : ByteArray} {a : Nat} (h : a ≤ s.size) : Rest s a (s.extract a s.size) := ⟨rfl, by rw [ByteArray.size_extract]; omega, h⟩
theorem Rest.at {s r : ByteArray} {a : Nat} (h : Rest s a r) {k : Nat} (hk : k < r.size) : ∃ h2 : a + k < s.size, r[k]'hk = s[a + k]'h2 := by
  have hz := h.size
  obtain rfl := h.eq
  refine ⟨by omega, ?_⟩
  rw [ByteArray.getElem_extract]
theorem Rest.cut {s r : ByteArray} {a i j : Nat} (h : Rest s a r) (hj : j ≤ r.size) (hi : i ≤ j) : r.extract i j = s.extract (a + i) (a + j) := by
  have hz := h.size
  have hl := h.le
  obtain rfl := h.eq
  rw [ByteArray.extract_extract]
  congr 1; omega
theorem Rest.pre {s r : ByteArray} {a : Nat} (h : Rest s a r) (m : ByteArray) : Lib.hasPrefix r.data.toList m.data.toList = pre s a m := by
  unfold Go.Proofs.YticdapkljbillaaGreatDoor.pre
  rw [h.eq]

theorem pre_head {s m : ByteArray} {a : Nat} (h : a < s.size) (hm : 0 < m.size) (hp : pre s a m = true) : s[a]'h = m[0]'hm := by
  unfold pre Lib.hasPrefix at hp
  rw [List.isPrefixOf_iff_prefix] at hp
  obtain ⟨t, ht⟩ := hp
  have h1 : (s.extract a s.size).data.toList[0]? = some (s[a]'h) := by
    have := Lib.data_getElem? (s.extract a s.size) 0 (by rw [ByteArray.size_extract]; omega)
    rw [this, ByteArray.getElem_extract]; rfl
  rw [← ht, List.getElem?_append_left (by rw [← Lib.size_eq]; exact hm), Lib.data_getElem? m 0 hm] at h1
  exact (Option.some.inj h1).symm

theorem two_below (w : World) (o o' : Obj) : Below w.heap.size w ((w.alloc o).alloc o') := ((Below.refl _ _).alloc (Nat.le_refl _) o).alloc (by simp) o'
theorem pre_not {s m : ByteArray} {a : Nat} (h : a < s.size) (hm : 0 < m.size) (hne : s[a]'h ≠ m[0]'hm) : pre s a m = false := by
  cases hp : pre s a m with
  | false => rfl
  | true => exact absurd (pre_head h hm hp) hne

set_option maxRecDepth 100000 in
set_option maxHeartbeats 4000000 in
theorem token_bare (s : ByteArray) (a : Nat) (w : World) (hs : s.size ≤ 4000000000) (ha : a < s.size) (h0 : (s[a].toNat : Int) ≠ 92) (h1 : (s[a].toNat : Int) ≠ 96) (h4 : (s[a].toNat : Int) ≠ 35) (k1 : pre s a ⟨#[91, 91]⟩ = false) (k2 : pre s a ⟨#[40, 40]⟩ = false) (k3 : pre s a ⟨#[42, 42]⟩ = false) :
    Calls Tryz.prog 35 #[.string s, .int .i64 a] w (Quiet w (oneSp s a).val) := by
  have p1 : (a : Int) < s.size := by omega
  have p2 : (a : Int) + 1 ≤ s.size := by omega
  go_enter Tryz.func35, Tryz.ntmps35
  go_upto_region 3 with (fail)
  have hR := rest_mk (Nat.le_of_lt ha)
  generalize s.extract a s.size = r at hR ⊢
  have r1 : 0 < r.size := by have := hR.size; omega
  have r2 : (0 : Int) < r.size := by omega
  have r3 : (r.size : Int) ≤ 4000000000 := by have := hR.size; omega
  obtain ⟨g1, g2⟩ := hR.at r1
  simp only [Nat.add_zero] at g2
  have HR := Lib.hid hR
  have e0 : ((r[0].toNat : Int) == 92) = false := by rw [g2]; simpa using h0
  have e1 : ((r[0].toNat : Int) == 96) = false := by rw [g2]; simpa using h1
  have e4 : ((r[0].toNat : Int) == 35) = false := by rw [g2]; simpa using h4
  have P1 := Lib.hid ((hR.pre ⟨#[91, 91]⟩).trans k1)
  have P2 := Lib.hid ((hR.pre ⟨#[40, 40]⟩).trans k2)
  have P3 := Lib.hid ((hR.pre ⟨#[42, 42]⟩).trans k3)
  clear hR g1 g2 h0 h1 h4 k1 k2 k3
  go_wp2_with fail
  refine (Tryz.strings_HasPrefix _ _ _).mono ?_
  rintro e w' ⟨rfl, rfl⟩
  rw [P1.out]
  go_wp2_with fail
  refine (Tryz.strings_HasPrefix _ _ _).mono ?_
  rintro e w' ⟨rfl, rfl⟩
  rw [P2.out]
  go_wp2_with fail
  refine (Tryz.strings_HasPrefix _ _ _).mono ?_
  rintro e w' ⟨rfl, rfl⟩
  rw [P3.out]
  go_wp2_with fail
  refine bodyPost_ret (v := (oneSp s a).val) ?_ rfl ⟨rfl, two_below _ _ _⟩
  · simp [results, Tryz.results35, go_sem]; rfl

theorem pre_text {s m : ByteArray} {a : Nat} (hp : pre s a m = true) (h : a ≤ s.size) : s.extract a (a + m.size) = m := by
  have hz := pre_le hp h
  unfold pre Lib.hasPrefix at hp
  rw [List.isPrefixOf_iff_prefix] at hp
  apply ByteArray.ext
  apply Array.ext'
  rw [List.prefix_iff_eq_take] at hp
  rw [hp, ← Lib.size_eq, Lib.extract_data, Lib.extract_data]
  have e := Lib.size_eq s
  rw [List.take_take]
  congr 1; omega
set_option maxRecDepth 100000 in
set_option maxHeartbeats 4000000 in
theorem token_bold (s : ByteArray) (a : Nat) (w : World) (hs : s.size ≤ 4000000000) (ha : a < s.size) (h0 : (s[a].toNat : Int) ≠ 92) (h1 : (s[a].toNat : Int) ≠ 96) (h4 : (s[a].toNat : Int) ≠ 35) (k1 : pre s a ⟨#[91, 91]⟩ = false) (k2 : pre s a ⟨#[40, 40]⟩ = false) (k3 : pre s a ⟨#[42, 42]⟩ = true) :
    Calls Tryz.prog 35 #[.string s, .int .i64 a] w (Quiet w (spOf s ⟨5, a, a + 2⟩).val) := by
  have p1 : (a : Int) < s.size := by omega
  have p2 : (a : Int) + 1 ≤ s.size := by omega
  go_enter Tryz.func35, Tryz.ntmps35
  go_upto_region 3 with (fail)
  have hR := rest_mk (Nat.le_of_lt ha)
  generalize s.extract a s.size = r at hR ⊢
  have r1 : 0 < r.size := by have := hR.size; omega
  have r2 : (0 : Int) < r.size := by omega
  have r3 : (r.size : Int) ≤ 4000000000 := by have := hR.size; omega
  obtain ⟨g1, g2⟩ := hR.at r1
  simp only [Nat.add_zero] at g2
  have HR := Lib.hid hR
  have e0 : ((r[0].toNat : Int) == 92) = false := by rw [g2]; simpa using h0
  have e1 : ((r[0].toNat : Int) == 96) = false := by rw [g2]; simpa using h1
  have e4 : ((r[0].toNat : Int) == 35) = false := by rw [g2]; simpa using h4
  have P1 := Lib.hid ((hR.pre ⟨#[91, 91]⟩).trans k1)
  have P2 := Lib.hid ((hR.pre ⟨#[40, 40]⟩).trans k2)
  have P3 := Lib.hid ((hR.pre ⟨#[42, 42]⟩).trans k3)
  have hx : s.extract a (a + 2) = ⟨#[42, 42]⟩ := pre_text k3 (Nat.le_of_lt ha)
  have HV : Hid ((spOf s ⟨5, a, a + 2⟩).val = .agg #[.int .i64 7, .int .i64 a, .int .i64 ((a : Int) + 2), .string ⟨#[42, 42]⟩, .string ⟨#[]⟩, .int .i64 0, .bool false]) := Lib.hid (by simp [spOf, Sp.val, hx])
  clear hR g1 g2 h0 h1 h4 k1 k2 k3 hx
  go_wp2_with fail
  refine (Tryz.strings_HasPrefix _ _ _).mono ?_
  rintro e w' ⟨rfl, rfl⟩
  rw [P1.out]
  go_wp2_with fail
  refine (Tryz.strings_HasPrefix _ _ _).mono ?_
  rintro e w' ⟨rfl, rfl⟩
  rw [P2.out]
  go_wp2_with fail
  refine (Tryz.strings_HasPrefix _ _ _).mono ?_
  rintro e w' ⟨rfl, rfl⟩
  rw [P3.out]
  go_wp2_with fail
  refine bodyPost_ret (v := (spOf s ⟨5, a, a + 2⟩).val) ?_ rfl ⟨rfl, two_below _ _ _⟩
  · simp [results, Tryz.results35, go_sem]; exact HV.out.symm

set_option maxRecDepth 100000 in
set_option maxHeartbeats 4000000 in
theorem token_esc_short (s : ByteArray) (a : Nat) (w : World) (hs : s.size ≤ 4000000000) (ha : a < s.size) (h0 : (s[a].toNat : Int) = 92) (h1 : ¬ a + 1 < s.size) :
    Calls Tryz.prog 35 #[.string s, .int .i64 a] w (Quiet w (oneSp s a).val) := by
  have p1 : (a : Int) < s.size := by omega
  have p2 : (a : Int) + 1 ≤ s.size := by omega
  go_enter Tryz.func35, Tryz.ntmps35
  go_upto_region 3 with (fail)
  have hR := rest_mk (Nat.le_of_lt ha)
  generalize s.extract a s.size = r at hR ⊢
  have r1 : 0 < r.size := by have := hR.size; omega
  have r2 : (0 : Int) < r.size := by omega
  have r3 : (r.size : Int) ≤ 4000000000 := by have := hR.size; omega
  obtain ⟨g1, g2⟩ := hR.at r1
  simp only [Nat.add_zero] at g2
  have HR := Lib.hid hR
  have e0 : ((r[0].toNat : Int) == 92) = true := by rw [g2]; simpa using h0
  have hne : ∀ (m : ByteArray) (hm : 0 < m.size), m[0]'hm ≠ 92 → pre s a m = false := fun m hm h => pre_not ha hm (fun e => h (by rw [← e]; exact UInt8.toNat_inj.1 (by have : (92 : UInt8).toNat = 92 := rfl; omega)))
  have P1 := Lib.hid ((hR.pre ⟨#[91, 91]⟩).trans (hne ⟨#[91, 91]⟩ (by decide) (by decide)))
  have P2 := Lib.hid ((hR.pre ⟨#[40, 40]⟩).trans (hne ⟨#[40, 40]⟩ (by decide) (by decide)))
  have P3 := Lib.hid ((hR.pre ⟨#[42, 42]⟩).trans (hne ⟨#[42, 42]⟩ (by decide) (by decide)))
  have r4 : (r.size : Int) ≤ 1 := by have := hR.size; omega
  clear hR g1 g2 h0 hne h1
  go_wp2_with fail
  refine (Tryz.strings_HasPrefix _ _ _).mono ?_
  rintro e w' ⟨rfl, rfl⟩
  rw [P1.out]
  go_wp2_with fail
  refine (Tryz.strings_HasPrefix _ _ _).mono ?_
  rintro e w' ⟨rfl, rfl⟩
  rw [P2.out]
  go_wp2_with fail
  refine (Tryz.strings_HasPrefix _ _ _).mono ?_
  rintro e w' ⟨rfl, rfl⟩
  rw [P3.out]
  go_wp2_with fail
  refine bodyPost_ret (v := (oneSp s a).val) ?_ rfl ⟨rfl, two_below _ _ _⟩
  · simp [results, Tryz.results35, go_sem]; rfl

set_option maxRecDepth 100000 in
set_option maxHeartbeats 4000000 in
theorem token_esc_no (s : ByteArray) (a : Nat) (w : World) (hs : s.size ≤ 4000000000) (ha : a < s.size) (h0 : (s[a].toNat : Int) = 92) (h1 : a + 1 < s.size) (h2 : cPunct (s[a + 1]'h1) = false) :
    Calls Tryz.prog 35 #[.string s, .int .i64 a] w (Quiet w (oneSp s a).val) := by
  have p1 : (a : Int) < s.size := by omega
  have p2 : (a : Int) + 1 ≤ s.size := by omega
  go_enter Tryz.func35, Tryz.ntmps35
  go_upto_region 3 with (fail)
  have hR := rest_mk (Nat.le_of_lt ha)
  generalize s.extract a s.size = r at hR ⊢
  have r1 : 0 < r.size := by have := hR.size; omega
  have r2 : (0 : Int) < r.size := by omega
  have r3 : (r.size : Int) ≤ 4000000000 := by have := hR.size; omega
  obtain ⟨g1, g2⟩ := hR.at r1
  simp only [Nat.add_zero] at g2
  have HR := Lib.hid hR
  have e0 : ((r[0].toNat : Int) == 92) = true := by rw [g2]; simpa using h0
  have hne : ∀ (m : ByteArray) (hm : 0 < m.size), m[0]'hm ≠ 92 → pre s a m = false := fun m hm h => pre_not ha hm (fun e => h (by rw [← e]; exact UInt8.toNat_inj.1 (by have : (92 : UInt8).toNat = 92 := rfl; omega)))
  have P1 := Lib.hid ((hR.pre ⟨#[91, 91]⟩).trans (hne ⟨#[91, 91]⟩ (by decide) (by decide)))
  have P2 := Lib.hid ((hR.pre ⟨#[40, 40]⟩).trans (hne ⟨#[40, 40]⟩ (by decide) (by decide)))
  have P3 := Lib.hid ((hR.pre ⟨#[42, 42]⟩).trans (hne ⟨#[42, 42]⟩ (by decide) (by decide)))
  have r4 : (1 : Int) < r.size := by have := hR.size; omega
  have r5 : 1 < r.size := by omega
  obtain ⟨g3, g4⟩ := hR.at r5
  have HPU : Hid (cPunct r[1] = false) := Lib.hid (by rw [g4]; exact h2)
  clear hR g1 g2 g3 g4 h0 hne h2
  go_wp2_with fail
  refine (refPunct_any _ _).mono ?_
  rintro e w' ⟨rfl, rfl⟩
  rw [HPU.out]
  go_wp2_with fail
  refine (Tryz.strings_HasPrefix _ _ _).mono ?_
  rintro e w' ⟨rfl, rfl⟩
  rw [P1.out]
  go_wp2_with fail
  refine (Tryz.strings_HasPrefix _ _ _).mono ?_
  rintro e w' ⟨rfl, rfl⟩
  rw [P2.out]
  go_wp2_with fail
  refine (Tryz.strings_HasPrefix _ _ _).mono ?_
  rintro e w' ⟨rfl, rfl⟩
  rw [P3.out]
  go_wp2_with fail
  refine bodyPost_ret (v := (oneSp s a).val) ?_ rfl ⟨rfl, two_below _ _ _⟩
  · simp [results, Tryz.results35, go_sem]; rfl

set_option maxRecDepth 100000 in
set_option maxHeartbeats 4000000 in
theorem token_esc_yes (s : ByteArray) (a : Nat) (w : World) (hs : s.size ≤ 4000000000) (ha : a < s.size) (h0 : (s[a].toNat : Int) = 92) (h1 : a + 1 < s.size) (h2 : cPunct (s[a + 1]'h1) = true) :
    Calls Tryz.prog 35 #[.string s, .int .i64 a] w (Quiet w (spOf s ⟨0, a, a + 2⟩).val) := by
  have p1 : (a : Int) < s.size := by omega
  have p2 : (a : Int) + 1 ≤ s.size := by omega
  go_enter Tryz.func35, Tryz.ntmps35
  go_upto_region 3 with (fail)
  have hR := rest_mk (Nat.le_of_lt ha)
  generalize s.extract a s.size = r at hR ⊢
  have r1 : 0 < r.size := by have := hR.size; omega
  have r2 : (0 : Int) < r.size := by omega
  have r3 : (r.size : Int) ≤ 4000000000 := by have := hR.size; omega
  obtain ⟨g1, g2⟩ := hR.at r1
  simp only [Nat.add_zero] at g2
  have HR := Lib.hid hR
  have e0 : ((r[0].toNat : Int) == 92) = true := by rw [g2]; simpa using h0
  have hne : ∀ (m : ByteArray) (hm : 0 < m.size), m[0]'hm ≠ 92 → pre s a m = false := fun m hm h => pre_not ha hm (fun e => h (by rw [← e]; exact UInt8.toNat_inj.1 (by have : (92 : UInt8).toNat = 92 := rfl; omega)))
  have P1 := Lib.hid ((hR.pre ⟨#[91, 91]⟩).trans (hne ⟨#[91, 91]⟩ (by decide) (by decide)))
  have P2 := Lib.hid ((hR.pre ⟨#[40, 40]⟩).trans (hne ⟨#[40, 40]⟩ (by decide) (by decide)))
  have P3 := Lib.hid ((hR.pre ⟨#[42, 42]⟩).trans (hne ⟨#[42, 42]⟩ (by decide) (by decide)))
  have r4 : (1 : Int) < r.size := by have := hR.size; omega
  have r5 : 1 < r.size := by omega
  obtain ⟨g3, g4⟩ := hR.at r5
  have HPU : Hid (cPunct r[1] = true) := Lib.hid (by rw [g4]; exact h2)
  have hx : r.extract 1 2 = s.extract (a + 1) (a + 2) := hR.cut (by omega) (by omega)
  have HV : Hid ((spOf s ⟨0, a, a + 2⟩).val = .agg #[.int .i64 2, .int .i64 a, .int .i64 ((a : Int) + 2), .string (r.extract 1 2), .string ⟨#[]⟩, .int .i64 0, .bool false]) := Lib.hid (by simp [spOf, Sp.val, hx])
  clear hR g1 g2 g3 g4 h0 hne h2 hx
  go_wp2_with fail
  refine (refPunct_any _ _).mono ?_
  rintro e w' ⟨rfl, rfl⟩
  rw [HPU.out]
  go_wp2_with fail
  refine bodyPost_ret (v := (spOf s ⟨0, a, a + 2⟩).val) ?_ rfl ⟨rfl, two_below _ _ _⟩
  · simp [results, Tryz.results35, go_sem]; exact HV.out.symm

set_option maxRecDepth 100000 in
set_option maxHeartbeats 4000000 in
theorem token_code_no (s : ByteArray) (a : Nat) (w : World) (hs : s.size ≤ 4000000000) (ha : a < s.size) (h0 : (s[a].toNat : Int) = 96) (h1 : Lib.indexByte (s.extract (a + 1) s.size).data.toList 96 < 1) :
    Calls Tryz.prog 35 #[.string s, .int .i64 a] w (Quiet w (oneSp s a).val) := by
  have p1 : (a : Int) < s.size := by omega
  have p2 : (a : Int) + 1 ≤ s.size := by omega
  go_enter Tryz.func35, Tryz.ntmps35
  go_upto_region 3 with (fail)
  have hR := rest_mk (Nat.le_of_lt ha)
  generalize s.extract a s.size = r at hR ⊢
  have r1 : 0 < r.size := by have := hR.size; omega
  have r2 : (0 : Int) < r.size := by omega
  have r3 : (r.size : Int) ≤ 4000000000 := by have := hR.size; omega
  obtain ⟨g1, g2⟩ := hR.at r1
  simp only [Nat.add_zero] at g2
  have HR := Lib.hid hR
  have e1 : ((r[0].toNat : Int) == 96) = true := by rw [g2]; simpa using h0
  have e0 : ((r[0].toNat : Int) == 92) = false := by rw [g2, h0]; rfl
  have hx : r.extract 1 r.size = s.extract (a + 1) s.size := by rw [hR.cut (Nat.le_refl _) r1]; congr 1; have := hR.size; omega
  obtain ⟨i, hi⟩ : ∃ i, i = Lib.indexByte (r.extract 1 r.size).data.toList 96 := ⟨_, rfl⟩
  have HI := Lib.hid hi
  have b2 : i + 1 < (r.size : Int) ∨ i < 0 := by
    have h := idx_lt (r.extract 1 r.size).data.toList 96
    rw [← hi, ← Lib.size_eq, ByteArray.size_extract] at h
    omega
  rw [hx] at hi
  rw [← hi] at h1
  have q1 : i ≤ 0 := by omega
  clear hR g1 g2 h0 hi hx h1 b2
  go_wp2_with fail
  refine (Tryz.strings_IndexByte _ _ _).mono ?_
  rintro e w' ⟨rfl, rfl⟩
  rw [show Lib.indexByte (r.extract 1 r.size).data.toList (96 : Int).toNat.toUInt8 = i from HI.out.symm]
  go_wp2_with fail
  refine bodyPost_ret (v := (oneSp s a).val) ?_ rfl ⟨rfl, two_below _ _ _⟩
  · simp [results, Tryz.results35, go_sem]; rfl

set_option maxRecDepth 100000 in
set_option maxHeartbeats 4000000 in
theorem token_code_yes (s : ByteArray) (a : Nat) (w : World) (hs : s.size ≤ 4000000000) (ha : a < s.size) (i : Nat) (h0 : (s[a].toNat : Int) = 96) (hi : Lib.indexByte (s.extract (a + 1) s.size).data.toList 96 = (i : Int)) (h1 : 0 < i) :
    Calls Tryz.prog 35 #[.string s, .int .i64 a] w (Quiet w (spOf s ⟨1, a, a + i + 2⟩).val) := by
  obtain ⟨V, hV⟩ : ∃ V, V = (spOf s ⟨1, a, a + i + 2⟩).val := ⟨_, rfl⟩
  rw [← hV]
  have HV0 := Lib.hid hV
  clear hV
  have p1 : (a : Int) < s.size := by omega
  have p2 : (a : Int) + 1 ≤ s.size := by omega
  go_enter Tryz.func35, Tryz.ntmps35
  go_upto_region 3 with (fail)
  have hR := rest_mk (Nat.le_of_lt ha)
  generalize s.extract a s.size = r at hR ⊢
  have r1 : 0 < r.size := by have := hR.size; omega
  have r2 : (0 : Int) < r.size := by omega
  have r3 : (r.size : Int) ≤ 4000000000 := by have := hR.size; omega
  obtain ⟨g1, g2⟩ := hR.at r1
  simp only [Nat.add_zero] at g2
  have HR := Lib.hid hR
  have e1 : ((r[0].toNat : Int) == 96) = true := by rw [g2]; simpa using h0
  have e0 : ((r[0].toNat : Int) == 92) = false := by rw [g2, h0]; rfl
  have hx : r.extract 1 r.size = s.extract (a + 1) s.size := by rw [hR.cut (Nat.le_refl _) r1]; congr 1; have := hR.size; omega
  have HI : Hid (Lib.indexByte (r.extract 1 r.size).data.toList 96 = (i : Int)) := Lib.hid (by rw [hx]; exact hi)
  have b2 : i + 1 < r.size := by
    have h := idx_lt (r.extract 1 r.size).data.toList 96
    rw [HI.out, ← Lib.size_eq, ByteArray.size_extract] at h
    omega
  have q1 : (0 : Int) < i := by omega
  have q2 : (i : Int) + 1 ≤ r.size := by omega
  have hy : r.extract 1 (i + 1) = s.extract (a + 1) (a + (i + 1)) := hR.cut (by omega) (by omega)
  have HV : Hid (V = .agg #[.int .i64 3, .int .i64 a, .int .i64 ((a : Int) + i + 2), .string (r.extract 1 (i + 1)), .string ⟨#[]⟩, .int .i64 0, .bool false]) := Lib.hid (by
    rw [HV0.out]; simp [spOf, Sp.val, hy]; congr 1)
  clear hR g1 g2 h0 hi hx hy h1 b2 HV0
  go_wp2_with fail
  refine (Tryz.strings_IndexByte _ _ _).mono ?_
  rintro e w' ⟨rfl, rfl⟩
  rw [show Lib.indexByte (r.extract 1 r.size).data.toList (96 : Int).toNat.toUInt8 = i from HI.out]
  go_wp2_with fail
  refine bodyPost_ret (v := V) ?_ rfl ⟨rfl, two_below _ _ _⟩
  · simp [results, Tryz.results35, go_sem]; exact HV.out.symm

end Go.Proofs.YticdapkljbillaaGreatDoor
