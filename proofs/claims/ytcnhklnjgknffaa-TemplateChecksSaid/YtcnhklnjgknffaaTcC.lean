/- strings.IndexAny at an ASCII set: of any bytes. -/
import Derived.Test.YtcnhklnjgknffaaTcB
import Derived.Laws.RangeAny
import Derived.Deep.LoopGhost
import Derived.IntWalk
import Derived.Lib.IndexAny
import Derived.Deep.WholeRow
import Derived.Shelf.GgClosure.StringsRunes
namespace Go.Proofs.Ytcnhklnjgknffaa
open Go.RowKit Go.Shelf

theorem str_empty {t : ByteArray} (h : t.size = 0) : t.toList = [] := by
  rw [ByteArray.toList_eq]; exact List.eq_nil_of_length_eq_zero (by simpa using h)
theorem str_isEmpty {t : ByteArray} (h : t.size = 0) : t.toList.isEmpty = true := by rw [str_empty h]; rfl
theorem str_full {t : ByteArray} (h : 0 < t.size) : ¬ t.toList = [] := by
  rw [ByteArray.toList_eq]; intro e; have h1 := congrArg List.length e; have h2 := Lib.size_eq t; simp only [List.length_nil] at h1; omega
theorem str_nonEmpty {t : ByteArray} (h : 0 < t.size) : t.toList.isEmpty = false := by
  cases he : t.toList.isEmpty with
  | false => rfl
  | true => exact absurd (List.isEmpty_iff.1 he) (str_full h)


theorem decode_wide (s : ByteArray) (pos : Nat) (h : pos < s.size) (ha : 128 ≤ (s[pos]'h).toNat) :
    1 ≤ (Utf8.decode s pos).2 ∧ (∀ k, k < (Utf8.decode s pos).2 → pos + k < s.size ∧ 128 ≤ (s.get! (pos + k)).toNat) ∧ 128 ≤ (Utf8.decode s pos).1 ∧
      ((Utf8.decode s pos).1 = 65533 ∨ Utf8.valid (Utf8.decode s pos).1 = true) ∧ (Utf8.decode s pos).1 ≤ 1114111 := by
  have hn : ¬ (s[pos]'h).toNat < 128 := by omega
  have h0 : (s[pos]'h).toNat < 256 := (s[pos]'h).toNat_lt
  have h1 : (s.get! (pos + 1)).toNat < 256 := (s.get! (pos + 1)).toNat_lt
  have h2 : (s.get! (pos + 2)).toNat < 256 := (s.get! (pos + 2)).toNat_lt
  have h3 : (s.get! (pos + 3)).toNat < 256 := (s.get! (pos + 3)).toNat_lt
  have hone : ∀ k, k < 1 → pos + k < s.size ∧ 128 ≤ (s.get! (pos + k)).toNat := by
    intro k hk
    obtain rfl : k = 0 := by omega
    rw [get_at s pos h]; exact ⟨h, ha⟩
  simp only [Utf8.decode, get_at s pos h, hn, if_false]
  generalize (s[pos]'h).toNat = b0 at *
  split
  · rename_i c1
    simp only [Bool.and_eq_true, beq_iff_eq, decide_eq_true_eq] at c1
    split
    · rename_i hc
      refine ⟨by omega, ?_, by simpa using hc, .inr ?_, by simp only; omega⟩
      · intro k hk
        rcases (by simp only at hk; omega : k = 0 ∨ k = 1) with rfl | rfl
        · exact hone 0 (by omega)
        · exact ⟨c1.2.1, by omega⟩
      · simp [Utf8.valid]; omega
    · exact ⟨Nat.le_refl _, hone, by decide, .inl rfl, by decide⟩
  split
  · rename_i c2
    simp only [Bool.and_eq_true, beq_iff_eq, decide_eq_true_eq] at c2
    split
    · rename_i hc
      simp only [Bool.and_eq_true, decide_eq_true_eq] at hc
      refine ⟨by omega, ?_, by simp only; omega, .inr hc.2, by simp only; omega⟩
      intro k hk
      rcases (by simp only at hk; omega : k = 0 ∨ k = 1 ∨ k = 2) with rfl | rfl | rfl
      · exact hone 0 (by omega)
      · exact ⟨c2.1.2.1, by omega⟩
      · exact ⟨c2.2.1, by omega⟩
    · exact ⟨Nat.le_refl _, hone, by decide, .inl rfl, by decide⟩
  split
  · rename_i c3
    simp only [Bool.and_eq_true, beq_iff_eq, decide_eq_true_eq] at c3
    split
    · rename_i hc
      simp only [Bool.and_eq_true, decide_eq_true_eq] at hc
      refine ⟨by omega, ?_, by simp only; omega, .inr hc.2, ?_⟩
      · intro k hk
        rcases (by simp only at hk; omega : k = 0 ∨ k = 1 ∨ k = 2 ∨ k = 3) with rfl | rfl | rfl | rfl
        · exact hone 0 (by omega)
        · exact ⟨c3.1.1.2.1, by omega⟩
        · exact ⟨c3.1.2.1, by omega⟩
        · exact ⟨c3.2.1, by omega⟩
      · have := hc.2
        simp [Utf8.valid] at this
        simp only; omega
    · exact ⟨Nat.le_refl _, hone, by decide, .inl rfl, by decide⟩
  exact ⟨Nat.le_refl _, hone, by decide, .inl rfl, by decide⟩

theorem ofNat_high {n : Nat} (h : 128 ≤ n) (h2 : n < 256) : 128 ≤ (UInt8.ofNat n).toNat := by
  rw [UInt8.toNat_ofNat']; omega
theorem encode_wide (r : Int) (h : 128 ≤ r) (hv : Utf8.valid r = true) : ∃ b, Utf8.encode r = b ∧ ∃ h2 : 2 ≤ b.size, b.size ≤ 4 ∧ 128 ≤ (b[b.size - 1]'(by omega)).toNat := by
  have hb : r ≤ 1114111 := by simp [Utf8.valid] at hv; omega
  obtain ⟨n, rfl⟩ := Int.eq_ofNat_of_zero_le (show 0 ≤ r by omega)
  have h' : ¬ n < 128 := by omega
  unfold Utf8.encode
  simp only [hv, if_true, Int.toNat_natCast, h', if_false]
  split
  · exact ⟨_, rfl, by show 2 ≤ 2; decide, by show 2 ≤ 4; decide, ofNat_high (by omega) (by omega)⟩
  split
  · exact ⟨_, rfl, by show 2 ≤ 3; decide, by show 3 ≤ 4; decide, ofNat_high (by omega) (by omega)⟩
  · exact ⟨_, rfl, by show 2 ≤ 4; decide, by show 4 ≤ 4; decide, ofNat_high (by omega) (by omega)⟩

def Ascii (chars : ByteArray) : Prop := ∀ (j : Nat) b, chars.data.toList[j]? = some b → b.toNat < 128
theorem Ascii.at {chars : ByteArray} (h : Ascii chars) {j : Nat} (hj : j < chars.size) : (chars[j]'hj).toNat < 128 := h j _ (Lib.data_getElem? chars j hj)
theorem indexByte_none {l : List UInt8} {c : UInt8} (h : ∀ b ∈ l, b ≠ c) : Lib.indexByte l c = -1 := by
  induction l with
  | nil => rfl
  | cons b l ih =>
    unfold Lib.indexByte
    have h1 : (b == c) = false := by simpa using h b (List.mem_cons_self ..)
    rw [h1, ih (fun x hx => h x (List.mem_cons_of_mem _ hx))]
    rfl
theorem Ascii.none {chars : ByteArray} (h : Ascii chars) {c : UInt8} (hc : 128 ≤ c.toNat) (a b : Nat) : Lib.indexByte (chars.extract a b).data.toList c = -1 := by
  refine indexByte_none fun x hx e => ?_
  subst e
  have : x ∈ chars.data.toList := by
    rw [ByteArray.data_extract, Array.toList_extract] at hx
    exact List.mem_of_mem_drop (List.mem_of_mem_take hx)
  obtain ⟨j, hj, e⟩ := List.getElem_of_mem this
  have := h j x (by rw [List.getElem?_eq_getElem hj, e])
  omega

set_option maxHeartbeats 4000000 in
set_option maxRecDepth 100000 in
theorem indexRune_error (chars : ByteArray) (w : World) (hac : Ascii chars) (hsz : chars.size ≤ 1000) :
    Calls Try.prog 23 #[.string chars, .int .i32 65533] w fun e w' => e = .returned (.int .i64 (-1)) ∧ Below w.heap.size w w' := by
  go_enter Try.func23, Try.ntmps23
  have HA := Lib.hid hac
  clear hac
  go_wp2_with fail
  go_loopg [5, 6] chars.size (fun g _ _ wx => ∃ i : Nat, i + g = chars.size ∧ wx = w.iter chars i)
  case atStart => exact ⟨0, by omega, rfl⟩
  case round =>
    obtain ⟨i, hig, rfl⟩ := hrel
    cases gk with
    | zero =>
      obtain rfl : i = chars.size := by omega
      have hnx := run_next_end (P := Try.prog) w chars chars.size
      go_wp2_with fail
      go_ret
      exact ⟨rfl, (Below.refl _ _).alloc (Nat.le_refl _) _⟩
    | succ g =>
      have hi : i < chars.size := by omega
      have h128 := HA.out.at hi
      have hnx := fun ty => run_next_ascii (P := Try.prog) w chars i ty hi h128
      have hne : (((chars[i]'hi).toNat : Int) == 65533) = false := by simp; omega
      clear h128
      go_wp2_with fail
      go_roundg g
      case measure => omega
      case rel => exact ⟨i + 1, by omega, rfl⟩

set_option maxHeartbeats 4000000 in
set_option maxRecDepth 100000 in
theorem indexRune_wide (chars : ByteArray) (r : Int) (w : World) (hac : Ascii chars) (hsz : chars.size ≤ 1000) (hr : 128 ≤ r) (hv : Utf8.valid r = true) (hne : r ≠ 65533) :
    Calls Try.prog 23 #[.string chars, .int .i32 r] w fun e w' => e = .returned (.int .i64 (-1)) ∧ Below w.heap.size w w' := by
  have hval : Lib.validRune r = true := by
    unfold Lib.validRune; simp [Utf8.valid] at hv; simp; omega
  have HVAL := Lib.hid hval
  have q1 : decide (r < 128) = false := by simp; omega
  have q2 : (r == 65533) = false := by simpa using hne
  have q3 : (0 : Int) ≤ r := by omega
  clear hval hne
  go_enter Try.func23, Try.ntmps23
  go_wp2_with fail
  refine (Try.utf8_ValidRune _ _).mono ?_
  rintro e w' ⟨rfl, rfl⟩
  rw [HVAL.out]
  obtain ⟨b, hb, h2, h4, hhi⟩ := encode_wide r hr hv
  have b1 : (1 : Int) ≤ b.size := by omega
  have b2 : (b.size : Int) ≤ 4 := by omega
  have b3 : (b.size : Int) - 1 < b.size := by omega
  have b4 : b.size - 1 < b.size := by omega
  have b5 : (0 : Int) ≤ (b.size : Int) - 1 := by omega
  have hhi2 : 128 ≤ (b[b.size - 1]'b4).toNat := hhi
  have HHI := Lib.hid hhi2
  have HAC := Lib.hid hac
  clear hhi hhi2 hac hr hv HVAL
  go_wp2_with fail
  go_step3
  go_wp2_with fail
  go_loopw [9, 10, 11, 12] (fun i _ _ _ wr => i = .int .i64 ((b.size : Int) - 1) ∧ wr = w') (fun _ _ _ _ _ => 0)
  case atStart => exact ⟨rfl, rfl⟩
  case round =>
    obtain ⟨rfl, rfl⟩ := hrel
    by_cases hlt : b.size - 1 < chars.size
    · have p1 : (b.size : Int) - 1 < chars.size := by omega
      have p2 : (b.size : Int) - 1 + 1 ≤ chars.size := by omega
      have p3 : (b.size : Int) ≤ chars.size := by omega
      have hx := HAC.out.at hlt
      have hne : (((chars[b.size - 1]'hlt).toNat : Int) != ((b[b.size - 1]'b4).toNat : Int)) = true := by
        have := HHI.out
        rw [bne_iff_ne]; omega
      have hIB : ∀ a c (W : World), Calls Try.prog 43 #[.string (chars.extract a c), .int .u8 (b[b.size - 1]'b4).toNat] W fun e w' => e = .returned (.int .i64 (-1)) ∧ w' = W := fun a c W =>
        (Try.strings_IndexByte _ _ W).mono fun e w' ⟨h1, h2⟩ => ⟨by rw [h1]; simp only [Int.toNat_natCast, Nat.toUInt8]; rw [UInt8.ofNat_toNat, HAC.out.none HHI.out], h2⟩
      have HIB := Lib.hid hIB
      clear hIB hx
      go_wp2_with fail
      go_step3
      go_wp2_with fail
      go_quiet (fail)
      go_wp2_with fail
      have e1 : IntKind.i64.wrap (b.size : Int) = (b.size : Int) := IntWalk.i64_in _ (by omega)
      obtain ⟨W2, hW2⟩ : ∃ W2, W2 = wr.drewN nq := ⟨_, rfl⟩
      have HB2 : Hid (Below wr.heap.size wr W2) := Lib.hid (by rw [hW2]; exact ⟨rfl, rfl, rfl, Nat.le_refl _, fun _ _ => rfl⟩)
      rw [← hW2]
      clear hW2
      have e2 : b.size ≤ chars.size := by omega
      go_quiet ((go_at_call 43; exact Calls.quiet_of_same (HIB.out _ _ _)))
      clear e1
      go_wp2_with fail
      simp (config := { zetaDelta := true }) only [Exit.noGoto, Exit.inBlock, Exit.then]
      go_ret
      exact ⟨rfl, ⟨HB2.out.os, HB2.out.tape, HB2.out.output, HB2.out.size, HB2.out.block⟩⟩
    · have p1 : ¬ (b.size : Int) - 1 < chars.size := by omega
      have p2 : decide ((b.size : Int) - 1 < chars.size) = false := by simp; omega
      go_wp2_with fail
      try rw [Exit.noGoto_ret]
      go_ret
      exact ⟨rfl, Below.refl _ _⟩

/-- A set of two ASCII bytes or more. -/
def anyOf (s chars : ByteArray) : Int := Lib.indexAny s.data.toList chars.data.toList
theorem noAny_wide {s chars : ByteArray} (hac : Ascii chars) {i n : Nat} (h : Lib.NoAny s.data.toList chars.data.toList i) (hn : ∀ k, k < n → i + k < s.size ∧ 128 ≤ (s.get! (i + k)).toNat) : Lib.NoAny s.data.toList chars.data.toList (i + n) := by
  intro j b hj hb
  by_cases h1 : j < i
  · exact h j b h1 hb
  · obtain ⟨k, rfl⟩ : ∃ k, j = i + k := ⟨j - i, by omega⟩
    obtain ⟨h2, h3⟩ := hn k (by omega)
    have e : s.get! (i + k) = b := by
      have h4 := Lib.data_getElem? s (i + k) h2
      rw [hb] at h4
      rw [Option.some.inj h4]
      show s.data[i + k]! = _
      rw [getElem!_pos s.data (i + k) h2]; rfl
    rw [e] at h3
    cases hc : chars.data.toList.contains b with
    | false => rfl
    | true =>
      obtain ⟨m, hm, e2⟩ := List.getElem_of_mem (List.contains_iff_mem.1 hc)
      have := hac m b (by rw [List.getElem?_eq_getElem hm, e2])
      omega

theorem next_end {P : Program} {w : World} {s : ByteArray} {b pos : Nat} (ty : TypeId) (hb : w.heap[b]? = some (.stringIter s pos)) (h : ¬ pos < s.size) :
    (Instr.next (.pointer (some ⟨b, 0, none⟩)) true ty).run P w = .ok (.tuple #[.bool false]) w := by
  simp [Instr.next, getObj, Sem.run, hb, h]
/-- The iterator moved on. -/
def stepped (w : World) (b : Nat) (s : ByteArray) (pos : Nat) : World := { w with heap := w.heap.setIfInBounds b (.stringIter s pos) }
theorem next_any {P : Program} {w : World} {s : ByteArray} {b pos : Nat} (ty : TypeId) (hb : w.heap[b]? = some (.stringIter s pos)) (h : pos < s.size) :
    (Instr.next (.pointer (some ⟨b, 0, none⟩)) true ty).run P w = .ok (.tuple #[.bool true, .int .i64 pos, .int .i32 (Utf8.decode s pos).1]) (stepped w b s (pos + (Utf8.decode s pos).2)) := by
  simp only [Instr.next, getObj, setObj, Sem.run_bind, Sem.run, hb, Result.andThen, h, if_true]
  simp [goInt, stepped]
theorem stepped_heap {w : World} {s : ByteArray} {b : Nat} {o : Obj} (pos : Nat) (hb : w.heap[b]? = some o) : (stepped w b s pos).heap[b]? = some (.stringIter s pos) := by
  have : b < w.heap.size := (Array.getElem?_eq_some_iff.1 hb).1
  simp [stepped, this]
theorem stepped_below (w : World) (b : Nat) (s : ByteArray) (pos : Nat) : Below b w (stepped w b s pos) :=
  ⟨rfl, rfl, rfl, by simp [stepped], fun k hk => by simp [stepped, Array.getElem?_setIfInBounds]; intro h; omega⟩

set_option maxHeartbeats 8000000 in
set_option maxRecDepth 1000000 in
theorem indexAny_short (s chars : ByteArray) (w : World) (h2 : 2 ≤ chars.size) (h8 : s.size ≤ 8) (hsz : chars.size ≤ 1000) (hac : Ascii chars) :
    Calls Try.prog 16 #[.string s, .string chars] w fun e w' => e = .returned (.int .i64 (anyOf s chars)) ∧ Below w.heap.size w w' := by
  have HA := Lib.hid hac
  clear hac
  have hemp : chars.toList.isEmpty = false := str_nonEmpty (by omega)
  have hn1 : ((chars.size : Int) == 1) = false := beq_eq_false_iff_ne.2 (by omega)
  have h8z : decide ((8 : Int) < (s.size : Int)) = false := decide_eq_false (by omega)
  go_enter Try.func16, Try.ntmps16
  go_wp2_with (go_at_call 24; refine (Try.strings_shouldUseASCIISet _ _).mono ?_; rintro e w' ⟨rfl, hw⟩; rw [hw, h8z])
  go_loopg [9, 10] s.size (fun g _ _ wx => ∃ i p : Nat, i + g = s.size ∧ Hid (Below w.heap.size w wx ∧ wx.heap[w.heap.size]? = some (.stringIter s i)) ∧ p = 0 ∧ Hid (Lib.NoAny s.data.toList chars.data.toList i))
  case atStart => exact ⟨0, 0, by omega, Lib.hid ⟨(Below.refl _ _).alloc (Nat.le_refl _) _, World.iter_heap _ _ _⟩, rfl, Lib.hid (Lib.NoAny.zero _ _)⟩
  case round =>
    obtain ⟨i, p, hig, hw, rfl, HN⟩ := hrel
    cases gk with
    | zero =>
      obtain rfl : i = s.size := by omega
      have hnx := fun ty => next_end (P := Try.prog) (w := wr) ty hw.out.2 (Nat.lt_irrefl _)
      go_wp2_with fail
      go_ret
      exact ⟨by unfold anyOf; rw [Lib.indexAny_none (by rw [← Lib.size_eq]; exact HN.out)]; rfl, hw.out.1⟩
    | succ g =>
      have hi : i < s.size := by omega
      obtain ⟨hbw, hpw⟩ := hw.out
      by_cases h128 : (s[i]'hi).toNat < 128
      · have hd := decode_ascii s i hi h128
        have hnx := fun ty => next_any (P := Try.prog) (w := wr) ty hpw hi
        rw [hd] at hnx
        simp only at hnx
        obtain ⟨x, hx⟩ : ∃ x : UInt8, s[i]'hi = x := ⟨_, rfl⟩
        have hxl : s.data.toList[i]? = some x := by rw [← hx]; exact Lib.data_getElem? s i hi
        rw [hx] at hnx h128
        have Hx := Lib.hid hxl
        have hcon := Lib.contains_iff_indexByte chars.data.toList x
        have hback : ((x.toNat : Int)).toNat.toUInt8 = x := by simp
        have HBW : Hid (Below w.heap.size w (stepped wr w.heap.size s (i + 1)) ∧ (stepped wr w.heap.size s (i + 1)).heap[w.heap.size]? = some (.stringIter s (i + 1))) :=
          Lib.hid ⟨hbw.trans (stepped_below _ _ _ _), stepped_heap _ hpw⟩
        have hr1 : (0 : Int) ≤ (x.toNat : Int) := by omega
        have hr2 : (x.toNat : Int) < 128 := by omega
        clear hd hx hxl hbw hpw hw h128
        cases hin : chars.data.toList.contains x
        · rw [hin] at hcon
          have hlt : ¬ ((0 : Int) ≤ Lib.indexByte chars.data.toList x) := of_decide_eq_false hcon.symm
          have HIN := Lib.hid hin
          clear hcon hin
          go_wp2_with (go_at_call 23; refine (Try.strings_IndexRune_ascii _ _ _ hr1 hr2).mono ?_; rintro e w' ⟨rfl, rfl⟩; rw [hback])
          go_roundg g
          case measure => omega
          case rel => exact ⟨i + 1, 0, by omega, HBW, rfl, Lib.hid (HN.out.succ Hx.out HIN.out)⟩
        · rw [hin] at hcon
          have hge : (0 : Int) ≤ Lib.indexByte chars.data.toList x := of_decide_eq_true hcon.symm
          have HIN := Lib.hid hin
          clear hcon hin
          go_wp2_with (go_at_call 23; refine (Try.strings_IndexRune_ascii _ _ _ hr1 hr2).mono ?_; rintro e w' ⟨rfl, rfl⟩; rw [hback])
          go_ret
          exact ⟨by unfold anyOf; rw [Lib.indexAny_hit HN.out Hx.out HIN.out]; rfl, HBW.out.1⟩
      · obtain ⟨d1, d2, d3, d4, d5⟩ := decode_wide s i hi (by omega)
        have hnx := fun ty => next_any (P := Try.prog) (w := wr) ty hpw hi
        obtain ⟨c, hc⟩ : ∃ c, c = (Utf8.decode s i).1 := ⟨_, rfl⟩
        obtain ⟨n, hn⟩ : ∃ n, n = (Utf8.decode s i).2 := ⟨_, rfl⟩
        rw [← hc] at hnx d3 d4 d5
        rw [← hn] at hnx d1 d2
        have hle : i + n ≤ s.size := by have := (d2 (n - 1) (by omega)).1; omega
        have HBW : Hid (Below w.heap.size w (stepped wr w.heap.size s (i + n)) ∧ (stepped wr w.heap.size s (i + n)).heap[w.heap.size]? = some (.stringIter s (i + n))) :=
          Lib.hid ⟨hbw.trans (stepped_below _ _ _ _), stepped_heap _ hpw⟩
        have HNN : Hid (Lib.NoAny s.data.toList chars.data.toList (i + n)) := Lib.hid (noAny_wide HA.out HN.out d2)
        have hrune : ∀ W : World, Calls Try.prog 23 #[.string chars, .int .i32 c] W fun e w' => e = .returned (.int .i64 (-1)) ∧ Below W.heap.size W w' := by
          intro W
          by_cases h1 : c = 65533
          · rw [h1]; exact indexRune_error chars W HA.out hsz
          · exact indexRune_wide chars c W HA.out hsz (by omega) (by rcases d4 with h | h; exact absurd h h1; exact h) (by omega)
        have HRUNE := Lib.hid hrune
        have hsz2 : (stepped wr w.heap.size s (i + n)).heap.size = wr.heap.size := by simp [stepped]
        have hbz := hbw.size
        have hlt : w.heap.size < wr.heap.size := (Array.getElem?_eq_some_iff.1 hpw).1
        have HSZ := Lib.hid hsz2
        clear hc hn d2 d4 hbw hpw hw h128 hrune hsz2
        go_wp2_with (go_at_call 23; refine (HRUNE.out _).mono ?_; rintro e w' ⟨rfl, hb'⟩)
        have HB' : Hid (Below w.heap.size w w' ∧ w'.heap[w.heap.size]? = some (.stringIter s (i + n))) :=
          Lib.hid ⟨HBW.out.1.trans (hb'.mono (by rw [HSZ.out]; omega)), (hb'.block _ (by rw [HSZ.out]; omega)).trans HBW.out.2⟩
        clear hb'
        go_roundg (s.size - (i + n))
        case measure => omega
        case rel => exact ⟨i + n, 0, by omega, HB', rfl, HNN⟩

theorem zero_ascii : ∀ w, (zeroValue 55).run Try.prog w = .ok (.agg (Array.replicate 256 (.bool false))) w :=
  (zero_of_info (P := Try.prog) (t := 55) (v := .agg (Array.replicate 256 (.bool false))) (n := 256) (by kernel_rfl)).1
/-- strings.IndexAny, of whatever bytes, at a set of two ASCII bytes or more. -/
theorem indexAny_any (s chars : ByteArray) (w : World) (hs : s.size ≤ 4000000000) (h2 : 2 ≤ chars.size) (hsz : chars.size ≤ 1000) (hac : Ascii chars) :
    Calls Try.prog 16 #[.string s, .string chars] w fun e w' => e = .returned (.int .i64 (anyOf s chars)) ∧ Below w.heap.size w w' := by
  by_cases h8 : s.size ≤ 8
  · exact indexAny_short s chars w h2 h8 hsz hac
  · refine (Try.strings_IndexAny_long zero_ascii s chars w h2 (by omega) (by omega) (by omega) hac).mono fun e w' ⟨h1, h3⟩ => ⟨h1, ?_⟩
    rw [h3]
    exact ((Below.refl _ _).alloc (Nat.le_refl _) _).alloc (by simp) _

end Go.Proofs.Ytcnhklnjgknffaa
