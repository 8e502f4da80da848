/- Package text: Escaped, on both sides. -/
import Derived.Test.YtjfpaahidfhkoaaDoorTyD
import Derived.Test.YtjfpaahidfhkoaaDoorTxM
import Derived.Test.YtjfpaahidfhkoaaDoorShelf
import Derived.WalkKit
import Derived.Lib.Hide
import Derived.Outline
import Derived.Deep.QuietTactic
import Derived.BigQuiet
import Derived.Deep.RegionHeld3
import Derived.Laws.EntriesVeiled
namespace Go.Proofs.YtjfpaahidfhkoaaDoor
open Go.RowKit

/-- One byte is written. -/
def WroteB (b : Nat) (bs : List Value) (c : Int) (F : Nat → Prop) (w : World) (e : Ending) (w' : World) : Prop :=
  e = .returned .nilIface ∧ ∃ F', Bld b (bs ++ [.int .u8 c]) F' w' ∧ Grew F w F' w'

set_option maxHeartbeats 2000000 in
set_option maxRecDepth 100000 in
theorem writeByte_any (b : Nat) (bs : List Value) (c : Int) (F : Nat → Prop) (w : World) (h : Bld b bs F w) (hlen : bs.length ≤ 140737488355320) :
    Calls Tryd.prog 33 #[.pointer (some ⟨b, 0, none⟩), .int .u8 c] w (WroteB b bs c F w) := by
  obtain ⟨p, v, hp, hb, hown, hne, hF⟩ := h
  obtain ⟨i0, hi, hz0, hz1, hz2⟩ := info_parts infoByte
  have HF := Lib.hid hF
  clear hF
  go_enter Tryd.func33, Tryd.ntmps33
  go_wp2_with fail
  refine (copyCheck_any b p v _ hp hb).mono ?_
  rintro e w1 ⟨rfl, hb1, ho1⟩
  have hlt : b < w1.heap.size := lt_of_blk hb1
  have hown1 : w1.ownsRow 0 5 1 v bs.length bs := ownsRow_kept hown (fun k hk => ho1.block k (hown.lt k hk).2 (fun e => hne (by rw [hk, e])))
  have c0 : w1.cell? ⟨b, 0, none⟩ = some (.pointer (some ⟨b, 0, none⟩)) := by rw [Lib.cell_of_heap hb1]; rfl
  have c1 : w1.cell? ⟨b, 1, none⟩ = some v := by rw [Lib.cell_of_heap hb1]; rfl
  obtain ⟨o2, ho2⟩ : ∃ o2, o2 = (Obj.cells #[.int .u8 c] 5) := ⟨_, rfl⟩
  have hk2 : ∀ k, k < w1.heap.size → (w1.alloc o2).heap[k]? = w1.heap[k]? := fun k hk => Below.heap_alloc w1 o2 k hk
  have hown2 : (w1.alloc o2).ownsRow 0 5 1 v bs.length bs := ownsRow_kept hown1 (fun k hk => hk2 k (hown1.lt k hk).2)
  have hbb : (w1.alloc o2).heap[b]? = some (.cells #[.pointer (some ⟨b, 0, none⟩), v] 30 (0, 0)) := (hk2 b hlt).trans hb1
  have hrow : (w1.alloc o2).heap[w1.heap.size]? = some o2 := by
    have := heap_alloc_new w1 o2
    simpa using this
  have hnews : ∀ j u, [Value.int .u8 c][j]? = some u → (w1.alloc o2).cell? ((⟨w1.heap.size, 0, none⟩ : Addr).add j) = some u := by
    intro j u hj
    rw [ho2] at hrow ⊢
    have := cell_of_row _ _ j _ _ (0, 0) hrow
    rw [addr_plus, Nat.zero_add, this]
    simpa using hj
  have HO2 := Lib.hid (Out.of_below (F := fun _ => False) ((Below.refl _ w1).alloc (Nat.le_refl _) o2))
  subst ho2
  have HO1 := Lib.hid ho1
  clear hrow ho1
  go_wp2_with (at_builtin; refine wpList_append_exactS _ rfl _ _ 28 rfl 5 i0 _ 1 1 Tryd.underlying28 hi hz0 hz1 hz2 rfl (by omega) _ _ _ rfl hown2 ⟨w1.heap.size, 0, none⟩ 1 1 [Value.int .u8 c] rfl rfl hnews (by intro u hu; simp at hu; rw [hu]; rfl) (by unfold maxLen; omega) (by omega) ?_)
  intro v' w2 hown' hgrow hex
  have hb2 : w2.heap[b]? = some (.cells #[.pointer (some ⟨b, 0, none⟩), v] 30 (0, 0)) := by
    rw [hgrow.block b (lt_of_blk hbb) (fun e => hne e.symm)]
    exact hbb
  have d0 : w2.cell? ⟨b, 0, none⟩ = some (.pointer (some ⟨b, 0, none⟩)) := by rw [Lib.cell_of_heap hb2]; rfl
  have d1 : w2.cell? ⟨b, 1, none⟩ = some v := by rw [Lib.cell_of_heap hb2]; rfl
  have f1 : w2.frozen? ⟨b, 1, none⟩ = false := Lib.frozen_of_heap hb2 1
  obtain ⟨ao, n', cap, rfl⟩ : ∃ ao n' cap, v' = .slice ao n' cap := by
    rcases hown'.2 with ⟨hv, _⟩ | ⟨g, cap, cur, hv, _⟩
    · exact ⟨_, _, _, hv⟩
    · exact ⟨_, _, _, hv⟩
  have hx : WroteB b bs c F w (.returned .nilIface) (w2.setCell ⟨b, 1, none⟩ (.slice ao n' cap)) := by
    have ho3 : Out (fun k => k = b) w (w1.alloc (Obj.cells #[.int .u8 c] 5)) := HO1.out.trans HO2.out (fun _ _ h => h.elim)
    have ho2 : Out (fun k => k = b ∨ v.ownBlock = some k) w w2 :=
      (ho3.mono (fun _ hk => .inl hk)).trans (G := fun k => v.ownBlock = some k) ⟨hgrow.os, hgrow.tape, hgrow.output, hgrow.size, fun k hk hn => hgrow.block k hk (fun e => hn e.symm)⟩ (fun _ _ hk => .inr hk)
    have hnb : (Value.slice ao n' cap).ownBlock ≠ some b := by
      intro hk
      rcases hex b hk with h1 | h1
      · exact hne h1
      · omega
    refine ⟨rfl, fun k => k = b ∨ (Value.slice ao n' cap).ownBlock = some k, ⟨.pointer (some ⟨b, 0, none⟩), .slice ao n' cap, .inr rfl, ?_, ?_, hnb, rfl⟩, ⟨?_, ?_⟩⟩
    · simp [World.setCell, Array.getElem?_modify, hb2]
    · rw [List.length_append, List.length_singleton]
      exact ownsRow_kept hown' (fun k hk => Below.heap_setCell _ ⟨b, 1, none⟩ _ k (fun e => hnb (by rw [hk, e])))
    · rw [HF.out]
      refine ho2.trans (G := fun k => k = b) ⟨rfl, rfl, rfl, by simp [World.setCell], fun k _ hk => Below.heap_setCell _ ⟨b, 1, none⟩ _ k hk⟩ (fun _ _ hk => .inl hk)
    · rw [HF.out]
      rintro k (hk | hk)
      · exact .inl (.inl hk)
      · rcases hex k hk with h1 | h1
        · exact .inl (.inr h1)
        · exact .inr (by have := ho3.size; rw [World.size_alloc] at this; omega)
  have HX := Lib.hid hx
  clear hx hex hgrow hown' hown1 hown2 hown
  go_wp2
  go_ret
  exact HX.out

/-! ### Escaped -/
def escB (c : UInt8) : List UInt8 := if 0 ≤ Lib.indexByte [92, 96, 91, 40, 35, 42] c then [92, c] else [c]
def escL (l : List UInt8) : List UInt8 := l.flatMap escB
theorem escB_len (c : UInt8) : (escB c).length ≤ 2 := by unfold escB; split <;> simp
theorem escL_len : ∀ l : List UInt8, (escL l).length ≤ 2 * l.length
  | [] => by simp [escL]
  | c :: l => by
    have h1 := escL_len l
    have h2 := escB_len c
    unfold escL at h1 ⊢
    rw [List.flatMap_cons, List.length_append, List.length_cons]
    omega
theorem escL_snoc (l : List UInt8) (c : UInt8) : escL (l ++ [c]) = escL l ++ escB c := by unfold escL; rw [List.flatMap_append, List.flatMap_singleton]
theorem take_next (s : ByteArray) (k : Nat) (h : k < s.size) : s.data.toList.take (k + 1) = s.data.toList.take k ++ [s[k]] := by
  rw [List.take_succ_eq_append_getElem (by rw [Array.length_toList]; exact h)]; rfl
theorem byteCells_app (a b : List UInt8) : Lib.byteCells (a ++ b) = Lib.byteCells a ++ Lib.byteCells b := by simp [Lib.byteCells]
theorem byteCells_one (c : UInt8) : Lib.byteCells [c] = [.int .u8 (c.toNat : Int)] := rfl
theorem byteCells_len (a : List UInt8) : (Lib.byteCells a).length = a.length := by simp [Lib.byteCells]
theorem escTake_len (s : ByteArray) (k : Nat) : (escL (s.data.toList.take k)).length ≤ 2 * s.size := by
  have h1 := escL_len (s.data.toList.take k)
  have h2 := List.length_take_le k s.data.toList
  have h3 := List.length_take_le' k s.data.toList
  have h4 : s.data.toList.length = s.size := by rw [Array.length_toList]; rfl
  omega

/-- At the head of each round. -/
def EscRow (s : ByteArray) (w : World) (k : Nat) (wr : World) : Prop :=
  ∃ F, Bld w.heap.size (Lib.byteCells (escL (s.data.toList.take k))) F wr ∧ (∀ k, F k → w.heap.size ≤ k) ∧ Below w.heap.size w wr
theorem EscRow.wrote {s : ByteArray} {w wr w2 : World} {bs : List Value} {F F2 : Nat → Prop} (hlo : ∀ k, F k → w.heap.size ≤ k) (hb : Below w.heap.size w wr) (hB : Bld w.heap.size bs F2 w2) (hg : Grew F wr F2 w2) :
    (∀ k, F2 k → w.heap.size ≤ k) ∧ Below w.heap.size w w2 := by
  refine ⟨fun k hk => ?_, hb.trans (hg.out.below hb.size hlo)⟩
  rcases hg.new k hk with h | h
  · exact hlo k h
  · exact Nat.le_trans hb.size h

set_option maxRecDepth 100000 in
set_option maxHeartbeats 4000000 in
theorem escaped_any (s : ByteArray) (w : World) (hs : s.size ≤ 4000000000) :
    Calls Tryd.prog 14 #[.string s] w (Quiet w (.string ⟨(escL s.data.toList).toArray⟩)) := by
  have h0 : EscRow s w 0 (w.alloc (.cells #[.pointer none, .slice none 0 0] 30)) := by
    refine ⟨fun k => k = w.heap.size, ⟨.pointer none, .slice none 0 0, .inl rfl, heap_alloc_new w _, by simpa [escL, Lib.byteCells] using World.ownsRow_nil _ _ _ _, by simp [Value.ownBlock], ?_⟩, fun k hk => by omega, (Below.refl _ _).alloc (Nat.le_refl _) _⟩
    funext k; simp [Value.ownBlock]
  have H0 := Lib.hid h0
  have hsz : (s.size : Int) ≤ 4000000000 := by omega
  clear h0
  go_enter Tryd.func14, Tryd.ntmps14
  go_wp2_with fail
  go_loopw [7] (fun i wr => ∃ k : Nat, i = .int .i64 k ∧ k ≤ s.size ∧ Hid (EscRow s w k wr)) (fun i _ => s.size - (intOf i).toNat)
  case atStart => exact ⟨0, rfl, Nat.zero_le _, H0⟩
  case round =>
    obtain ⟨k, rfl, hk, HR⟩ := hrel
    clear H0
    by_cases hlt : k < s.size
    · have p1 : (k : Int) < s.size := by omega
      obtain ⟨c, hc⟩ : ∃ c, c = s[k] := ⟨_, rfl⟩
      have HC := Lib.hid hc
      have hts := take_next s k hlt
      rw [← hc] at hts
      have HTS := Lib.hid hts
      obtain ⟨d, hd⟩ : ∃ d, d = Lib.indexByte [92, 96, 91, 40, 35, 42] c := ⟨_, rfl⟩
      have hix : ∀ W, Calls Tryd.prog 32 #[.string ⟨#[92, 96, 91, 40, 35, 42]⟩, .int .u8 (c.toNat : Int)] W fun e w' => e = .returned (.int .i64 d) ∧ w' = W := fun W => by
        have := Tryd.strings_IndexByte ⟨#[92, 96, 91, 40, 35, 42]⟩ (c.toNat : Int) W
        rw [hd]
        simpa using this
      have HIX := Lib.hid hix
      have HE : Hid (escB c = if 0 ≤ d then [92, c] else [c]) := Lib.hid (by unfold escB; rw [hd])
      clear hc hts hd hix
      have hlen := escTake_len s k
      go_wp2_with fail
      rw [← HC.out]
      refine (HIX.out _).mono ?_
      rintro e1 w1 ⟨rfl, rfl⟩
      obtain ⟨F, hB, hlo, hbel⟩ := HR.out
      have HB := Lib.hid hB
      have HLO := Lib.hid hlo
      have HBEL := Lib.hid hbel
      clear hB hlo hbel HR
      by_cases hd0 : 0 ≤ d
      · go_wp2_with fail
        refine (writeByte_any _ _ 92 _ _ HB.out (by rw [byteCells_len]; omega)).mono ?_
        rintro e2 w2 ⟨rfl, F2, hB2, hg2⟩
        obtain ⟨hlo2, hbel2⟩ := EscRow.wrote (s := s) HLO.out HBEL.out hB2 hg2
        have HB2 := Lib.hid hB2
        have HLO2 := Lib.hid hlo2
        have HBEL2 := Lib.hid hbel2
        clear hB2 hg2 hlo2 hbel2
        go_wp2_with fail
        rw [← HC.out]
        refine (writeByte_any _ _ (c.toNat : Int) _ _ HB2.out (by rw [List.length_append, byteCells_len, List.length_singleton]; omega)).mono ?_
        rintro e3 w3 ⟨rfl, F3, hB3, hg3⟩
        obtain ⟨hlo3, hbel3⟩ := EscRow.wrote (s := s) HLO2.out HBEL2.out hB3 hg3
        have HX : Hid (EscRow s w (k + 1) w3) := Lib.hid ⟨F3, by
          rw [HTS.out, escL_snoc, HE.out, if_pos (show 0 ≤ d by omega), byteCells_app]
          have e : Lib.byteCells [92, c] = [.int .u8 (92 : Int)] ++ [.int .u8 (c.toNat : Int)] := rfl
          rw [e, ← List.append_assoc]
          exact hB3, hlo3, hbel3⟩
        clear hB3 hg3 hlo3 hbel3
        go_wp2_with fail
        go_roundw
        case measure => simp [intOf]; omega
        case rel => exact ⟨k + 1, by go_num, by omega, HX⟩
      · go_wp2_with fail
        rw [← HC.out]
        refine (writeByte_any _ _ (c.toNat : Int) _ _ HB.out (by rw [byteCells_len]; omega)).mono ?_
        rintro e3 w3 ⟨rfl, F3, hB3, hg3⟩
        obtain ⟨hlo3, hbel3⟩ := EscRow.wrote (s := s) HLO.out HBEL.out hB3 hg3
        have HX : Hid (EscRow s w (k + 1) w3) := Lib.hid ⟨F3, by
          rw [HTS.out, escL_snoc, HE.out, if_neg (show ¬ 0 ≤ d by omega), byteCells_app, byteCells_one]
          exact hB3, hlo3, hbel3⟩
        clear hB3 hg3 hlo3 hbel3
        go_wp2_with fail
        go_roundw
        case measure => simp [intOf]; omega
        case rel => exact ⟨k + 1, by go_num, by omega, HX⟩
    · have p1 : ¬ (k : Int) < s.size := by omega
      obtain rfl : k = s.size := by omega
      obtain ⟨F, hB, hlo, hbel⟩ := HR.out
      have hall : s.data.toList.take s.size = s.data.toList := List.take_of_length_le (by rw [Array.length_toList]; exact Nat.le_refl _)
      rw [hall] at hB
      have HIB := Lib.hid (hB.isBuilder hlo)
      have HBEL := Lib.hid hbel
      clear hB hlo hbel HR hall
      go_wp2_with fail
      refine (Tryd.Builder_String_any w.heap.size w.heap.size (escL s.data.toList) _ HIB.out HBEL.out.size).mono ?_
      rintro e2 w2 ⟨rfl, hb2⟩
      have HB2 := Lib.hid (HBEL.out.trans hb2)
      clear hb2
      go_wp2
      go_ret
      exact ⟨rfl, HB2.out⟩
end Go.Proofs.YtjfpaahidfhkoaaDoor
