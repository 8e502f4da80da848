/- Package text, part 7: the span of a token. -/
import Derived.Test.YtdhaanlgijikeaaDoorTxF
import Derived.WalkKit
import Derived.Lib.Hide
import Derived.Outline
import Derived.Deep.QuietTactic
import Derived.BigQuiet
import Derived.RegionTactic
import Derived.BigRegion
namespace Go.Proofs.YtdhaanlgijikeaaDoor
open Go.RowKit

def bar (t : ByteArray) : Int := Lib.indexByte t.data.toList 124
def cutL (t : ByteArray) : ByteArray := if 0 ≤ bar t then t.extract 0 (bar t).toNat else t
def cutR (t : ByteArray) : ByteArray := if 0 ≤ bar t then t.extract ((bar t).toNat + 1) t.size else ⟨#[]⟩
def Cuts (t : ByteArray) (w : World) (e : Ending) (w' : World) : Prop := e = .returned (.tuple #[.string (cutL t), .string (cutR t), .bool (decide (0 ≤ bar t))]) ∧ Below w.heap.size w w'

set_option maxHeartbeats 1000000 in
theorem sliteCut_any (t : ByteArray) (w : World) (ht : t.size ≤ 140737488355328) :
    Calls Tryd.prog 36 #[.string t, .string ⟨#[124]⟩] w (Cuts t w) := by
  obtain ⟨i, hi⟩ : ∃ i, i = bar t := ⟨_, rfl⟩
  have b1 : -1 ≤ i := by rw [hi]; exact Lib.indexByte_ge _ _
  have b2 : i < t.size ∨ i < 0 := by rw [hi, Lib.size_eq]; exact idx_lt _ _
  have HI := Lib.hid hi
  by_cases h0 : 0 ≤ i
  · obtain ⟨n, rfl⟩ := Int.eq_ofNat_of_zero_le h0
    have b3 : n < t.size := by omega
    have b4 : n ≤ t.size := by omega
    have b5 : n + 1 ≤ t.size := by omega
    have k1 : (n : Int) ≤ t.size := by omega
    have k2 : (n : Int) + 1 ≤ t.size := by omega
    have k3 : (0 : Int) ≤ (n : Int) + 1 := by omega
    have HL := Lib.hid (show cutL t = t.extract 0 n by unfold cutL; rw [← hi, if_pos h0]; rfl)
    have HR := Lib.hid (show cutR t = t.extract (n + 1) t.size by unfold cutR; rw [← hi, if_pos h0]; rfl)
    have HD := Lib.hid (show decide (0 ≤ bar t) = true by rw [← hi]; exact decide_eq_true h0)
    clear hi b2
    go_enter Tryd.func36, Tryd.ntmps36
    go_wp2_with (go_at_call 46; refine (Tryd.stringslite_Index_one t 124 _).mono ?_; rintro e w' ⟨rfl, rfl⟩; rw [show Lib.indexByte t.data.toList 124 = (n : Int) from HI.out.symm])
    have v1 : IntKind.i64.wrap ((n : Int) + 1) = (n : Int) + 1 := IntWalk.i64_in _ (by omega)
    have v2 : ((n : Int) + 1).toNat = n + 1 := by omega
    go_quiet (fail)
    clear v1 v2
    go_wp2
    go_ret3
    refine ⟨?_, below_drewN _ _⟩
    rw [HL.out, HR.out, HD.out]
    rfl
  · have HL := Lib.hid (show cutL t = t by unfold cutL; rw [← hi, if_neg h0])
    have HR := Lib.hid (show cutR t = ⟨#[]⟩ by unfold cutR; rw [← hi, if_neg h0])
    have HD := Lib.hid (show decide (0 ≤ bar t) = false by rw [← hi]; exact decide_eq_false h0)
    have h1 : i < 0 := by omega
    clear hi b2 h0
    go_enter Tryd.func36, Tryd.ntmps36
    go_wp2_with (go_at_call 46; refine (Tryd.stringslite_Index_one t 124 _).mono ?_; rintro e w' ⟨rfl, rfl⟩; rw [show Lib.indexByte t.data.toList 124 = i from HI.out.symm])
    go_ret3
    refine ⟨?_, Below.refl _ _⟩
    rw [HL.out, HR.out, HD.out]
    rfl

set_option maxHeartbeats 1000000 in
theorem cut_any (t : ByteArray) (w : World) (ht : t.size ≤ 140737488355328) :
    Calls Tryd.prog 27 #[.string t, .string ⟨#[124]⟩] w (Cuts t w) := by
  obtain ⟨l, hl⟩ : ∃ l, l = cutL t := ⟨_, rfl⟩
  obtain ⟨r, hr⟩ : ∃ r, r = cutR t := ⟨_, rfl⟩
  obtain ⟨d, hd⟩ : ∃ d, d = decide (0 ≤ bar t) := ⟨_, rfl⟩
  have hc := sliteCut_any t
  unfold Cuts at hc ⊢
  rw [← hl, ← hr, ← hd] at hc ⊢
  have HC := Lib.hid hc
  clear hc hl hr hd
  go_enter Tryd.func27, Tryd.ntmps27
  go_wp2_with (go_at_call 36; refine (HC.out _ ht).mono ?_; rintro e w' ⟨rfl, hb⟩)
  go_ret3
  exact ⟨rfl, hb⟩

/-! ### Spans -/
structure Sp where
  kind : Nat
  from_ : Nat
  to_ : Nat
  text : ByteArray
  shw : ByteArray
  id : Nat
  strong : Bool

def Sp.val (x : Sp) : Value := .agg #[.int .i64 x.kind, .int .i64 x.from_, .int .i64 x.to_, .string x.text, .string x.shw, .int .i64 x.id, .bool x.strong]

/-- The span of a token; it is not known whether it is within a bold part. -/
def spOf (s : ByteArray) (t : Tok) : Sp :=
  if t.kind = 0 then ⟨2, t.from_, t.to_, s.extract (t.from_ + 1) t.to_, ⟨#[]⟩, 0, false⟩
  else if t.kind = 1 then ⟨3, t.from_, t.to_, s.extract (t.from_ + 1) (t.to_ - 1), ⟨#[]⟩, 0, false⟩
  else if t.kind = 2 then ⟨4, t.from_, t.to_, cutL (s.extract (t.from_ + 2) (t.to_ - 2)), cutR (s.extract (t.from_ + 2) (t.to_ - 2)), 0, false⟩
  else if t.kind = 3 then ⟨5, t.from_, t.to_, s.extract (t.from_ + 2) (t.to_ - 2), ⟨#[]⟩, refIdN (s.extract (t.from_ + 2) (t.to_ - 2)), false⟩
  else if t.kind = 4 then ⟨6, t.from_, t.to_, s.extract (t.from_ + 1) t.to_, ⟨#[]⟩, 0, false⟩
  else ⟨7, t.from_, t.to_, s.extract t.from_ t.to_, ⟨#[]⟩, 0, false⟩

/-- What is known of a token. -/
structure TokOk (s : ByteArray) (t : Tok) : Prop where
  kind : t.kind < 6
  lt : t.from_ < t.to_
  le : t.to_ ≤ s.size
  two : t.kind = 1 ∨ t.kind = 2 ∨ t.kind = 3 → t.from_ + 4 ≤ t.to_ ∨ (t.kind = 1 ∧ t.from_ + 3 ≤ t.to_)
  dig : t.kind = 3 → ∀ c ∈ (s.extract (t.from_ + 2) (t.to_ - 2)).data.toList, cDigit c = true

theorem hit_ok {s : ByteArray} {a k : Nat} (ha : a < s.size) (hk : k < 6) (h : hit s a k = true) : TokOk s ⟨k, a, tokEnd s a k⟩ := by
  have hlt := hit_lt h
  have hle := tokEnd_le (k := k) ha
  refine ⟨hk, hlt, hle, ?_, ?_⟩
  · rintro (h1 | h1 | h1)
    · simp only at h1
      subst h1
      right
      refine ⟨rfl, ?_⟩
      show a + 3 ≤ tokEnd s a 1
      change a < tokEnd s a 1 at hlt
      have e : tokEnd s a 1 = codEnd s a := rfl
      rw [e] at hlt ⊢
      unfold codEnd at hlt ⊢
      split
      · rename_i h2; rw [if_pos h2] at hlt; omega
      · omega
    · simp only at h1
      subst h1
      left
      show a + 4 ≤ tokEnd s a 2
      change a < tokEnd s a 2 at hlt
      have e : tokEnd s a 2 = lnkEnd s a := rfl
      rw [e] at hlt ⊢
      unfold lnkEnd at hlt ⊢
      by_cases p1 : pre s a ⟨#[91, 91]⟩ = true
      · rw [if_pos p1] at hlt ⊢
        have b1 : a + 2 ≤ s.size := pre_le p1 (by omega)
        have b2 := runTo_le (cls := cTarget) b1
        by_cases p2 : isTgt (s.extract (a + 2) (runTo cTarget s (a + 2))) = true
        · rw [if_pos p2] at hlt ⊢
          by_cases p3 : pre s (runTo cTarget s (a + 2)) ⟨#[124]⟩ = true
          · rw [if_pos p3] at hlt ⊢
            have b3 : runTo cTarget s (a + 2) + 1 ≤ s.size := pre_le p3 b2.2
            have b4 := runTo_le (cls := cShown) b3
            split
            · rename_i p4; rw [if_pos p4] at hlt; omega
            · rename_i p4
              rw [if_neg p4] at hlt
              unfold eAfter at hlt ⊢
              split
              · show a + 4 ≤ _ + 2; omega
              · rename_i p5; rw [if_neg p5] at hlt; omega
          · rw [if_neg p3] at hlt ⊢
            unfold eAfter at hlt ⊢
            split
            · show a + 4 ≤ _ + 2; omega
            · rename_i p5; rw [if_neg p5] at hlt; omega
        · rw [if_neg p2] at hlt; omega
      · rw [if_neg p1] at hlt; omega
    · simp only at h1
      subst h1
      left
      show a + 4 ≤ tokEnd s a 3
      change a < tokEnd s a 3 at hlt
      have e : tokEnd s a 3 = rfEnd s a := rfl
      rw [e] at hlt ⊢
      unfold rfEnd at hlt ⊢
      by_cases p1 : pre s a ⟨#[40, 40]⟩ = true
      · rw [if_pos p1] at hlt ⊢
        have b1 : a + 2 ≤ s.size := pre_le p1 (by omega)
        have b2 := runTo_le (cls := cDigit) b1
        split
        · rename_i p2; rw [if_pos p2] at hlt; omega
        · rename_i p2
          rw [if_neg p2] at hlt
          unfold eAfter at hlt ⊢
          split
          · show a + 4 ≤ _ + 2; omega
          · rename_i p5; rw [if_neg p5] at hlt; omega
      · rw [if_neg p1] at hlt; omega
  · intro h1
    simp only at h1
    subst h1
    show ∀ c ∈ (s.extract (a + 2) (tokEnd s a 3 - 2)).data.toList, _
    change a < tokEnd s a 3 at hlt
    have e : tokEnd s a 3 = rfEnd s a := rfl
    rw [e] at hlt ⊢
    unfold rfEnd at hlt ⊢
    by_cases p1 : pre s a ⟨#[40, 40]⟩ = true
    · rw [if_pos p1] at hlt ⊢
      split
      · rename_i p2; rw [if_pos p2] at hlt; omega
      · rename_i p2
        rw [if_neg p2] at hlt
        unfold eAfter at hlt ⊢
        split
        · show ∀ c ∈ (s.extract (a + 2) (runTo cDigit s (a + 2) + 2 - 2)).data.toList, _
          rw [Nat.add_sub_cancel]
          exact run_digits
        · rename_i p5; rw [if_neg p5] at hlt; omega
    · rw [if_neg p1] at hlt; omega

theorem toksF_ok (s : ByteArray) : ∀ (n a : Nat), ∀ t ∈ toksF s n a, TokOk s t
  | 0, _, t, h => by simp [toksF] at h
  | n + 1, a, t, h => by
    unfold toksF at h
    split at h
    · rename_i ha
      split at h
      · rename_i k hk
        have hk6 := firstK_hit hk
        rcases List.mem_cons.1 h with rfl | h
        · exact hit_ok ha hk6.2 hk6.1
        · exact toksF_ok s n _ t h
      · exact toksF_ok s n _ t h
    · simp at h

/-- A block of seven cells. -/
theorem blk7 {w : World} {B : Nat} {v0 v1 v2 v3 v4 v5 v6 : Value} {T : TypeId} (h : w.heap[B]? = some (.cells #[v0, v1, v2, v3, v4, v5, v6] T (0, 0))) :
    (w.cell? ⟨B, 0, none⟩ = some v0 ∧ w.cell? ⟨B, 1, none⟩ = some v1 ∧ w.cell? ⟨B, 2, none⟩ = some v2 ∧ w.cell? ⟨B, 3, none⟩ = some v3 ∧ w.cell? ⟨B, 4, none⟩ = some v4 ∧ w.cell? ⟨B, 5, none⟩ = some v5 ∧ w.cell? ⟨B, 6, none⟩ = some v6) ∧
    (w.frozen? ⟨B, 0, none⟩ = false ∧ w.frozen? ⟨B, 1, none⟩ = false ∧ w.frozen? ⟨B, 2, none⟩ = false ∧ w.frozen? ⟨B, 3, none⟩ = false ∧ w.frozen? ⟨B, 4, none⟩ = false ∧ w.frozen? ⟨B, 5, none⟩ = false ∧ w.frozen? ⟨B, 6, none⟩ = false) :=
  ⟨⟨cell_of_row w B 0 _ T (0, 0) h, cell_of_row w B 1 _ T (0, 0) h, cell_of_row w B 2 _ T (0, 0) h, cell_of_row w B 3 _ T (0, 0) h, cell_of_row w B 4 _ T (0, 0) h, cell_of_row w B 5 _ T (0, 0) h, cell_of_row w B 6 _ T (0, 0) h⟩,
   ⟨frozen_of_row w B 0 _ T h, frozen_of_row w B 1 _ T h, frozen_of_row w B 2 _ T h, frozen_of_row w B 3 _ T h, frozen_of_row w B 4 _ T h, frozen_of_row w B 5 _ T h, frozen_of_row w B 6 _ T h⟩⟩
theorem two_new {w w1 : World} {A B : Obj} (hb : Below ((w.alloc A).alloc B).heap.size ((w.alloc A).alloc B) w1) :
    w1.heap[w.heap.size]? = some A ∧ w1.heap[w.heap.size + 1]? = some B ∧ Below w.heap.size w w1 ∧ w.heap.size + 1 < w1.heap.size := by
  have hs := hb.size
  simp only [World.size_alloc] at hs
  refine ⟨?_, ?_, (((Below.refl _ _).alloc (Nat.le_refl _) A).alloc (by simp) B).trans (hb.mono (by simp; omega)), by omega⟩
  · rw [hb.block _ (by simp; omega), Below.heap_alloc _ _ _ (by simp)]; exact heap_alloc_new w A
  · rw [hb.block _ (by simp)]
    have := heap_alloc_new (w.alloc A) B
    simpa using this
theorem two_new_drew {w w1 : World} {A B : Obj} (hb : Below ((w.alloc A).alloc B).drew.heap.size ((w.alloc A).alloc B).drew w1) :
    w1.heap[w.heap.size]? = some A ∧ w1.heap[w.heap.size + 1]? = some B ∧ Below w.heap.size w w1 ∧ w.heap.size + 1 < w1.heap.size :=
  two_new ⟨hb.os, hb.tape, hb.output, hb.size, hb.block⟩

set_option maxRecDepth 100000 in
set_option maxHeartbeats 4000000 in
theorem spanOf_any (s : ByteArray) (t : Tok) (w : World) (hs : s.size ≤ 140737488355328) (ht : TokOk s t) :
    Calls Tryd.prog 21 #[.string s, .int .i64 t.kind, .int .i64 t.from_, .int .i64 t.to_] w (Quiet w (spOf s t).val) := by
  obtain ⟨k, f, e⟩ := t
  obtain ⟨hk, hlt, hle, htwo, hdig⟩ := ht
  simp only at hk hlt hle htwo hdig ⊢
  have p1 : (f : Int) < e := by omega
  have p2 : (e : Int) ≤ s.size := by omega
  have p3 : (f : Int) + 1 ≤ e := by omega
  have p4 : (0 : Int) ≤ (f : Int) + 1 := by omega
  have p5 : (f : Int) ≤ e := by omega
  have H2 := Lib.hid htwo
  have HD := Lib.hid hdig
  clear htwo hdig
  have below2 : ∀ (o o' : Obj), Below w.heap.size w ((w.alloc o).alloc o') := fun o o' => ((Below.refl _ _).alloc (Nat.le_refl _) o).alloc (by simp) o'
  have HB := Lib.hid below2
  clear below2
  rcases (by omega : k = 0 ∨ k = 1 ∨ k = 2 ∨ k = 3 ∨ k = 4 ∨ k = 5) with rfl | rfl | rfl | rfl | rfl | rfl
  · clear hk
    go_enter Tryd.func21, Tryd.ntmps21
    go_wp2
    go_region
    go_wp2
    refine bodyPost_ret (v := (spOf s ⟨0, f, e⟩).val) ?_ rfl ?_
    · simp [results, Tryd.results21, go_sem]; rfl
    · exact ⟨rfl, (HB.out _ _).drew⟩
  · have b1 : f + 3 ≤ e := by have := H2.out (.inl rfl); omega
    have b2 : (f : Int) + 1 ≤ (e : Int) - 1 := by omega
    have b3 : (e : Int) - 1 ≤ s.size := by omega
    clear hk
    go_enter Tryd.func21, Tryd.ntmps21
    go_wp2
    go_region
    go_wp2
    refine bodyPost_ret (v := (spOf s ⟨1, f, e⟩).val) ?_ rfl ?_
    · simp [results, Tryd.results21, go_sem]; rfl
    · exact ⟨rfl, (HB.out _ _).drew⟩
  · have b1 : f + 4 ≤ e := by have := H2.out (.inr (.inl rfl)); omega
    have b2 : (f : Int) + 2 ≤ (e : Int) - 2 := by omega
    have b3 : (e : Int) - 2 ≤ s.size := by omega
    have b4 : (0 : Int) ≤ (f : Int) + 2 := by omega
    have bx : (s.extract (f + 2) (e - 2)).size ≤ 140737488355328 := by rw [ByteArray.size_extract]; omega
    clear hk
    go_enter Tryd.func21, Tryd.ntmps21
    go_wp2_with fail
    refine (cut_any _ _ bx).mono ?_
    rintro e1 w1 ⟨rfl, hb1⟩
    obtain ⟨hA, hB, hbw, hsz⟩ := two_new hb1
    obtain ⟨⟨a0, a1, a2, a3, a4, a5, a6⟩, f0, f1, f2, f3, f4, f5, f6⟩ := blk7 hA
    obtain ⟨⟨c0, c1, c2, c3, c4, c5, c6⟩, g0, g1, g2, g3, g4, g5, g6⟩ := blk7 hB
    clear hb1
    go_wp2
    refine bodyPost_ret (v := (spOf s ⟨2, f, e⟩).val) ?_ rfl ?_
    · simp [results, Tryd.results21, go_sem, a0, a1, a2, a3, a4, a5, a6]; rfl
    · refine ⟨rfl, ?_⟩
      repeat (with_reducible refine Below.setCell ?_ (by first | exact Nat.le_refl _ | exact Nat.le_succ _) _)
      exact hbw
  · have b1 : f + 4 ≤ e := by have := H2.out (.inr (.inr rfl)); omega
    have HD3 := Lib.hid (HD.out rfl)
    have b2 : (f : Int) + 2 ≤ (e : Int) - 2 := by omega
    have b3 : (e : Int) - 2 ≤ s.size := by omega
    have b4 : (0 : Int) ≤ (f : Int) + 2 := by omega
    have bx : (s.extract (f + 2) (e - 2)).size ≤ 140737488355328 := by rw [ByteArray.size_extract]; omega
    clear hk
    go_enter Tryd.func21, Tryd.ntmps21
    go_wp2
    go_region
    go_wp2_with fail
    refine (refId_any _ _ bx HD3.out).mono ?_
    rintro e1 w1 ⟨rfl, hb1⟩
    obtain ⟨hA, hB, hbw, hsz⟩ := two_new_drew hb1
    obtain ⟨⟨a0, a1, a2, a3, a4, a5, a6⟩, f0, f1, f2, f3, f4, f5, f6⟩ := blk7 hA
    obtain ⟨⟨c0, c1, c2, c3, c4, c5, c6⟩, g0, g1, g2, g3, g4, g5, g6⟩ := blk7 hB
    clear hb1
    go_wp2
    refine bodyPost_ret (v := (spOf s ⟨3, f, e⟩).val) ?_ rfl ?_
    · simp [results, Tryd.results21, go_sem, a0, a1, a2, a3, a4, a5, a6]; rfl
    · refine ⟨rfl, ?_⟩
      repeat (with_reducible refine Below.setCell ?_ (by first | exact Nat.le_refl _ | exact Nat.le_succ _) _)
      exact hbw
  · clear hk
    go_enter Tryd.func21, Tryd.ntmps21
    go_wp2
    go_region
    go_wp2
    refine bodyPost_ret (v := (spOf s ⟨4, f, e⟩).val) ?_ rfl ?_
    · simp [results, Tryd.results21, go_sem]; rfl
    · exact ⟨rfl, (HB.out _ _).drew⟩
  · clear hk
    go_enter Tryd.func21, Tryd.ntmps21
    go_wp2
    go_region
    go_wp2
    refine bodyPost_ret (v := (spOf s ⟨5, f, e⟩).val) ?_ rfl ?_
    · simp [results, Tryd.results21, go_sem]; rfl
    · exact ⟨rfl, (HB.out _ _).drew⟩
end Go.Proofs.YtdhaanlgijikeaaDoor
