/- Package text: the law TextLed, walked. -/
import Derived.Test.YtdhaanlgijikeaaDoorTlB
namespace Go.Proofs.YtdhaanlgijikeaaDoor
open Go.RowKit

theorem sp_flat : ∀ (l : List Sp) (j : Nat) (h : j < l.length) (c : Nat), c < 7 → (l.flatMap Sp.cells)[j * 7 + c]? = (l[j]).cells[c]?
  | x :: l, 0, _, c, hc => by
    rw [List.flatMap_cons, List.getElem?_append_left (by rw [Sp.cells_len]; omega), Nat.zero_mul, Nat.zero_add]
    rfl
  | x :: l, j + 1, h, c, hc => by
    rw [List.flatMap_cons, List.getElem?_append_right (by rw [Sp.cells_len]; omega), Sp.cells_len]
    have e : (j + 1) * 7 + c - 7 = j * 7 + c := by omega
    rw [e, sp_flat l j (by simpa using h) c hc]
    rfl
theorem own_keepT {w w' : World} {B base n size : Nat} {e : TypeId} {v : Value} {xs : List Value} (h : w.ownsRow base e size v n xs) (hb : Below B w w') (hB : w.heap.size ≤ B) : w'.ownsRow base e size v n xs := by
  refine ⟨h.1, ?_⟩
  rcases h.2 with h0 | ⟨g, cap, cur, e1, hg, hc, r⟩
  · exact .inl h0
  · exact .inr ⟨g, cap, cur, e1, hg, (hb.block g (by have := (h.lt g (by rw [e1]; rfl)).2; omega)).trans hc, r⟩
/-- A list of spans lies in memory below block B. -/
def SpLies (w : World) (B : Nat) (l : List Sp) (A : Option Addr) (c : Nat) : Prop :=
  l.length ≤ c ∧ (0 < l.length → ∃ g, A = some ⟨g, 0, none⟩ ∧ g < B ∧ ∀ j (h : j < l.length) q u, q < 7 → (l[j]).cells[q]? = some u → w.cell? ⟨g, j * 7 + q, none⟩ = some u)
theorem lies_of {w : World} {base : Nat} {l : List Sp} {v : Value} (h : w.ownsRow base 29 7 v l.length (l.flatMap Sp.cells)) : ∃ A c, v = .slice A l.length c ∧ SpLies w w.heap.size l A c := by
  have h' := h
  rcases h.2 with ⟨h0, h1⟩ | ⟨g, cap, cur, e1, hg, hc, h2, h3, r⟩
  · exact ⟨none, 0, by rw [h0, h1], by omega, fun h => by omega⟩
  · subst e1
    refine ⟨_, cap, rfl, h2, fun _ => ⟨g, rfl, (h.lt g rfl).2, fun j hj q u hq hu => ?_⟩⟩
    exact (h'.cellAt (j * 7 + q) (by omega)).trans ((sp_flat l j hj q hq).trans hu)
theorem SpLies.next {w w' : World} {B : Nat} {l : List Sp} {A : Option Addr} {c : Nat} (h : SpLies w B l A c) (hb : Below B w w') : SpLies w' B l A c := by
  refine ⟨h.1, fun h0 => ?_⟩
  obtain ⟨g, e, hg, hc⟩ := h.2 h0
  exact ⟨g, e, hg, fun j hj q u hq hu => (hb.cell (p := ⟨g, j * 7 + q, none⟩) hg).trans (hc j hj q u hq hu)⟩

theorem below_dr {B : Nat} {a w : World} (h : Below B a w) : Below B a w.drew := ⟨h.os, h.tape, h.output, h.size, h.block⟩

set_option maxRecDepth 100000 in
set_option maxHeartbeats 20000000 in
theorem textLed_any (s : ByteArray) (lk : Int) (tg : ByteArray) (w : World) (hs : s.size ≤ 140737488355328) (ht : tg.size ≤ 140737488355328) :
    Calls Tryd.prog 3 #[.string s, .int .i64 lk, .string tg] w (Quiet w (.bool true)) := by
  have HA := Lib.hid (fun W => awakeText_any W)
  have HR := Lib.hid (fun W => retarget_any s lk tg W hs ht)
  have HC := led_cases s lk tg
  obtain ⟨t, ht1⟩ : ∃ t, t = (rtRes s lk tg).1 := ⟨_, rfl⟩
  obtain ⟨e, he⟩ : ∃ e, e = (rtRes s lk tg).2 := ⟨_, rfl⟩
  rw [← ht1, ← he] at HC HR
  clear ht1 he
  rcases HC with ⟨h1, h2⟩ | ⟨h1, h2, h21, h3⟩
  · subst h2
    have q0 : ((e : Int) != 0) = true := by simp; omega
    clear h1
    go_enter Tryd.func3, Tryd.ntmps3
    go_wp2_with fail
    refine (HA.out _).mono ?_
    rintro e1 w1 ⟨rfl, hb1⟩
    have HB1 := Lib.hid hb1
    clear hb1
    go_wp2_with fail
    refine (HR.out _).mono ?_
    rintro e2 w2 ⟨rfl, hb2⟩
    have HB2 := Lib.hid (HB1.out.trans (hb2.mono HB1.out.size))
    clear hb2
    go_wp2_with fail
    go_ret
    exact ⟨rfl, HB2.out⟩
  · subst h1
    have HL := Lib.hid h3
    have hla := spans_count (spans_row s)
    have hll := h3.len
    have HSA := Lib.hid (fun W => spans_any s W (by omega))
    have HSB := Lib.hid (fun W => spans_any t W (by omega))
    clear h3
    generalize spans s = a at HL hla hll HSA
    generalize spans t = b at HL hll HSB
    obtain ⟨n, hn⟩ : ∃ n, n = a.length := ⟨_, rfl⟩
    have HNA := Lib.hid hn
    have HNB : Hid (n = b.length) := Lib.hid (hn.trans hll)
    have hn2 : n ≤ 1048576 := by omega
    clear hla hll hn
    go_enter Tryd.func3, Tryd.ntmps3
    go_wp2_with fail
    refine (HA.out _).mono ?_
    rintro e1 w1 ⟨rfl, hb1⟩
    have HB1 := Lib.hid hb1
    clear hb1
    go_wp2_with fail
    refine (HR.out _).mono ?_
    rintro e2 w2 ⟨rfl, hb2⟩
    have HB2 := Lib.hid (HB1.out.trans (hb2.mono HB1.out.size))
    clear hb2
    go_wp2_with fail
    refine (HSA.out _).mono ?_
    rintro e3 w3 ⟨v3, rfl, ho3, hb3⟩
    have HB3 := Lib.hid (HB2.out.trans (hb3.mono HB2.out.size))
    have HO3 := Lib.hid ho3
    clear hb3 ho3
    go_wp2_with fail
    refine (HSB.out _).mono ?_
    rintro e4 w4 ⟨v4, rfl, ho4, hb4⟩
    have HB4 := Lib.hid (HB3.out.trans (hb4.mono HB3.out.size))
    have ho3 := own_keepT HO3.out hb4 (Nat.le_refl _)
    obtain ⟨A1, c1, rfl, hl1⟩ := lies_of ho3
    obtain ⟨A2, c2, rfl, hl2⟩ := lies_of ho4
    have HL1 := Lib.hid hl1
    have HL2 := Lib.hid hl2
    rw [← HNA.out, ← HNB.out]
    clear hb4 ho4 ho3 hl1 hl2 HO3 HSA HSB HR HA
    go_wp2_with fail
    go_loopw [11, 40] (fun nv iv wx => ∃ j : Nat, iv = .int .i64 j ∧ nv = .int .i64 (links4 (a.take j)) ∧ j ≤ n ∧ Hid (Below w4.heap.size w4 wx)) (fun _ iv _ => n - (intOf iv).toNat)
    case atStart => exact ⟨0, rfl, rfl, Nat.zero_le _, Lib.hid (Below.refl _ _)⟩
    case round =>
      obtain ⟨j, rfl, rfl, hjn, HW⟩ := hrel
      by_cases hj : j < n
      · have hja : j < a.length := by rw [← HNA.out]; exact hj
        have hjb : j < b.length := by rw [← HNB.out]; exact hj
        have p2 : (j : Int) < n := by omega
        obtain ⟨g1, rfl, hg1, hc1⟩ := (HL1.out.next HW.out).2 (by omega)
        obtain ⟨g2, rfl, hg2, hc2⟩ := (HL2.out.next HW.out).2 (by omega)
        have hc1' := hc1 j hja
        have hc2' := hc2 j hjb
        obtain ⟨f1, f2, f3, f4, f5⟩ := HL.out.at_ j hja hjb
        have hct := links4_take hja
        have hcl := links4_le (a.take j)
        rw [List.length_take] at hcl
        rcases hx : a[j] with ⟨k, xf, xt, tx, sh, id, st⟩
        rcases hy : b[j] with ⟨k', yf, yt, ty, sh', id', st'⟩
        rw [hx] at hc1' f1 f2 f3 f4 f5 hct
        rw [hy] at hc2' f1 f2 f3 f4 f5
        simp only at f1 f2 f3 f4 f5 hct
        subst f1 f2 f3 f4
        have a0 := hc1' 0 _ (by omega) rfl
        have a1 := hc1' 1 _ (by omega) rfl
        have a2 := hc1' 2 _ (by omega) rfl
        have a3 := hc1' 3 _ (by omega) rfl
        have a4 := hc1' 4 _ (by omega) rfl
        have a5 := hc1' 5 _ (by omega) rfl
        have a6 := hc1' 6 _ (by omega) rfl
        have b0 := hc2' 0 _ (by omega) rfl
        have b1 := hc2' 1 _ (by omega) rfl
        have b2 := hc2' 2 _ (by omega) rfl
        have b3 := hc2' 3 _ (by omega) rfl
        have b4 := hc2' 4 _ (by omega) rfl
        have b5 := hc2' 5 _ (by omega) rfl
        have b6 := hc2' 6 _ (by omega) rfl
        simp only [Nat.add_zero] at a0 b0
        generalize links4 (a.take j) = m at hct hcl f5 ⊢
        have HT := Lib.hid f5
        have HCT := Lib.hid hct
        have hszw := HW.out.size
        have l1 : g1 < wr.heap.size := by omega
        have l2 : g2 < wr.heap.size := by omega
        clear hc1 hc2 hc1' hc2' hx hy f5 hct hja hjb
        by_cases hk : k' = 4
        · have q4 : ((k' : Int) == 4) = true := by rw [hk]; rfl
          have HN4 : Hid ((links4 (a.take (j + 1)) : Int) = (m : Int) + 1) := Lib.hid (by rw [HCT.out, if_pos hk]; rfl)
          by_cases hm : (m : Int) = lk
          · have qm : ((m : Int) == lk) = true := by rw [hm]; simp
            have hty := HT.out
            rw [if_pos ⟨hk, hm⟩] at hty
            subst hty
            clear HT HCT hk hm
            go_wp2_with fail
            go_region_law (fail)
            all_goals (go_wp2_with fail)
            all_goals go_roundw
            all_goals first
              | exact ⟨j + 1, by go_num, by rw [HN4.out], hj, Lib.hid (below_dr ((HW.out.alloc hszw _).alloc (by simp; omega) _))⟩
              | (simp [intOf]; omega)
          · have qm : ((m : Int) == lk) = false := by simpa using hm
            have hty := HT.out
            rw [if_neg (fun h => hm h.2)] at hty
            subst hty
            clear HT HCT hk hm
            go_wp2_with fail
            go_region_law (fail)
            all_goals (go_wp2_with fail)
            all_goals go_roundw
            all_goals first
              | exact ⟨j + 1, by go_num, by rw [HN4.out], hj, Lib.hid (below_dr ((HW.out.alloc hszw _).alloc (by simp; omega) _))⟩
              | (simp [intOf]; omega)
        · have q4 : ((k' : Int) == 4) = false := by simp; omega
          have HN4 : Hid ((links4 (a.take (j + 1)) : Int) = (m : Int)) := Lib.hid (by rw [HCT.out, if_neg hk]; rfl)
          have hty := HT.out
          rw [if_neg (fun h => hk h.1)] at hty
          subst hty
          clear HT HCT hk
          go_wp2_with fail
          go_region_law (fail)
          all_goals (go_wp2_with fail)
          all_goals go_roundw
          all_goals first
            | exact ⟨j + 1, by go_num, by rw [HN4.out], hj, Lib.hid (below_dr ((HW.out.alloc hszw _).alloc (by simp; omega) _))⟩
            | (simp [intOf]; omega)
      · obtain rfl : j = n := by omega
        have p2 : ¬ (j : Int) < j := by omega
        go_wp2_with fail
        go_ret
        exact ⟨rfl, HB4.out.trans (HW.out.mono HB4.out.size)⟩
end Go.Proofs.YtdhaanlgijikeaaDoor
