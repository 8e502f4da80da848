/- Renumber. -/
import Derived.Test.YticdapkljbillaaGreatDoorTgI
import Derived.WalkKit
import Derived.Lib.Hide
import Derived.Outline
import Derived.Deep.QuietTactic
import Derived.BigQuiet
import Derived.Laws.EntriesVeiled
namespace Go.Proofs.YticdapkljbillaaGreatDoor
open Go.RowKit Go.Maps

theorem id_le (s : ByteArray) : ∀ x ∈ spans s, x.id ≤ 1000000 := by
  refine spans_all (P := fun x => x.id ≤ 1000000) (fun a b n _ _ => by simp [plainSp]) (fun t ht b => ?_)
  show (spOf s t).id ≤ 1000000
  unfold spOf
  repeat' split
  all_goals first
    | exact refIdN_le _
    | exact Nat.zero_le _

theorem rn_visits (b S M m nn : Nat) (s : ByteArray) (f : Int → Option Int) (D : DataW Unit) (W0 : World) (hD : MapIs D f) (hf : Small f) (hs : s.size ≤ 1048576) :
    Visits Tryz.prog 21 #[.pointer (some ⟨M, 0, none⟩), .pointer (some ⟨b, 0, none⟩), .pointer (some ⟨S, 0, none⟩)] spArgs (spans s) (RnI b S M m nn s f D W0) where
  enter := enters_of Tryz.func21 (by kernel_rfl) rfl
  lt := by
    rintro done F w ⟨Fb, hB, hS, hn, rfl⟩ k (hk | hk)
    · exact hB.lt k hk
    · exact hS.lt k hk
  loc := by
    rintro done F w w' ⟨Fb, hB, hS, hn, rfl⟩ hk _
    exact ⟨Fb, hB.loc (fun k h => hk k (.inl h)), hS.kept (fun k h => hk k (.inr h)), hn, rfl⟩
  step := by
    intro done x post F w ha h
    have hm : x ∈ spans s := by rw [ha]; simp
    have h1 := id_le s x hm
    have h2 := rn_le hf s done _ ha
    refine (rn_step b S M m nn s f D W0 done x F w h hD hf ((spans_row s).mem x hm) (by omega) (by omega) (by omega)).mono ?_
    rintro e w' ⟨rfl, F', h1, h2⟩
    exact ⟨rfl, F', h1, h2⟩

theorem rn_start {S m nn : Nat} {s : ByteArray} {f : Int → Option Int} {D : DataW Unit} {w : World} (hS : One w S (.string s) 9) (hm : w.ownsMap Tryz.prog 3 (plainElem (H := Unit) Tryz.prog 3) m nn D) (ht : Tab w) :
    RnI (w.heap.size + 1) S w.heap.size m nn s f D ((w.alloc (.cells #[.map (some m)] 40)).alloc (.cells #[.pointer none, .slice none 0 0] 45)) [] (fun k => k = w.heap.size + 1 ∨ StB S w.heap.size m k) ((w.alloc (.cells #[.map (some m)] 40)).alloc (.cells #[.pointer none, .slice none 0 0] 45)) := by
  have hb : Below w.heap.size w ((w.alloc (.cells #[.map (some m)] 40)).alloc (.cells #[.pointer none, .slice none 0 0] 45)) := ((Below.refl _ _).alloc (Nat.le_refl _) _).alloc (by simp) _
  have l1 := hS.lt
  have l2 := hm.lt
  have l3 := ht.lt
  refine ⟨fun k => k = w.heap.size + 1, ⟨.pointer none, .slice none 0 0, .inl rfl, ?_, World.ownsRow_nil _ _ _ _, by simp [Value.ownBlock], ?_⟩, ⟨fun _ _ => rfl, ?_, ?_, ?_, ?_⟩, ?_, rfl⟩
  · have := heap_alloc_new (w.alloc (.cells #[.map (some m)] 40)) (.cells #[.pointer none, .slice none 0 0] 45)
    simpa using this
  · funext k; simp [Value.ownBlock]
  · exact hS.kept (hb.block S l1)
  · unfold One
    rw [Below.heap_alloc _ _ _ (by simp)]
    exact heap_alloc_new w _
  · exact (hm.alloc _).alloc _
  · exact ht.kept (hb.block _ l3)
  · rintro k (rfl | rfl | rfl | rfl) e <;> omega

set_option maxRecDepth 100000 in
set_option maxHeartbeats 8000000 in
theorem renumber_any (s : ByteArray) (fs ts : List Int) (vf vt : Value) (w : World) (hs : s.size ≤ 1048576) (hf : IntsAt w w.heap.size fs vf) (ht : IntsAt w w.heap.size ts vt) (htab : Tab w) :
    Calls Tryz.prog 9 #[.string s, vf, vt] w (Quiet w (.tuple #[.string (rnRes s fs ts).1, .int .i64 (rnRes s fs ts).2])) := by
  obtain ⟨R, hR⟩ : ∃ R, R = rnRes s fs ts := ⟨_, rfl⟩
  rw [← hR]
  have HRES := Lib.hid hR
  clear hR
  have hmf : ∀ (fn : Fn) (first cap : Array Value) (w : World), (Instr.makeFunc fn first cap).run Tryz.prog w = .ok (.func fn first cap) w := fun _ _ _ _ => rfl
  obtain ⟨W1, hW1⟩ : ∃ W1, W1 = w.alloc (.cells #[.string s] 9) := ⟨_, rfl⟩
  have hb1 : Below w.heap.size w W1 := by rw [hW1]; exact (Below.refl _ _).alloc (Nat.le_refl _) _
  have hz1 : W1.heap.size = w.heap.size + 1 := by rw [hW1]; simp
  have hS1 : One W1 w.heap.size (.string s) 9 := by rw [hW1]; exact heap_alloc_new w _
  have upI : ∀ {zs v}, IntsAt w w.heap.size zs v → IntsAt W1 W1.heap.size zs v := fun {zs v} h => by
    have h2 := h.below hb1
    obtain ⟨A, c, e, h1⟩ := h2.sl
    refine ⟨⟨A, c, e, ?_⟩, h2.len, h2.wf⟩
    rcases h1 with h1 | ⟨b, off, ea, hlt, hc⟩
    · exact .inl h1
    · exact .inr ⟨b, off, ea, by omega, hc⟩
  have HF := Lib.hid (upI hf)
  have HT := Lib.hid (upI ht)
  have HTAB := Lib.hid (htab.kept (hb1.block _ htab.lt))
  have hlf := hf.len
  have hlt' := ht.len
  obtain ⟨A1, c1, rfl, -⟩ := hf.sl
  obtain ⟨A2, c2, rfl, -⟩ := ht.sl
  obtain ⟨n1, hn1⟩ : ∃ n1, n1 = fs.length := ⟨_, rfl⟩
  obtain ⟨n2, hn2⟩ : ∃ n2, n2 = ts.length := ⟨_, rfl⟩
  rw [← hn1] at hlf
  rw [← hn2] at hlt'
  rw [← hn1] at HF ⊢
  rw [← hn2] at HT ⊢
  have HN1 := Lib.hid hn1
  have HN2 := Lib.hid hn2
  have HB1 := Lib.hid hb1
  have HS1 := Lib.hid hS1
  have HZ1 := Lib.hid hz1
  have HW1 := Lib.hid hW1
  clear hf ht htab upI hb1 hS1 hz1 hn1 hn2 hW1
  by_cases hne : n1 = n2
  · obtain rfl : n1 = n2 := hne
    have hn2' : (n1 : Int) ≤ 4000000 := by omega
    have hq : ((n1 : Int) != (n1 : Int)) = false := by simp
    have hleq : fs.length = ts.length := by rw [← HN1.out, ← HN2.out]
    have HLEQ := Lib.hid hleq
    clear hleq
    go_enter Tryz.func9, Tryz.ntmps9
    go_wp2_with fail
    rw [← HW1.out]
    go_loop [19] (fun i => ∃ k : Nat, k ≤ n1 ∧ i = .int .i64 k ∧ Hid (∀ j, j < k → 1 ≤ ts.getD j 0 ∧ ts.getD j 0 ≤ 1000000)) (fun i => n1 - (intOf i).toNat)
    case atStart => exact ⟨0, Nat.zero_le _, rfl, Lib.hid (fun j hj => absurd hj (by omega))⟩
    case round =>
      obtain ⟨k, hk, rfl, hall⟩ := hrel
      by_cases hlt : k < n1
      · have hkt : k < ts.length := by rw [← HN2.out]; exact hlt
        have p1 : (k : Int) < n1 := by omega
        obtain ⟨A, c, e, hc⟩ := HT.out.sl
        injection e with e1 e2 e3
        subst e1 e3
        obtain ⟨b2, o2, rfl, l2, d2⟩ : ∃ b off, A2 = some ⟨b, off, none⟩ ∧ b < W1.heap.size ∧ ∀ j, j < ts.length → W1.cell? ⟨b, off + j, none⟩ = some (.int .i64 (ts.getD j 0)) := by
          rcases hc with h | h
          · rw [h] at hkt; exact absurd hkt (by simp)
          · exact h
        have e5 := d2 k hkt
        have hw := HT.out.wf _ (getD_mem hkt)
        obtain ⟨y, hy⟩ : ∃ y, y = ts.getD k 0 := ⟨_, rfl⟩
        rw [← hy] at e5 hw
        have HY := Lib.hid hy
        clear hy d2 hc e2
        by_cases h1 : y < 1
        · have hr := rn_range (s := s) HLEQ.out (okTs_false hkt (.inl (by rw [← HY.out]; exact h1)))
          have HR : Hid (R = (⟨#[]⟩, 2)) := Lib.hid (by rw [HRES.out]; exact hr)
          clear hr
          go_wp2_with fail
          go_ret2
          exact ⟨by rw [HR.out]; rfl, HB1.out⟩
        · by_cases h2 : 1000000 < y
          · have hr := rn_range (s := s) HLEQ.out (okTs_false hkt (.inr (by rw [← HY.out]; exact h2)))
            have HR : Hid (R = (⟨#[]⟩, 2)) := Lib.hid (by rw [HRES.out]; exact hr)
            clear hr
            go_wp2_with fail
            go_ret2
            exact ⟨by rw [HR.out]; rfl, HB1.out⟩
          · go_wp2_with fail
            go_round
            case rel => exact ⟨k + 1, by omega, by go_num, Lib.hid (fun j hj => by
              rcases Nat.lt_succ_iff_lt_or_eq.1 hj with h | rfl
              · exact hall.out j h
              · rw [← HY.out]; omega)⟩
            case measure => simp [intOf]; omega
      · have p1 : ¬ (k : Int) < n1 := by omega
        have hok : okTs ts = true := okTs_true fun j hj => hall.out j (by rw [← HN2.out] at hj; omega)
        have hsm := nxt_small (fs := fs) hok
        have HOK := Lib.hid hok
        have HSM := Lib.hid hsm
        clear hok hsm hall hlt
        go_wp2_with fail
        refine (firstOf_any fs ts _ _ _ HF.out HT.out HLEQ.out).mono ?_
        rintro e2 w2 ⟨D, rfl, hown, hD, hb2⟩
        have hS2 : One w2 w.heap.size (.string s) 9 := HS1.out.kept (hb2.block _ HS1.out.lt)
        have ht2 : Tab w2 := HTAB.out.kept (hb2.block _ HTAB.out.lt)
        have hst := rn_start (f := nxt (prs fs ts)) hS2 hown ht2
        have HST := Lib.hid hst
        have HD := Lib.hid hD
        have HB2 := Lib.hid (HB1.out.trans (hb2.mono HB1.out.size))
        have cS : w2.cell? ⟨w.heap.size, 0, none⟩ = some (.string s) := hS2.cell
        have lS := hS2.lt
        have hsz2 := hb2.size
        have HSZ := Lib.hid (HZ1.out)
        clear hown hD hb2 hS2 ht2 hst
        go_wp2_with fail
        refine (eachSpan_any s _ _ _ _ _ (by omega) (rn_visits (w2.heap.size + 1) w.heap.size w2.heap.size W1.heap.size fs.length s _ D _ HD.out HSM.out hs) HST.out).mono ?_
        rintro e3 w3 ⟨rfl, F3, ⟨Fb, hB, hS3, hn3, hF3⟩, hg⟩
        have hz1 := HZ1.out
        have hlo : ∀ k, Fb k → w.heap.size ≤ k := fun k hk => by
          rcases hg.new k (by rw [hF3]; exact .inl hk) with (h | h) | h
          · omega
          · exact absurd hk (hn3 k h)
          · simp at h; omega
        have hb2' := HB2.out
        have hW0 : Below w.heap.size w ((w2.alloc (.cells #[.map (some W1.heap.size)] 40)).alloc (.cells #[.pointer none, .slice none 0 0] 45)) := (hb2'.alloc hb2'.size _).alloc (by simp; have := hb2'.size; omega) _
        have hbl : Below w.heap.size w w3 := by
          refine ⟨hg.out.os.trans hW0.os, hg.out.tape.trans hW0.tape, hg.out.output.trans hW0.output, Nat.le_trans hW0.size hg.out.size, fun k hk => ?_⟩
          refine Eq.trans ?_ (hW0.block k hk)
          by_cases hst : StB w.heap.size w2.heap.size W1.heap.size k
          · exact hS3.same k hst
          · refine hg.out.block k (by have := hW0.size; omega) ?_
            rintro (h | h)
            · omega
            · exact hst h
        have HIB := Lib.hid (hB.isBuilder hlo)
        have HBL := Lib.hid hbl
        have hlen : (Lib.byteCells (rnL (nxt (prs fs ts)) s (spans s))).length = (rnL (nxt (prs fs ts)) s (spans s)).length := by simp [Lib.byteCells]
        have hbd := rn_le HSM.out s (spans s) [] (by simp)
        obtain ⟨L, hL⟩ : ∃ L, L = rnL (nxt (prs fs ts)) s (spans s) := ⟨_, rfl⟩
        rw [← hL] at hlen hbd HIB
        have HLN := Lib.hid (fun W => by have h := Tryz.Builder_Len w.heap.size (w2.heap.size + 1) (Lib.byteCells L) W; rw [hlen] at h; exact h)
        have HST2 := Lib.hid (Tryz.Builder_String_any w.heap.size (w2.heap.size + 1) L w3 HIB.out HBL.out.size)
        clear hB hS3 hn3 hF3 hg hlo hW0 hbl hb2' hlen
        go_wp2_with fail
        refine (HLN.out w3 HIB.out).mono ?_
        rintro e4 w4 ⟨rfl, hw⟩
        rw [hw]
        clear hw
        by_cases h2 : 2000 < L.length
        · have hr := rn_large HLEQ.out HOK.out (by rw [← hL]; exact h2)
          have HR : Hid (R = (⟨#[]⟩, 4)) := Lib.hid (by rw [HRES.out]; exact hr)
          have p3 : (2000 : Int) < L.length := by omega
          clear hr hL h2
          go_wp2_with fail
          go_ret2
          exact ⟨by rw [HR.out]; rfl, HBL.out⟩
        · have hr := rn_ok HLEQ.out HOK.out (by rw [← hL]; exact h2)
          have HR : Hid (R = (⟨L.toArray⟩, 0)) := Lib.hid (by rw [HRES.out, hr, hL])
          have p3 : ¬ (2000 : Int) < L.length := by omega
          clear hr hL h2
          go_wp2_with fail
          refine HST2.out.mono ?_
          rintro e5 w5 ⟨rfl, hb5⟩
          have HB5 := Lib.hid (HBL.out.trans hb5)
          clear hb5
          go_wp2_with fail
          go_ret2
          exact ⟨by rw [HR.out]; rfl, HB5.out⟩
  · have hr := rn_form (s := s) (fs := fs) (ts := ts) (by rw [← HN1.out, ← HN2.out]; exact hne)
    have HR : Hid (R = (⟨#[]⟩, 1)) := Lib.hid (by rw [HRES.out]; exact hr)
    have hq : ((n1 : Int) != (n2 : Int)) = true := by simp; omega
    have hq2 : ((n1 : Int) == (n2 : Int)) = false := by simp; omega
    clear hr hne
    go_enter Tryz.func9, Tryz.ntmps9
    go_wp2_with fail
    go_ret2
    exact ⟨by rw [HR.out]; rfl, by rw [← HW1.out]; exact HB1.out⟩
end Go.Proofs.YticdapkljbillaaGreatDoor
