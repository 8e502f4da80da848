/- Templates: parseTemplate of the program. -/
import Derived.Test.YtcnhklnjgknffaaTcE
namespace Go.Proofs.Ytcnhklnjgknffaa
open Go.RowKit Go.Shelf

structure PcT where
  nm : ByteArray
  ho : Bool
  tx : ByteArray
def PcT.cells (p : PcT) : List Value := [.string p.nm, .bool p.ho, .string p.tx]
theorem pc_cells_len (L : List PcT) : (L.flatMap PcT.cells).length = L.length * 3 := by
  induction L with
  | nil => rfl
  | cons p L ih => rw [List.flatMap_cons, List.length_append, ih, List.length_cons]; simp [PcT.cells]; omega
/-- The names among the pieces. -/
def pName1 (p : PcT) : List (List UInt8) := if p.nm.data.toList = [] then [] else [p.nm.data.toList]
def pNames (L : List PcT) : List (List UInt8) := L.flatMap pName1
theorem pNames_snoc (L : List PcT) (p : PcT) : pNames (L ++ [p]) = pNames L ++ pName1 p := by unfold pNames; simp
theorem pName1_none (ho : Bool) (tx : ByteArray) : pName1 ⟨⟨#[]⟩, ho, tx⟩ = [] := rfl
theorem extract_some {s : ByteArray} {a k : Nat} (h : a < k) (hk : k ≤ s.size) : (s.extract a k).data.toList ≠ [] := by
  intro e
  have h1 := congrArg List.length e
  rw [← Lib.size_eq, ByteArray.size_extract] at h1
  simp at h1
  omega
theorem pName1_some {s : ByteArray} {a k : Nat} (h : a < k) (hk : k ≤ s.size) (ho : Bool) (tx : ByteArray) : pName1 ⟨s.extract a k, ho, tx⟩ = [(s.extract a k).data.toList] := by
  unfold pName1
  rw [if_neg (extract_some h hk)]
/-- Pieces in a list of one's own. -/
structure OwnP (W : World) (L : List PcT) (v : Value) (wx : World) : Prop where
  bel : Below W.heap.size W wx
  own : wx.ownsRow W.heap.size 39 3 v L.length (L.flatMap PcT.cells)
theorem OwnP.nil {W wx : World} (hb : Below W.heap.size W wx) : OwnP W [] (.slice none 0 0) wx := ⟨hb, World.ownsRow_nil _ _ _ _⟩
theorem OwnP.later {W w w' : World} {L : List PcT} {v : Value} (h : OwnP W L v w) (hb : Below w.heap.size w w') : OwnP W L v w' :=
  ⟨h.bel.trans (hb.mono h.bel.size), own_kept h.own (fun g hg => hb.block g (h.own.lt g hg).2)⟩
theorem OwnP.push {W w w4 : World} {L : List PcT} {v : Value} (h : OwnP W L v w) {o : Obj} {p : PcT} {gg cap : Nat}
    (ho4 : w4.ownsRow W.heap.size 39 3 (.slice (some ⟨gg, 0, none⟩) (L.length + 1) cap) (L.length + 1) (L.flatMap PcT.cells ++ [.string p.nm, .bool p.ho, .string p.tx])) (hg : (w.alloc o).grownBy w4 v.ownBlock) :
    OwnP W (L ++ [p]) (.slice (some ⟨gg, 0, none⟩) (L.length + 1) cap) w4 := by
  have hle := h.bel.size
  refine ⟨(h.bel.alloc hle o).grown hg (by simp; omega) (fun k hk => (h.own.lt k hk).1), ?_⟩
  rw [List.length_append, List.flatMap_append]
  exact ho4
theorem infoPc : (Try.prog.info? 39).map (fun i => (i.zero, i.size, i.bytes)) = some (some (.agg #[.string ⟨#[]⟩, .bool false, .string ⟨#[]⟩]), 3, 40) := by kernel_rfl
theorem three_news (w : World) (a b c : Value) (T : TypeId) : ∀ q u, [a, b, c][q]? = some u → (w.alloc (.cells #[a, b, c] T)).cell? ((⟨w.heap.size, 0, none⟩ : Addr).add q) = some u := by
  intro q u hq
  have h := heap_alloc_new w (.cells #[a, b, c] T)
  have e1 : (⟨w.heap.size, 0, none⟩ : Addr).add q = ⟨w.heap.size, q, none⟩ := by
    unfold Addr.add
    split
    · rename_i h0; subst h0; rfl
    · simp
  rw [e1, cell_of_row _ _ q _ _ (0, 0) h, List.getElem?_toArray]
  exact hq
/-- internal/bytealg.MaxLen holds some number. -/
def MaxL (w : World) : Prop := ∃ m, w.cell? ⟨0, 0, none⟩ = some (.int .i64 m)
theorem MaxL.below {w w' : World} (h : MaxL w) (hb : Below w.heap.size w w') : MaxL w' := by
  obtain ⟨m, hm⟩ := h
  exact ⟨m, (hb.cell (p := ⟨0, 0, none⟩) (World.block_lt_of_cell? w _ hm)).trans hm⟩
/-- What parseTemplate gives. -/
def ParseIs (s : ByteArray) (w : World) (e : Ending) (w' : World) : Prop :=
  Below w.heap.size w w' ∧
  ((400000 < s.size ∧ e = .returned (.tuple #[.slice none 0 0, .int .i64 0, .int .i64 4])) ∨
   (s.size ≤ 400000 ∧ ∃ R, Scan s 0 [] R ∧
     ((∃ p, R = .err p ∧ e = .returned (.tuple #[.slice none 0 0, .int .i64 p, .int .i64 8])) ∨
      (∃ N, R = .ok N ∧ 40 < N.length ∧ e = .returned (.tuple #[.slice none 0 0, .int .i64 0, .int .i64 4])) ∨
      (∃ N v L, R = .ok N ∧ ¬ 40 < N.length ∧ e = .returned (.tuple #[v, .int .i64 0, .int .i64 0]) ∧ OwnP w L v w' ∧ pNames L = N ∧ L.length ≤ 400001))))

/-- At the head of each round. -/
structure PtRow (s : ByteArray) (w : World) (i : Nat) (N : List (List UInt8)) (L : List PcT) (v : Value) (wx : World) : Prop where
  own : OwnP w L v wx
  names : pNames L = N
  scan : ∀ R, Scan s i N R → Scan s 0 [] R
  few : N.length ≤ i
  few2 : L.length ≤ i

set_option maxRecDepth 100000 in
set_option maxHeartbeats 8000000 in
theorem parse_any (s : ByteArray) (w : World) (hm : MaxL w) :
    Calls Try.prog 9 #[.string s] w (ParseIs s w) := by
  by_cases hbig : 400000 < s.size
  · have HF : Hid (ParseIs s w (.returned (.tuple #[.slice none 0 0, .int .i64 0, .int .i64 4])) w) := Lib.hid ⟨Below.refl _ _, .inl ⟨hbig, rfl⟩⟩
    have p0 : (400000 : Int) < s.size := by omega
    clear hbig hm
    go_enter Try.func9, Try.ntmps9
    go_wp2_with fail
    go_ret3
    exact HF.out
  · have hs : s.size ≤ 400000 := by omega
    have p0 : ¬ (400000 : Int) < s.size := by omega
    clear hbig
    have HIX := Lib.hid (fun (i : Nat) W (hW : Below w.heap.size w W) => (show Calls Try.prog 13 #[.string (s.extract i s.size), .string ⟨#[123, 123]⟩] W fun e w' => e = .returned (.int .i64 (Lib.index (s.extract i s.size).data.toList [123, 123])) ∧ w' = W from by
      obtain ⟨m, hm2⟩ := hm.below hW
      exact Try.strings_Index (s.extract i s.size) ⟨#[123, 123]⟩ m W (by rw [ByteArray.size_extract]; omega) hm2))
    have HPF := Lib.hid (fun (i : Nat) W => (show Calls Try.prog 14 #[.string (s.extract i s.size), .string ⟨#[123]⟩] W fun e w' => e = .returned (.bool (decide (bAt s i = 123))) ∧ w' = W from
      (Try.strings_HasPrefix _ _ W).mono fun e w' ⟨h1, h2⟩ => ⟨by rw [h1]; exact ret_bool (has1 s i 123), h2⟩))
    have HRF := Lib.hid (fun (i : Nat) (hi : i ≤ s.size) W => readField_any s i W hs hi)
    obtain ⟨i0, hi, hz0, hz1, hz2⟩ := info_parts infoPc
    clear hm
    go_enter Try.func9, Try.ntmps9
    go_wp2_with fail
    go_loopw [2, 5, 6] (fun vv fv iv wx => ∃ (i : Nat) (N : List (List UInt8)) (L : List PcT), iv = .int .i64 i ∧ i ≤ s.size ∧ fv = .int .i64 N.length ∧ Hid (PtRow s w i N L vv wx)) (fun _ _ iv _ => s.size - (intOf iv).toNat)
    case atStart => exact ⟨0, [], [], rfl, Nat.zero_le _, rfl, Lib.hid ⟨OwnP.nil (Below.refl _ _), rfl, fun _ h => h, Nat.le_refl _, Nat.le_refl _⟩⟩
    case round =>
      obtain ⟨i, N, L, rfl, hi1, rfl, HR⟩ := hrel
      have hb := HR.out.own.bel
      have hN := HR.out.few
      have hL := HR.out.few2
      obtain ⟨A0, c0, rfl⟩ := own_shape HR.out.own.own
      by_cases hlt : i < s.size
      · have p1 : (i : Int) < s.size := by omega
        have p2 : (i : Int) ≤ s.size := by omega
        have HI := Lib.hid (HIX.out i wr hb)
        obtain ⟨ml, hml⟩ : ∃ ml, ml = L.length := ⟨_, rfl⟩
        have HOW := Lib.hid HR.out.own.own
        have HML := Lib.hid hml
        have hle := hb.size
        rw [← hml] at HOW hL ⊢
        clear hml
        rcases index_braces s i (by omega) with ⟨h1, h2⟩ | ⟨k, h1, h2, h3, h4, h5⟩
        · rw [h1] at HI
          have HS : Hid (Scan s 0 [] (.ok N)) := Lib.hid (HR.out.scan _ (Scan.skip (s.size - i) i (by omega) (fun j _ => h2 j) (.stop (by omega))))
          clear h1 h2
          go_wp2_with fail
          refine HI.out.mono ?_
          rintro e1 w1 ⟨rfl, rfl⟩
          go_wp2_with (at_builtin; refine wpList_append_lies _ rfl _ _ 33 rfl w.heap.size 39 i0 _ 3 40 Try.underlying33 hi hz0 hz1 hz2 rfl (by omega) (.slice A0 ml c0) (ml) (L.flatMap PcT.cells) rfl (HOW.out.alloc _) ⟨w1.heap.size, 0, none⟩ 1 1 [.string ⟨#[]⟩, .bool false, .string (s.extract i s.size)] rfl rfl (by intro q' u hq'; have := three_news w1 (.string ⟨#[]⟩) (.bool false) (.string (s.extract i s.size)) 39 q' u hq'; simpa using this) (by simp [Value.oneCell']) (by omega) (by unfold maxLen; omega) (by omega) (by first | omega | (simp; omega)) _ rfl ?_)
          intro gg cap w4 ho4 hg4 hat4 hlt4
          have HX : Hid (OwnP w (L ++ [⟨⟨#[]⟩, false, s.extract i s.size⟩]) (.slice (some ⟨gg, 0, none⟩) (ml + 1) cap) w4) := Lib.hid (by
            have hf := HML.out
            subst hf
            exact HR.out.own.push ho4 hg4)
          have HNM : Hid (pNames (L ++ [⟨⟨#[]⟩, false, s.extract i s.size⟩]) = N) := Lib.hid (by rw [pNames_snoc, pName1_none, List.append_nil]; exact HR.out.names)
          clear ho4 hg4 hat4
          by_cases h40 : 40 < N.length
          · have p3 : (40 : Int) < N.length := by omega
            have HF : Hid (ParseIs s w (.returned (.tuple #[.slice none 0 0, .int .i64 0, .int .i64 4])) w4) := Lib.hid ⟨HX.out.bel, .inr ⟨hs, _, HS.out, .inr (.inl ⟨N, rfl, h40, rfl⟩)⟩⟩
            generalize N.length = nn at p3
            clear h40
            go_wp2_with fail
            go_ret3
            exact HF.out
          · have p3 : ¬ (40 : Int) < N.length := by omega
            have HF : Hid (ParseIs s w (.returned (.tuple #[.slice (some ⟨gg, 0, none⟩) (ml + 1) cap, .int .i64 0, .int .i64 0])) w4) := Lib.hid ⟨HX.out.bel, .inr ⟨hs, _, HS.out, .inr (.inr ⟨N, _, _, rfl, h40, rfl, HX.out, HNM.out, by rw [List.length_append]; have := HML.out; simp; omega⟩)⟩⟩
            generalize N.length = nn at p3
            clear h40
            go_wp2_with fail
            go_ret3
            exact HF.out
        · rw [h1] at HI
          have HSK : Hid (∀ R, Scan s (i + k) N R → Scan s 0 [] R) := Lib.hid (fun R h => HR.out.scan _ (Scan.skip k i (by omega) h5 h))
          obtain ⟨a1, ha1⟩ : ∃ a1 : Nat, a1 = i + k + 2 := ⟨_, rfl⟩
          have hat : (i : Int) + ((k : Int) + 2) = (a1 : Int) := by omega
          have ha2 : a1 ≤ s.size := by omega
          have p3 : (a1 : Int) ≤ s.size := by omega
          have p4 : (i : Int) + (k : Int) ≤ s.size := by omega
          have p5 : (0 : Int) ≤ (k : Int) := by omega
          have p6 : (i : Int) ≤ (i : Int) + (k : Int) := by omega
          have HP := Lib.hid (HPF.out a1)
          have HB1 := Lib.hid h3
          have HB2 := Lib.hid h4
          have HA1 := Lib.hid ha1
          have hka : i + 2 ≤ a1 := by omega
          clear h1 h3 h4 h5 ha1
          go_wp2_with fail
          refine HI.out.mono ?_
          rintro e1 w1 ⟨rfl, rfl⟩
          obtain ⟨TX, hTX⟩ : ∃ TX : ByteArray, TX = s.extract i (i + k) := ⟨_, rfl⟩
          have hsl : ∀ W : World, (Instr.slice 9 (.string s) (some (.int .i64 (i : Int))) (some (.int .i64 ((i : Int) + (k : Int)))) none).run Try.prog W = .ok (.string TX) W := fun W => by
            rw [run_slice_string W _ _ _ _ _ _ Try.underlying9 (by omega) (by omega) (by omega), hTX, Int.toNat_natCast, show ((i : Int) + (k : Int)).toNat = i + k by omega]
          clear hTX
          go_wp2_with (at_builtin; refine wpList_append_lies _ rfl _ _ 33 rfl w.heap.size 39 i0 _ 3 40 Try.underlying33 hi hz0 hz1 hz2 rfl (by omega) (.slice A0 ml c0) (ml) (L.flatMap PcT.cells) rfl (HOW.out.alloc _) ⟨w1.heap.size, 0, none⟩ 1 1 [.string ⟨#[]⟩, .bool false, .string TX] rfl rfl (by intro q' u hq'; have := three_news w1 (.string ⟨#[]⟩) (.bool false) (.string TX) 39 q' u hq'; simpa using this) (by simp [Value.oneCell']) (by omega) (by unfold maxLen; omega) (by omega) (by first | omega | (simp; omega)) _ rfl ?_)
          intro gg cap w4 ho4 hg4 hat4 hlt4
          have HX : Hid (OwnP w (L ++ [⟨⟨#[]⟩, false, TX⟩]) (.slice (some ⟨gg, 0, none⟩) (ml + 1) cap) w4) := Lib.hid (by
            have hf := HML.out
            subst hf
            exact HR.out.own.push ho4 hg4)
          have HNM : Hid (pNames (L ++ [⟨⟨#[]⟩, false, TX⟩]) = N) := Lib.hid (by rw [pNames_snoc, pName1_none, List.append_nil]; exact HR.out.names)
          have HL1 : Hid ((L ++ [(⟨⟨#[]⟩, false, TX⟩ : PcT)]).length = ml + 1) := Lib.hid (by rw [List.length_append, ← HML.out]; rfl)
          clear ho4 hg4 hat4
          obtain ⟨L1, hL1⟩ : ∃ L1, L1 = L ++ [(⟨⟨#[]⟩, false, TX⟩ : PcT)] := ⟨_, rfl⟩
          rw [← hL1] at HX HNM HL1
          have hle4 := HX.out.bel.size
          have HOW4 : Hid (w4.ownsRow w.heap.size 39 3 (.slice (some ⟨gg, 0, none⟩) (ml + 1) cap) (ml + 1) (L1.flatMap PcT.cells)) := Lib.hid (by have := HX.out.own; rw [HL1.out] at this; exact this)
          clear hL1
          by_cases hesc : bAt s a1 = 123
          · have HPY : Hid (Calls Try.prog 14 #[.string (s.extract a1 s.size), .string ⟨#[123]⟩] w4 fun e w' => e = .returned (.bool true) ∧ w' = w4) := Lib.hid (by have := HP.out w4; rw [decide_eq_true hesc] at this; exact this)
            have hlt3 : a1 < s.size := bAt_lt (by rw [hesc]; decide)
            have HSC : Hid (∀ R, Scan s (a1 + 1) N R → Scan s 0 [] R) := Lib.hid (fun R h => HSK.out R (.esc HB1.out HB2.out (by rw [← HA1.out]; exact hesc) (by rw [show i + k + 3 = a1 + 1 by rw [HA1.out]]; exact h)))
            clear hesc
            go_wp2_with (first
              | (go_at_call 14; refine HPY.out.mono ?_; rintro e5 w5 ⟨rfl, rfl⟩)
              | (at_builtin; refine wpList_append_lies _ rfl _ _ 33 rfl w.heap.size 39 i0 _ 3 40 Try.underlying33 hi hz0 hz1 hz2 rfl (by omega) (.slice (some ⟨gg, 0, none⟩) (ml + 1) cap) (ml + 1) (L1.flatMap PcT.cells) rfl (HOW4.out.alloc _) ⟨w5.heap.size, 0, none⟩ 1 1 [.string ⟨#[]⟩, .bool false, .string ⟨#[123, 123]⟩] rfl rfl (by intro q' u hq'; have := three_news w5 (.string ⟨#[]⟩) (.bool false) (.string ⟨#[123, 123]⟩) 39 q' u hq'; simpa using this) (by simp [Value.oneCell']) (by omega) (by unfold maxLen; omega) (by omega) (by first | omega | (simp; omega)) _ rfl ?_))
            intro gh cap5 w6 ho6 hg6 hat6 hlt6
            have HY : Hid (OwnP w (L1 ++ [⟨⟨#[]⟩, false, ⟨#[123, 123]⟩⟩]) (.slice (some ⟨gh, 0, none⟩) (ml + 1 + 1) cap5) w6) := Lib.hid (by
              have hX := HX.out
              have hf := HL1.out
              rw [← hf] at hX ho6 hg6 ⊢
              exact hX.push ho6 hg6)
            have HNY : Hid (pNames (L1 ++ [⟨⟨#[]⟩, false, ⟨#[123, 123]⟩⟩]) = N) := Lib.hid (by rw [pNames_snoc, pName1_none, List.append_nil]; exact HNM.out)
            have HLY : Hid ((L1 ++ [(⟨⟨#[]⟩, false, ⟨#[123, 123]⟩⟩ : PcT)]).length = ml + 2) := Lib.hid (by rw [List.length_append, HL1.out]; rfl)
            have hNa : N.length ≤ a1 + 1 := by omega
            clear ho6 hg6 hat6
            go_wp2_with fail
            go_roundw
            case rel => exact ⟨a1 + 1, N, _, by go_num, by omega, by trivial, Lib.hid ⟨HY.out, HNY.out, HSC.out, hNa, by rw [HLY.out]; omega⟩⟩
            case measure => simp [intOf]; omega
          · have HPN : Hid (Calls Try.prog 14 #[.string (s.extract a1 s.size), .string ⟨#[123]⟩] w4 fun e w' => e = .returned (.bool false) ∧ w' = w4) := Lib.hid (by have := HP.out w4; rw [decide_eq_false hesc] at this; exact this)
            have HFD := Lib.hid (HRF.out a1 ha2 w4)
            have HNE : Hid (bAt s (i + k + 2) ≠ 123) := Lib.hid (by rw [← HA1.out]; exact hesc)
            clear hesc
            go_wp2_with (go_at_call 14; refine HPN.out.mono ?_; rintro e5 w5 ⟨rfl, rfl⟩)
            refine HFD.out.mono ?_
            rintro e6 w6 ⟨hb6, hmt⟩
            have HZ := Lib.hid (HX.out.later hb6)
            have HOW6 := Lib.hid (own_kept HOW4.out (fun g hg => hb6.block g (HOW4.out.lt g hg).2))
            have hle6 := HZ.out.bel.size
            clear hb6
            rcases hf : fieldAt s a1 with p | ⟨k2, e2⟩
            · rw [hf] at hmt
              have hmt : e6 = .returned (.tuple #[.agg #[.string ⟨#[]⟩, .bool false, .string ⟨#[]⟩], .int .i64 p, .bool false]) := hmt
              subst hmt
              have HF : Hid (∀ w', Below w.heap.size w w' → ParseIs s w (.returned (.tuple #[.slice none 0 0, .int .i64 p, .int .i64 8])) w') := Lib.hid (fun w' hb => ⟨hb, .inr ⟨hs, _, HSK.out _ (.bad HB1.out HB2.out HNE.out (by rw [← HA1.out]; exact hf)), .inl ⟨p, rfl, rfl⟩⟩⟩)
              clear hf
              go_wp2_with fail
              go_ret3
              exact HF.out _ (HZ.out.bel.alloc hle6 _)
            · rw [hf] at hmt
              obtain ⟨ho, tx, htx, rfl⟩ := hmt
              obtain ⟨g1, g2, g3, g4, -⟩ := field_good ha2 hf
              have HSC : Hid (∀ R, Scan s e2 (N ++ [(s.extract a1 k2).data.toList]) R → Scan s 0 [] R) := Lib.hid (fun R h => HSK.out R (.fld HB1.out HB2.out HNE.out (by rw [← HA1.out]; exact hf) (by rw [← HA1.out]; exact h)))
              have HNP : Hid (pName1 ⟨s.extract a1 k2, ho, tx⟩ = [(s.extract a1 k2).data.toList]) := Lib.hid (pName1_some g1 g2 ho tx)
              obtain ⟨nm, hnm⟩ : ∃ nm, nm = s.extract a1 k2 := ⟨_, rfl⟩
              rw [← hnm] at HSC HNP ⊢
              clear hf hnm
              go_wp2_with (at_builtin; refine wpList_append_lies _ rfl _ _ 33 rfl w.heap.size 39 i0 _ 3 40 Try.underlying33 hi hz0 hz1 hz2 rfl (by omega) (.slice (some ⟨gg, 0, none⟩) (ml + 1) cap) (ml + 1) (L1.flatMap PcT.cells) rfl ((HOW6.out.alloc _).alloc _) ⟨w6.heap.size + 1, 0, none⟩ 1 1 [.string nm, .bool ho, .string tx] rfl rfl (by intro q' u hq'; have := three_news (w6.alloc (.cells #[.string nm, .bool ho, .string tx] 39)) (.string nm) (.bool ho) (.string tx) 39 q' u hq'; simpa using this) (by simp [Value.oneCell']) (by omega) (by unfold maxLen; omega) (by omega) (by first | omega | (simp; omega)) _ rfl ?_)
              intro gh cap5 w7 ho7 hg7 hat7 hlt7
              have HY : Hid (OwnP w (L1 ++ [⟨nm, ho, tx⟩]) (.slice (some ⟨gh, 0, none⟩) (ml + 1 + 1) cap5) w7) := Lib.hid (by
                have hX := HZ.out.later ((Below.refl _ w6).alloc (Nat.le_refl _) (.cells #[.string nm, .bool ho, .string tx] 39))
                have hf := HL1.out
                rw [← hf] at hX ho7 hg7 ⊢
                exact hX.push ho7 hg7)
              have HNY : Hid (pNames (L1 ++ [⟨nm, ho, tx⟩]) = N ++ [nm.data.toList]) := Lib.hid (by rw [pNames_snoc, HNM.out, HNP.out])
              have HLY : Hid ((L1 ++ [(⟨nm, ho, tx⟩ : PcT)]).length = ml + 2) := Lib.hid (by rw [List.length_append, HL1.out]; rfl)
              clear ho7 hg7 hat7
              go_wp2_with fail
              go_roundw
              case rel => exact ⟨e2, N ++ [nm.data.toList], _, by trivial, by omega, by simp, Lib.hid ⟨HY.out, HNY.out, HSC.out, by rw [List.length_append]; simp; omega, by rw [HLY.out]; omega⟩⟩
              case measure => simp [intOf]; omega
      · have p1 : ¬ (i : Int) < s.size := by omega
        have HS : Hid (Scan s 0 [] (.ok N)) := Lib.hid (HR.out.scan _ (.stop (by omega)))
        by_cases h40 : 40 < N.length
        · have p2 : (40 : Int) < N.length := by omega
          have HF : Hid (ParseIs s w (.returned (.tuple #[.slice none 0 0, .int .i64 0, .int .i64 4])) wr) := Lib.hid ⟨hb, .inr ⟨hs, _, HS.out, .inr (.inl ⟨N, rfl, h40, rfl⟩)⟩⟩
          generalize N.length = nn at p2
          generalize L.length = ll
          clear h40
          go_wp2_with fail
          go_ret3
          exact HF.out
        · have p2 : ¬ (40 : Int) < N.length := by omega
          have HF : Hid (ParseIs s w (.returned (.tuple #[.slice A0 L.length c0, .int .i64 0, .int .i64 0])) wr) := Lib.hid ⟨hb, .inr ⟨hs, _, HS.out, .inr (.inr ⟨N, _, L, rfl, h40, rfl, HR.out.own, HR.out.names, by omega⟩)⟩⟩
          generalize N.length = nn at p2
          generalize L.length = ll at HF ⊢
          clear h40
          go_wp2_with fail
          go_ret3
          exact HF.out
end Go.Proofs.Ytcnhklnjgknffaa
