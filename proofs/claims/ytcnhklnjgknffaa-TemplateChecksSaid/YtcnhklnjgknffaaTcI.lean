/- Templates: TemplateFault and FieldsOf of the reference. -/
import Derived.Test.YtcnhklnjgknffaaTcH
namespace Go.Proofs.Ytcnhklnjgknffaa
open Go.RowKit Go.Shelf Go.Sort

theorem field_item {w : World} {base : Nat} {L : List FvT} {A : Option Addr} {n c : Nat} (h : w.ownsRow base 43 5 (.slice A n c) L.length (L.flatMap FvT.cells)) {j : Nat} (hj : j < L.length) :
    ∃ g tx nm ot b1 b2, A = some ⟨g, 0, none⟩ ∧ L[j]? = some ⟨tx, nm, ot, b1, b2⟩ ∧ g < w.heap.size ∧ w.cell? ⟨g, j * 5, none⟩ = some (.string tx) ∧ w.cell? ⟨g, j * 5 + 1, none⟩ = some (.string nm) ∧ w.cell? ⟨g, j * 5 + 2, none⟩ = some (.string ot) ∧ w.cell? ⟨g, j * 5 + 3, none⟩ = some (.bool b1) ∧ w.cell? ⟨g, j * 5 + 4, none⟩ = some (.bool b2) := by
  rcases h.2 with ⟨h0, h1⟩ | ⟨g, cap, cur, e1, hg, hc, h2, h3, r⟩
  · omega
  · simp only [Value.slice.injEq] at e1
    obtain ⟨rfl, rfl, rfl⟩ := e1
    have hlt := (h.lt g rfl).2
    have hl := fv_cells_len L
    have a0 := h.cellAt (j * 5) (by omega)
    have a1 := h.cellAt (j * 5 + 1) (by omega)
    have a2 := h.cellAt (j * 5 + 2) (by omega)
    have a3 := h.cellAt (j * 5 + 3) (by omega)
    have a4 := h.cellAt (j * 5 + 4) (by omega)
    have b0 := flat_at FvT.cells 5 (fun _ => rfl) L j 0 hj (by decide)
    rw [Nat.add_zero] at b0
    rw [b0] at a0
    rw [flat_at FvT.cells 5 (fun _ => rfl) L j 1 hj (by decide)] at a1
    rw [flat_at FvT.cells 5 (fun _ => rfl) L j 2 hj (by decide)] at a2
    rw [flat_at FvT.cells 5 (fun _ => rfl) L j 3 hj (by decide)] at a3
    rw [flat_at FvT.cells 5 (fun _ => rfl) L j 4 hj (by decide)] at a4
    exact ⟨g, _, _, _, _, _, rfl, List.getElem?_eq_getElem hj, hlt, a0, a1, a2, a3, a4⟩
theorem fNames_len (L : List FvT) : (fNames L).length ≤ L.length := by
  induction L with
  | nil => exact Nat.le_refl _
  | cons p L ih =>
    unfold fNames at ih ⊢
    rw [List.flatMap_cons, List.length_append, List.length_cons]
    have : (fName1 p).length ≤ 1 := by unfold fName1; split <;> simp
    omega
theorem fNames_at {L : List FvT} {j : Nat} (hj : j < L.length) : fNames (L.take (j + 1)) = fNames (L.take j) ++ fName1 L[j] := by
  rw [List.take_succ_eq_append_getElem hj, fNames_snoc]

/-- What TemplateFault gives. -/
def FaultIs (s : ByteArray) (w : World) (e : Ending) (w' : World) : Prop :=
  Below w.heap.size w w' ∧ ((400000 < s.size ∧ e = .returned (.tuple #[.slice none 0 0, .int .i64 0, .int .i64 4])) ∨
   (s.size ≤ 400000 ∧ ∃ R, Scan s 0 [] R ∧ ((tcE R ≠ 0 ∧ e = .returned (.tuple #[.slice none 0 0, .int .i64 (tcP R), .int .i64 (tcE R)])) ∨
     (∃ N v L, R = .ok N ∧ tcE R = 0 ∧ e = .returned (.tuple #[v, .int .i64 0, .int .i64 0]) ∧ OwnF w L v w' ∧ fNames L = N ∧ L.length ≤ 1000001))))
set_option maxHeartbeats 4000000 in
theorem fault_any (s : ByteArray) (w : World) : Calls Try.prog 5 #[.string s] w (FaultIs s w) := by
  by_cases hs : s.size ≤ 400000
  · have HP := Lib.hid (templateOf_any s w hs)
    have p0 : ¬ (400000 : Int) < s.size := by omega
    go_enter Try.func5, Try.ntmps5
    go_wp2_with fail
    refine HP.out.mono ?_
    rintro e1 w1 ⟨hb, R, hR, h⟩
    rcases h with ⟨p, rfl, rfl⟩ | ⟨N, v, L, rfl, rfl, hO, hN, hL, hLb⟩
    · have HF : Hid (FaultIs s w (.returned (.tuple #[.slice none 0 0, .int .i64 p, .int .i64 8])) w1) := Lib.hid ⟨hb, .inr ⟨hs, _, hR, .inl ⟨by show (8 : Int) ≠ 0; decide, rfl⟩⟩⟩
      clear hb hR
      go_wp2_with fail
      go_ret3
      exact HF.out
    · obtain ⟨A0, c0, rfl⟩ := own_shape hO.own
      by_cases h40 : 40 < N.length
      · have e2 : tcE (.ok N) = 4 := if_pos h40
        have HF : Hid (FaultIs s w (.returned (.tuple #[.slice none 0 0, .int .i64 0, .int .i64 4])) w1) := Lib.hid ⟨hb, .inr ⟨hs, _, hR, .inl ⟨by rw [e2]; decide, by rw [e2]; rfl⟩⟩⟩
        obtain ⟨ml, hml⟩ : ∃ ml, ml = L.length := ⟨_, rfl⟩
        rw [← hml] at hL hLb ⊢
        have hq : (ml : Int).tdiv 2 = (N.length : Int) := by rw [Int.tdiv_eq_ediv_of_nonneg (by omega)]; omega
        have hNl : N.length ≤ 1000000 := by omega
        clear hb hR hO hN e2 hml hL
        go_wp2_with fail
        go_ret3
        exact HF.out
      · have e2 : tcE (.ok N) = 0 := if_neg h40
        have HF : Hid (FaultIs s w (.returned (.tuple #[.slice A0 L.length c0, .int .i64 0, .int .i64 0])) w1) := Lib.hid ⟨hb, .inr ⟨hs, _, hR, .inr ⟨N, _, L, rfl, e2, rfl, hO, hN, hLb⟩⟩⟩
        obtain ⟨ml, hml⟩ : ∃ ml, ml = L.length := ⟨_, rfl⟩
        rw [← hml] at hL hLb HF ⊢
        have hq : (ml : Int).tdiv 2 = (N.length : Int) := by rw [Int.tdiv_eq_ediv_of_nonneg (by omega)]; omega
        have hNl : N.length ≤ 1000000 := by omega
        clear hb hR hO hN e2 hml hL
        go_wp2_with fail
        go_ret3
        exact HF.out
  · have p0 : (400000 : Int) < s.size := by omega
    have HF : Hid (FaultIs s w (.returned (.tuple #[.slice none 0 0, .int .i64 0, .int .i64 4])) w) := Lib.hid ⟨Below.refl _ _, .inl ⟨by omega, rfl⟩⟩
    clear hs
    go_enter Try.func5, Try.ntmps5
    go_wp2_with fail
    go_ret3
    exact HF.out
set_option maxRecDepth 100000 in
set_option maxHeartbeats 8000000 in
theorem fieldsOf_any (s : ByteArray) (w : World) : Calls Try.prog 7 #[.string s] w (FieldsIs s w) := by
  have HP := Lib.hid (fault_any s w)
  obtain ⟨i0, hi, hz0, hz1, hz2⟩ := info_parts infoStrN
  go_enter Try.func7, Try.ntmps7
  go_wp2_with fail
  refine HP.out.mono ?_
  rintro e1 w1 ⟨hb, h⟩
  rcases h with ⟨hbig, rfl⟩ | ⟨hs, R, hR, h⟩
  · have HF : Hid (FieldsIs s w (.returned (.tuple #[.slice none 0 0, .int .i64 4])) w1) := Lib.hid ⟨hb, .inl ⟨hbig, rfl⟩⟩
    clear hb hbig
    go_wp2_with fail
    go_ret2
    exact HF.out
  · rcases h with ⟨hne, rfl⟩ | ⟨N, v, L, rfl, e2, rfl, hO, hN, hLl⟩
    · have HF : Hid (FieldsIs s w (.returned (.tuple #[.slice none 0 0, .int .i64 (tcE R)])) w1) := Lib.hid ⟨hb, .inr ⟨hs, _, hR, .inl ⟨hne, rfl⟩⟩⟩
      generalize tcE R = er at *
      clear hb hR
      have hne2 : (er == 0) = false := by rw [beq_eq_false_iff_ne]; exact hne
      have hne3 : (er != 0) = true := by rw [bne_iff_ne]; exact hne
      go_wp2_with fail
      go_ret2
      exact HF.out
    · have HFIN : Hid (∀ v w2, OwnS w1 w1.heap.size (Lib.compact (sortS N)) v w2 → FieldsIs s w (.returned (.tuple #[v, .int .i64 0])) w2) := Lib.hid (fun v w2 h => ⟨hb.trans (h.bel.mono hb.size), .inr ⟨hs, _, hR, .inr ⟨N, v, _, rfl, e2, rfl, h.own⟩⟩⟩)
      have HOP := Lib.hid hO
      have HN := Lib.hid hN
      obtain ⟨A0, c0, rfl⟩ := own_shape hO.own
      have HIT := Lib.hid (fun (j : Nat) (hj : j < L.length) => field_item hO.own hj)
      obtain ⟨n, hn⟩ : ∃ n, n = L.length := ⟨_, rfl⟩
      rw [← hn] at HIT hLl ⊢
      have HNL := Lib.hid hn
      clear hb hR e2 hO hN hn
      go_wp2_with fail
      go_loopw [7, 21] (fun nv iv wx => ∃ j : Nat, iv = .int .i64 j ∧ j ≤ n ∧ Hid (OwnS w1 w1.heap.size (fNames (L.take j)) nv wx)) (fun _ iv _ => n - (intOf iv).toNat)
      case atStart => exact ⟨0, rfl, Nat.zero_le _, Lib.hid (OwnS.nil (Below.refl _ _) (Nat.le_refl _))⟩
      case round =>
        obtain ⟨j, rfl, hjl, HR⟩ := hrel
        by_cases hj : j < n
        · have hj2 : j < L.length := by rw [← HNL.out]; exact hj
          have p2 : (j : Int) < n := by omega
          obtain ⟨g, tx, nm, ot, b1, b2, rfl, hLj, hlt, q0, q1, q2, q3, q4⟩ := HIT.out j hj
          have hbel := HR.out.bel
          have hle := HR.out.le
          replace q0 := (hbel.cell (p := ⟨g, j * 5, none⟩) hlt).trans q0
          replace q1 := (hbel.cell (p := ⟨g, j * 5 + 1, none⟩) hlt).trans q1
          replace q2 := (hbel.cell (p := ⟨g, j * 5 + 2, none⟩) hlt).trans q2
          replace q3 := (hbel.cell (p := ⟨g, j * 5 + 3, none⟩) hlt).trans q3
          replace q4 := (hbel.cell (p := ⟨g, j * 5 + 4, none⟩) hlt).trans q4
          have hp : L[j] = ⟨tx, nm, ot, b1, b2⟩ := by
            rw [List.getElem?_eq_getElem hj2] at hLj
            exact Option.some.inj hLj
          have HNX := Lib.hid (fNames_at hj2)
          have hnl := fNames_len (L.take j)
          rw [List.length_take] at hnl
          rw [hp] at HNX
          obtain ⟨Nm, hNm⟩ : ∃ Nm, Nm = fNames (L.take j) := ⟨_, rfl⟩
          rw [← hNm] at HR HNX hnl
          obtain ⟨A1, c1, rfl⟩ := own_shape HR.out.own
          obtain ⟨fl, hfl⟩ : ∃ fl, fl = Nm.length := ⟨_, rfl⟩
          have HFL := Lib.hid hfl
          have HOW := Lib.hid HR.out.own
          rw [← hfl] at hnl HOW ⊢
          have hlt2 : g < wr.heap.size := by omega
          clear hp hNm hfl hbel hLj
          rcases b1 with _ | _
          · have HX : Hid (OwnS w1 w1.heap.size (fNames (L.take (j + 1))) (.slice A1 fl c1) (wr.alloc (.cells #[.string tx, .string nm, .string ot, .bool false, .bool b2] 43))) := Lib.hid (by
              rw [HNX.out, show fName1 ⟨tx, nm, ot, false, b2⟩ = [] from rfl, List.append_nil]
              have hf := HFL.out
              subst hf
              exact HR.out.alloc _)
            go_wp2_with fail
            go_roundw
            case rel => exact ⟨j + 1, by go_num, hj, HX⟩
            case measure => simp [intOf]; omega
          · go_wp2_with (at_builtin; refine wpList_append_lies _ rfl _ _ 28 rfl w1.heap.size 9 i0 _ 1 16 Try.underlying28 hi hz0 hz1 hz2 rfl (by omega) (.slice A1 fl c1) fl (Nm.map encStr) rfl ((HOW.out.alloc _).alloc _) ⟨wr.heap.size + 1, 0, none⟩ 1 1 [.string nm] rfl rfl (by intro q u hq; have := one_news (wr.alloc (.cells #[.string tx, .string nm, .string ot, .bool true, .bool b2] 43)) (.string nm) 9 q u hq; simpa using this) (by simp [Value.oneCell']) (by omega) (by unfold maxLen; omega) (by omega) (by simp; omega) _ rfl ?_)
            intro gg cap w4 ho4 hg4 hat4 hlt4
            have HX : Hid (OwnS w1 w1.heap.size (fNames (L.take (j + 1))) (.slice (some ⟨gg, 0, none⟩) (fl + 1) cap) w4) := Lib.hid (by
              rw [HNX.out, show fName1 ⟨tx, nm, ot, true, b2⟩ = [nm.data.toList] from rfl]
              have hf := HFL.out
              subst hf
              exact ((HR.out.alloc _).alloc _).push ho4 hg4)
            clear ho4 hg4 hat4
            go_wp2_with fail
            go_roundw
            case rel => exact ⟨j + 1, by go_num, hj, HX⟩
            case measure => simp [intOf]; omega
        · have p2 : ¬ (j : Int) < n := by omega
          have HE : Hid (OwnS w1 w1.heap.size N _ wr) := Lib.hid (by
            have h := HR.out
            rw [List.take_of_length_le (by rw [← HNL.out]; omega), HN.out] at h
            exact h)
          have hNl : N.length ≤ 1099511627776 := by
            have h1 := fNames_len L
            rw [HN.out, ← HNL.out] at h1
            omega
          have hSl : (sortS N).length ≤ 1099511627776 := by rw [sortS_len]; exact hNl
          have HS := Lib.hid (strSort_any N _ w1.heap.size w1 wr hNl HE.out)
          clear HR HE
          go_wp2_with fail
          refine HS.out.mono ?_
          rintro e5 w5 ⟨rfl, hO5⟩
          have HC := Lib.hid (strCompact_any _ _ _ _ _ hSl hO5)
          clear hO5
          go_wp2_with fail
          refine HC.out.mono ?_
          rintro e6 w6 ⟨v6, rfl, hO6⟩
          have HO6 := Lib.hid (HFIN.out _ _ hO6)
          clear hO6
          go_wp2_with fail
          go_ret2
          exact HO6.out
end Go.Proofs.Ytcnhklnjgknffaa
