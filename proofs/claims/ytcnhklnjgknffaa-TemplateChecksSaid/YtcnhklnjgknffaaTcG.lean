/- Templates: CheckTemplate and Fields of the program. -/
import Derived.Test.YtcnhklnjgknffaaTcF
namespace Go.Proofs.Ytcnhklnjgknffaa
open Go.RowKit Go.Shelf Go.Sort

theorem flat_at {α : Type} (f : α → List Value) (n : Nat) (hf : ∀ x, (f x).length = n) : ∀ (L : List α) (j k : Nat) (h : j < L.length), k < n → (L.flatMap f)[j * n + k]? = (f L[j])[k]?
  | [], _, _, h, _ => absurd h (by simp)
  | x :: L, 0, k, _, hk => by
    rw [List.flatMap_cons, Nat.zero_mul, Nat.zero_add, List.getElem?_append_left (by rw [hf]; exact hk)]
    rfl
  | x :: L, j + 1, k, h, hk => by
    have h2 : j < L.length := by simpa using h
    rw [List.flatMap_cons, List.getElem?_append_right (by rw [hf, Nat.succ_mul]; omega), hf, show (j + 1) * n + k - n = j * n + k by rw [Nat.succ_mul]; omega, flat_at f n hf L j k h2 hk]
    rfl
theorem piece_item {w : World} {base : Nat} {L : List PcT} {v : Value} (h : w.ownsRow base 39 3 v L.length (L.flatMap PcT.cells)) {j : Nat} (hj : j < L.length) :
    ∃ g c, v = .slice (some ⟨g, 0, none⟩) L.length c ∧ g < w.heap.size ∧ w.cell? ⟨g, j * 3, none⟩ = some (.string L[j].nm) ∧ w.cell? ⟨g, j * 3 + 1, none⟩ = some (.bool L[j].ho) ∧ w.cell? ⟨g, j * 3 + 2, none⟩ = some (.string L[j].tx) := by
  rcases h.2 with ⟨h0, h1⟩ | ⟨g, cap, cur, e1, hg, hc, h2, h3, r⟩
  · omega
  · subst e1
    have hlt := (h.lt g rfl).2
    have hl := pc_cells_len L
    have a0 := h.cellAt (j * 3) (by omega)
    have a1 := h.cellAt (j * 3 + 1) (by omega)
    have a2 := h.cellAt (j * 3 + 2) (by omega)
    have b0 := flat_at PcT.cells 3 (fun _ => rfl) L j 0 hj (by decide)
    rw [Nat.add_zero] at b0
    rw [b0] at a0
    rw [flat_at PcT.cells 3 (fun _ => rfl) L j 1 hj (by decide)] at a1
    rw [flat_at PcT.cells 3 (fun _ => rfl) L j 2 hj (by decide)] at a2
    exact ⟨g, cap, rfl, hlt, a0, a1, a2⟩
theorem piece_item2 {w : World} {base : Nat} {L : List PcT} {A : Option Addr} {n c : Nat} (h : w.ownsRow base 39 3 (.slice A n c) L.length (L.flatMap PcT.cells)) {j : Nat} (hj : j < L.length) :
    ∃ g nm ho tx, A = some ⟨g, 0, none⟩ ∧ L[j]? = some ⟨nm, ho, tx⟩ ∧ g < w.heap.size ∧ w.cell? ⟨g, j * 3, none⟩ = some (.string nm) ∧ w.cell? ⟨g, j * 3 + 1, none⟩ = some (.bool ho) ∧ w.cell? ⟨g, j * 3 + 2, none⟩ = some (.string tx) := by
  obtain ⟨g, c', hv, h1, h2, h3, h4⟩ := piece_item h hj
  simp only [Value.slice.injEq] at hv
  obtain ⟨rfl, -, -⟩ := hv
  exact ⟨g, _, _, _, rfl, List.getElem?_eq_getElem hj, h1, h2, h3, h4⟩
theorem pNames_len (L : List PcT) : (pNames L).length ≤ L.length := by
  induction L with
  | nil => exact Nat.le_refl _
  | cons p L ih =>
    unfold pNames at ih ⊢
    rw [List.flatMap_cons, List.length_append, List.length_cons]
    have : (pName1 p).length ≤ 1 := by unfold pName1; split <;> simp
    omega
theorem pNames_at {L : List PcT} {j : Nat} (hj : j < L.length) : pNames (L.take (j + 1)) = pNames (L.take j) ++ pName1 L[j] := by
  rw [List.take_succ_eq_append_getElem hj, pNames_snoc]

/-- What CheckTemplate gives. -/
def CheckIs (s : ByteArray) (w : World) (e : Ending) (w' : World) : Prop :=
  Below w.heap.size w w' ∧ ((400000 < s.size ∧ e = .returned (.tuple #[.int .i64 0, .int .i64 4])) ∨
   (s.size ≤ 400000 ∧ ∃ R, Scan s 0 [] R ∧ e = .returned (.tuple #[.int .i64 (tcP R), .int .i64 (tcE R)])))
set_option maxHeartbeats 4000000 in
theorem checkTemplate_any (s : ByteArray) (w : World) (hm : MaxL w) : Calls Try.prog 4 #[.string s] w (CheckIs s w) := by
  have HP := Lib.hid (parse_any s w hm)
  clear hm
  go_enter Try.func4, Try.ntmps4
  go_wp2_with fail
  refine HP.out.mono ?_
  rintro e1 w1 ⟨hb, h⟩
  rcases h with ⟨hbig, rfl⟩ | ⟨hs, R, hR, h⟩
  · have HF : Hid (CheckIs s w (.returned (.tuple #[.int .i64 0, .int .i64 4])) w1) := Lib.hid ⟨hb, .inl ⟨hbig, rfl⟩⟩
    clear hb hbig
    go_wp2_with fail
    go_ret2
    exact HF.out
  · have HF : Hid (CheckIs s w (.returned (.tuple #[.int .i64 (tcP R), .int .i64 (tcE R)])) w1) := Lib.hid ⟨hb, .inr ⟨hs, R, hR, rfl⟩⟩
    rcases h with ⟨p, rfl, rfl⟩ | ⟨N, rfl, h40, rfl⟩ | ⟨N, v, L, rfl, h40, rfl, _, _, _⟩
    · have e1 : tcP (.err p) = p := rfl
      have e2 : tcE (.err p) = 8 := rfl
      rw [e1, e2] at HF
      clear e1 e2 hb hR
      go_wp2_with fail
      go_ret2
      exact HF.out
    · have e1 : tcP (.ok N) = 0 := rfl
      have e2 : tcE (.ok N) = 4 := if_pos h40
      rw [e1, e2] at HF
      clear e1 e2 hb hR h40
      go_wp2_with fail
      go_ret2
      exact HF.out
    · have e1 : tcP (.ok N) = 0 := rfl
      have e2 : tcE (.ok N) = 0 := if_neg h40
      rw [e1, e2] at HF
      clear e1 e2 hb hR h40
      go_wp2_with fail
      go_ret2
      exact HF.out
/-- What Fields gives: its list, in a row of its own. -/
def FieldsIs (s : ByteArray) (w : World) (e : Ending) (w' : World) : Prop :=
  Below w.heap.size w w' ∧ ((400000 < s.size ∧ e = .returned (.tuple #[.slice none 0 0, .int .i64 4])) ∨
   (s.size ≤ 400000 ∧ ∃ R, Scan s 0 [] R ∧ ((tcE R ≠ 0 ∧ e = .returned (.tuple #[.slice none 0 0, .int .i64 (tcE R)])) ∨
     (∃ N v b, R = .ok N ∧ tcE R = 0 ∧ e = .returned (.tuple #[v, .int .i64 0]) ∧ w'.ownsRow b 9 1 v (Lib.compact (sortS N)).length ((Lib.compact (sortS N)).map encStr)))))
set_option maxRecDepth 100000 in
set_option maxHeartbeats 8000000 in
theorem fields_any (s : ByteArray) (w : World) (hm : MaxL w) : Calls Try.prog 6 #[.string s] w (FieldsIs s w) := by
  have HP := Lib.hid (parse_any s w hm)
  obtain ⟨i0, hi, hz0, hz1, hz2⟩ := info_parts infoStrN
  clear hm
  go_enter Try.func6, Try.ntmps6
  go_wp2_with fail
  refine HP.out.mono ?_
  rintro e1 w1 ⟨hb, h⟩
  rcases h with ⟨hbig, rfl⟩ | ⟨hs, R, hR, h⟩
  · have HF : Hid (FieldsIs s w (.returned (.tuple #[.slice none 0 0, .int .i64 4])) w1) := Lib.hid ⟨hb, .inl ⟨hbig, rfl⟩⟩
    clear hb hbig
    go_wp2_with fail
    go_ret2
    exact HF.out
  · rcases h with ⟨p, rfl, rfl⟩ | ⟨N, rfl, h40, rfl⟩ | ⟨N, v, L, rfl, h40, rfl, hO, hN, hLl⟩
    · have HF : Hid (FieldsIs s w (.returned (.tuple #[.slice none 0 0, .int .i64 8])) w1) := Lib.hid ⟨hb, .inr ⟨hs, _, hR, .inl ⟨by show (8 : Int) ≠ 0; decide, rfl⟩⟩⟩
      clear hb hR
      go_wp2_with fail
      go_ret2
      exact HF.out
    · have e2 : tcE (.ok N) = 4 := if_pos h40
      have HF : Hid (FieldsIs s w (.returned (.tuple #[.slice none 0 0, .int .i64 4])) w1) := Lib.hid ⟨hb, .inr ⟨hs, _, hR, .inl ⟨by rw [e2]; decide, by rw [e2]⟩⟩⟩
      clear hb hR h40 e2
      go_wp2_with fail
      go_ret2
      exact HF.out
    · have e2 : tcE (.ok N) = 0 := if_neg h40
      have HFIN : Hid (∀ v w2, OwnS w1 w1.heap.size (Lib.compact (sortS N)) v w2 → FieldsIs s w (.returned (.tuple #[v, .int .i64 0])) w2) := Lib.hid (fun v w2 h => ⟨hb.trans (h.bel.mono hb.size), .inr ⟨hs, _, hR, .inr ⟨N, v, _, rfl, e2, rfl, h.own⟩⟩⟩)
      have HOP := Lib.hid hO
      have HN := Lib.hid hN
      obtain ⟨A0, c0, rfl⟩ := own_shape hO.own
      have HIT := Lib.hid (fun (j : Nat) (hj : j < L.length) => piece_item2 hO.own hj)
      obtain ⟨n, hn⟩ : ∃ n, n = L.length := ⟨_, rfl⟩
      rw [← hn] at HIT hLl ⊢
      have HNL := Lib.hid hn
      clear hb hR h40 e2 hO hN hn
      go_wp2_with fail
      go_loopw [7, 21] (fun nv iv wx => ∃ j : Nat, iv = .int .i64 j ∧ j ≤ n ∧ Hid (OwnS w1 w1.heap.size (pNames (L.take j)) nv wx)) (fun _ iv _ => n - (intOf iv).toNat)
      case atStart => exact ⟨0, rfl, Nat.zero_le _, Lib.hid (OwnS.nil (Below.refl _ _) (Nat.le_refl _))⟩
      case round =>
        obtain ⟨j, rfl, hjl, HR⟩ := hrel
        by_cases hj : j < n
        · have hj2 : j < L.length := by rw [← HNL.out]; exact hj
          have p2 : (j : Int) < n := by omega
          obtain ⟨g, nm, ho, tx, rfl, hLj, hlt, q0, q1, q2⟩ := HIT.out j hj
          have hbel := HR.out.bel
          have hle := HR.out.le
          replace q0 := (hbel.cell (p := ⟨g, j * 3, none⟩) hlt).trans q0
          replace q1 := (hbel.cell (p := ⟨g, j * 3 + 1, none⟩) hlt).trans q1
          replace q2 := (hbel.cell (p := ⟨g, j * 3 + 2, none⟩) hlt).trans q2
          have hp : L[j] = ⟨nm, ho, tx⟩ := by
            rw [List.getElem?_eq_getElem hj2] at hLj
            exact Option.some.inj hLj
          have HNX := Lib.hid (pNames_at hj2)
          have hnl := pNames_len (L.take j)
          rw [List.length_take] at hnl
          rw [hp] at HNX
          obtain ⟨Nm, hNm⟩ : ∃ Nm, Nm = pNames (L.take j) := ⟨_, rfl⟩
          rw [← hNm] at HR HNX hnl
          obtain ⟨A1, c1, rfl⟩ := own_shape HR.out.own
          obtain ⟨fl, hfl⟩ : ∃ fl, fl = Nm.length := ⟨_, rfl⟩
          have HFL := Lib.hid hfl
          have HOW := Lib.hid HR.out.own
          rw [← hfl] at hnl HOW ⊢
          have hlt2 : g < wr.heap.size := by omega
          clear hp hNm hfl hbel hLj
          by_cases he : nm.data.toList = []
          · have hz : nm = ⟨#[]⟩ := by
              obtain ⟨d⟩ := nm
              have : d = #[] := by
                apply Array.toList_inj.1
                simpa using he
              rw [this]
            subst hz
            have HX : Hid (OwnS w1 w1.heap.size (pNames (L.take (j + 1))) (.slice A1 fl c1) (wr.alloc (.cells #[.string ⟨#[]⟩, .bool ho, .string tx] 39))) := Lib.hid (by
              rw [HNX.out, pName1_none, List.append_nil]
              have hf := HFL.out
              subst hf
              exact HR.out.alloc _)
            go_wp2_with fail
            go_roundw
            case rel => exact ⟨j + 1, by go_num, hj, HX⟩
            case measure => simp [intOf]; omega
          · have HX1 : Hid (pName1 ⟨nm, ho, tx⟩ = [nm.data.toList]) := Lib.hid (by unfold pName1; rw [if_neg he])
            have hne : ¬ nm.toList = [] := by rw [Lib.toList_data]; exact he
            have hne2 : nm.toList.isEmpty = false := by
              cases hx : nm.toList.isEmpty with
              | false => rfl
              | true => exact absurd (List.isEmpty_iff.1 hx) hne
            go_wp2_with (at_builtin; refine wpList_append_lies _ rfl _ _ 28 rfl w1.heap.size 9 i0 _ 1 16 Try.underlying28 hi hz0 hz1 hz2 rfl (by omega) (.slice A1 fl c1) fl (Nm.map encStr) rfl ((HOW.out.alloc _).alloc _) ⟨wr.heap.size + 1, 0, none⟩ 1 1 [.string nm] rfl rfl (by intro q u hq; have := one_news (wr.alloc (.cells #[.string nm, .bool ho, .string tx] 39)) (.string nm) 9 q u hq; simpa using this) (by simp [Value.oneCell']) (by omega) (by unfold maxLen; omega) (by omega) (by simp; omega) _ rfl ?_)
            intro gg cap w4 ho4 hg4 hat4 hlt4
            have HX : Hid (OwnS w1 w1.heap.size (pNames (L.take (j + 1))) (.slice (some ⟨gg, 0, none⟩) (fl + 1) cap) w4) := Lib.hid (by
              rw [HNX.out, HX1.out]
              have hf := HFL.out
              subst hf
              exact ((HR.out.alloc _).alloc _).push ho4 hg4)
            clear ho4 hg4 hat4
            go_wp2_with fail
            go_roundw
            case rel => exact ⟨j + 1, by go_num, hj, HX⟩
            case measure => simp [intOf]; omega
        · have p2 : ¬ (j : Int) < n := by omega
          have HE : Hid (OwnS w1 w1.heap.size N _ wr) := Lib.hid (by
            have h := HR.out
            rw [List.take_of_length_le (by rw [← HNL.out]; omega), HN.out] at h
            exact h)
          have hNl : N.length ≤ 1099511627776 := by
            have h1 := pNames_len L
            rw [HN.out, ← HNL.out] at h1
            omega
          have hSl : (sortS N).length ≤ 1099511627776 := by rw [sortS_len]; exact hNl
          have HS := Lib.hid (strSort_any N _ w1.heap.size w1 wr hNl HE.out)
          clear HR HE
          go_wp2_with fail
          refine HS.out.mono ?_
          rintro e5 w5 ⟨rfl, hO5⟩
          have HC := Lib.hid (strCompact_any _ _ _ _ _ hSl hO5)
          clear hO5
          go_wp2_with fail
          refine HC.out.mono ?_
          rintro e6 w6 ⟨v6, rfl, hO6⟩
          have HO6 := Lib.hid (HFIN.out _ _ hO6)
          clear hO6
          go_wp2_with fail
          go_ret2
          exact HO6.out
end Go.Proofs.Ytcnhklnjgknffaa
