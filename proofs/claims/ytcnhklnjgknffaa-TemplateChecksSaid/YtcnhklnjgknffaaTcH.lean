/- Templates: the reference's templateOf. -/
import Derived.Test.YtcnhklnjgknffaaTcG
import Derived.Deep.DeepCutAuto
import Derived.Deep.CutBlock
namespace Go.Proofs.Ytcnhklnjgknffaa
open Go.RowKit Go.Shelf Go.Sort

structure FvT where
  tx : ByteArray
  nm : ByteArray
  ot : ByteArray
  is_ : Bool
  has_ : Bool
def FvT.cells (p : FvT) : List Value := [.string p.tx, .string p.nm, .string p.ot, .bool p.is_, .bool p.has_]
theorem fv_cells_len (L : List FvT) : (L.flatMap FvT.cells).length = L.length * 5 := by
  induction L with
  | nil => rfl
  | cons p L ih => rw [List.flatMap_cons, List.length_append, ih, List.length_cons]; simp [FvT.cells]; omega
/-- The names among the fields. -/
def fName1 (p : FvT) : List (List UInt8) := if p.is_ = true then [p.nm.data.toList] else []
def fNames (L : List FvT) : List (List UInt8) := L.flatMap fName1
theorem fNames_two (L : List FvT) (p q : FvT) : fNames (L ++ [p, q]) = fNames L ++ (fName1 p ++ fName1 q) := by unfold fNames; simp
theorem fNames_snoc (L : List FvT) (p : FvT) : fNames (L ++ [p]) = fNames L ++ fName1 p := by unfold fNames; simp
/-- Fields in a list of one's own. -/
structure OwnF (W : World) (L : List FvT) (v : Value) (wx : World) : Prop where
  bel : Below W.heap.size W wx
  own : wx.ownsRow W.heap.size 43 5 v L.length (L.flatMap FvT.cells)
theorem OwnF.nil {W wx : World} (hb : Below W.heap.size W wx) : OwnF W [] (.slice none 0 0) wx := ⟨hb, World.ownsRow_nil _ _ _ _⟩
theorem OwnF.later {W w w' : World} {L : List FvT} {v : Value} (h : OwnF W L v w) (hb : Below w.heap.size w w') : OwnF W L v w' :=
  ⟨h.bel.trans (hb.mono h.bel.size), own_kept h.own (fun g hg => hb.block g (h.own.lt g hg).2)⟩
theorem OwnF.push1 {W w w4 : World} {L : List FvT} {v : Value} (h : OwnF W L v w) {o : Obj} {p : FvT} {gg cap : Nat}
    (ho4 : w4.ownsRow W.heap.size 43 5 (.slice (some ⟨gg, 0, none⟩) (L.length + 1) cap) (L.length + 1) (L.flatMap FvT.cells ++ [.string p.tx, .string p.nm, .string p.ot, .bool p.is_, .bool p.has_])) (hg : (w.alloc o).grownBy w4 v.ownBlock) :
    OwnF W (L ++ [p]) (.slice (some ⟨gg, 0, none⟩) (L.length + 1) cap) w4 := by
  have hle := h.bel.size
  refine ⟨(h.bel.alloc hle o).grown hg (by simp; omega) (fun k hk => (h.own.lt k hk).1), ?_⟩
  rw [List.length_append, List.flatMap_append]
  exact ho4
theorem OwnF.push2 {W w w4 : World} {L : List FvT} {v : Value} (h : OwnF W L v w) {o : Obj} {p q : FvT} {gg cap : Nat}
    (ho4 : w4.ownsRow W.heap.size 43 5 (.slice (some ⟨gg, 0, none⟩) (L.length + 2) cap) (L.length + 2) (L.flatMap FvT.cells ++ [.string p.tx, .string p.nm, .string p.ot, .bool p.is_, .bool p.has_, .string q.tx, .string q.nm, .string q.ot, .bool q.is_, .bool q.has_])) (hg : (w.alloc o).grownBy w4 v.ownBlock) :
    OwnF W (L ++ [p, q]) (.slice (some ⟨gg, 0, none⟩) (L.length + 2) cap) w4 := by
  have hle := h.bel.size
  refine ⟨(h.bel.alloc hle o).grown hg (by simp; omega) (fun k hk => (h.own.lt k hk).1), ?_⟩
  rw [List.length_append, List.flatMap_append]
  exact ho4
theorem infoFv : (Try.prog.info? 43).map (fun i => (i.zero, i.size, i.bytes)) = some (some (.agg #[.string ⟨#[]⟩, .string ⟨#[]⟩, .string ⟨#[]⟩, .bool false, .bool false]), 5, 56) := by kernel_rfl
theorem row_news (w : World) (l : List Value) (T : TypeId) : ∀ q u, l[q]? = some u → (w.alloc (.cells l.toArray T)).cell? ((⟨w.heap.size, 0, none⟩ : Addr).add q) = some u := by
  intro q u hq
  have h := heap_alloc_new w (.cells l.toArray T)
  have e1 : (⟨w.heap.size, 0, none⟩ : Addr).add q = ⟨w.heap.size, q, none⟩ := by
    unfold Addr.add
    split
    · rename_i h0; subst h0; rfl
    · simp
  rw [e1, cell_of_row _ _ q _ _ (0, 0) h, List.getElem?_toArray]
  exact hq
/-- What templateOf gives. -/
def TempIs (s : ByteArray) (w : World) (e : Ending) (w' : World) : Prop :=
  Below w.heap.size w w' ∧ ∃ R, Scan s 0 [] R ∧
    ((∃ p, R = .err p ∧ e = .returned (.tuple #[.slice none 0 0, .int .i64 p, .bool false])) ∨
     (∃ N v L, R = .ok N ∧ e = .returned (.tuple #[v, .int .i64 0, .bool true]) ∧ OwnF w L v w' ∧ fNames L = N ∧ L.length = 2 * N.length + 1 ∧ L.length ≤ 1000001))
/-- At the head of each round. -/
structure TrRow (s : ByteArray) (w : World) (i : Nat) (N : List (List UInt8)) (L : List FvT) (v : Value) (wx : World) : Prop where
  own : OwnF w L v wx
  names : fNames L = N
  scan : ∀ R, Scan s i N R → Scan s 0 [] R
  few : N.length ≤ i
  len : L.length = 2 * N.length
theorem nm_false {c : Int} (h0 : 0 ≤ c) (h : isNm c = false) : c < 45 ∨ (45 < c ∧ c < 48) ∨ (57 < c ∧ c < 97) ∨ 122 < c := by
  unfold isNm at h
  simp at h
  omega
theorem nm_true {c : Int} (h : isNm c = true) : c = 45 ∨ (48 ≤ c ∧ c ≤ 57) ∨ (97 ≤ c ∧ c ≤ 122) := by
  unfold isNm at h
  simp at h
  omega
theorem bad_run {s : ByteArray} {a p : Nat} (h : fieldAt s a = .bad p) {i : Nat} (hi : i + 2 = a) {N : List (List UInt8)} (h1 : bAt s i = 123) (h2 : bAt s (i + 1) = 123) (h3 : bAt s (i + 2) ≠ 123) : Scan s i N (.err p) := .bad h1 h2 h3 (by rw [hi]; exact h)

set_option maxRecDepth 100000 in
set_option maxHeartbeats 16000000 in
theorem templateOf_any (s : ByteArray) (w : World) (hs : s.size ≤ 400000) :
    Calls Try.prog 10 #[.string s] w (TempIs s w) := by
  have HP3 := Lib.hid (fun (i : Nat) W => (show Calls Try.prog 14 #[.string (s.extract i s.size), .string ⟨#[123, 123, 123]⟩] W fun e w' => e = .returned (.bool (decide (bAt s i = 123 ∧ bAt s (i + 1) = 123 ∧ bAt s (i + 2) = 123))) ∧ w' = W from
    (Try.strings_HasPrefix _ _ W).mono fun e w' ⟨h1, h2⟩ => ⟨by rw [h1]; exact ret_bool (has3 s i 123 123 123), h2⟩))
  have HP2 := Lib.hid (fun (i : Nat) W => (show Calls Try.prog 14 #[.string (s.extract i s.size), .string ⟨#[123, 123]⟩] W fun e w' => e = .returned (.bool (decide (bAt s i = 123 ∧ bAt s (i + 1) = 123))) ∧ w' = W from
    (Try.strings_HasPrefix _ _ W).mono fun e w' ⟨h1, h2⟩ => ⟨by rw [h1]; exact ret_bool (has2 s i 123 123), h2⟩))
  have hac : Ascii ⟨#[123, 125, 10]⟩ := by
    intro j b hb
    rcases j with _ | _ | _ | j
    · simp at hb; subst hb; decide
    · simp at hb; subst hb; decide
    · simp at hb; subst hb; decide
    · simp at hb
  have HIA := Lib.hid (fun (a : Nat) W => (show Calls Try.prog 16 #[.string (s.extract a s.size), .string ⟨#[123, 125, 10]⟩] W fun e w' => e = .returned (.int .i64 (Lib.indexAny (s.extract a s.size).data.toList [123, 125, 10])) ∧ Below W.heap.size W w' from
    indexAny_any (s.extract a s.size) ⟨#[123, 125, 10]⟩ W (by rw [ByteArray.size_extract]; omega) (by decide) (by decide) hac))
  obtain ⟨i0, hi, hz0, hz1, hz2⟩ := info_parts infoFv
  clear hac
  go_enter Try.func10, Try.ntmps10
  go_wp2_with fail
  go_loopw [2, 5, 6] (fun vv tv iv wx => ∃ (i : Nat) (N : List (List UInt8)) (L : List FvT) (tx : ByteArray), iv = .int .i64 i ∧ i ≤ s.size ∧ tv = .string tx ∧ tx.size ≤ i ∧ Hid (TrRow s w i N L vv wx)) (fun _ _ iv _ => s.size - (intOf iv).toNat)
  case atStart => exact ⟨0, [], [], ⟨#[]⟩, rfl, Nat.zero_le _, rfl, Nat.le_refl _, Lib.hid ⟨OwnF.nil (Below.refl _ _), rfl, fun _ h => h, Nat.le_refl _, rfl⟩⟩
  case round =>
    obtain ⟨i, N, L, tx, rfl, hi1, rfl, htx, HR⟩ := hrel
    rename World => w0
    have hb := HR.out.own.bel
    have hN := HR.out.few
    have hLN := HR.out.len
    obtain ⟨A0, c0, rfl⟩ := own_shape HR.out.own.own
    obtain ⟨ml, hml⟩ : ∃ ml, ml = L.length := ⟨_, rfl⟩
    have HOW := Lib.hid HR.out.own.own
    have HML := Lib.hid hml
    have hle := hb.size
    have hml2 : ml ≤ 800000 := by omega
    rw [← hml] at HOW ⊢
    clear hml hLN
    by_cases hlt : i < s.size
    · have p1 : (i : Int) < s.size := by omega
      have p2 : (i : Int) ≤ s.size := by omega
      by_cases h3 : bAt s i = 123 ∧ bAt s (i + 1) = 123 ∧ bAt s (i + 2) = 123
      · have HC := Lib.hid (HP3.out i w0)
        rw [decide_eq_true h3] at HC
        have hlt3 : i + 2 < s.size := bAt_lt (by rw [h3.2.2]; decide)
        have HX : Hid (∀ v, v = Value.slice A0 ml c0 → TrRow s w (i + 3) N L v w0) := Lib.hid (fun v hv => by
          have hf := HML.out
          subst hv hf
          exact ⟨HR.out.own, HR.out.names, fun R h => HR.out.scan R (.esc h3.1 h3.2.1 h3.2.2 h), by omega, HR.out.len⟩)
        clear h3
        go_wp2_with (go_at_call 14; refine HC.out.mono ?_; rintro e1 w1 ⟨rfl, rfl⟩)
        go_roundw
        case rel => exact ⟨i + 3, N, L, _, by go_num, by omega, rfl, by first | (simp [ByteArray.size_append]; omega) | (rw [ByteArray.size_append]; show _ + 2 ≤ _; omega), Lib.hid (HX.out _ rfl)⟩
        case measure => simp [intOf]; omega
      · have HC := Lib.hid (HP3.out i w0)
        rw [decide_eq_false h3] at HC
        by_cases h2 : bAt s i = 123 ∧ bAt s (i + 1) = 123
        · have HD := Lib.hid (HP2.out i w0)
          rw [decide_eq_true h2] at HD
          have hlt2 : i + 1 < s.size := bAt_lt (by rw [h2.2]; decide)
          have hn3 : bAt s (i + 2) ≠ 123 := fun h => h3 ⟨h2.1, h2.2, h⟩
          have ha : i + 2 ≤ s.size := by omega
          have hk := nmE_le s 20 (i + 2) ha
          have hg := nmE_ge s 20 (i + 2)
          have HBAD : Hid (∀ p, fieldAt s (i + 2) = .bad p → ∀ w', Below w.heap.size w w' → TempIs s w (.returned (.tuple #[.slice none 0 0, .int .i64 p, .bool false])) w') := Lib.hid (fun p hp w' hb => ⟨hb, _, HR.out.scan _ (.bad h2.1 h2.2 hn3 hp), .inl ⟨p, rfl, rfl⟩⟩)
          have HGOOD : Hid (∀ k e, fieldAt s (i + 2) = .good k e → ∀ R, Scan s e (N ++ [(s.extract (i + 2) k).data.toList]) R → Scan s 0 [] R) := Lib.hid (fun k e hp R h => HR.out.scan R (.fld h2.1 h2.2 hn3 hp h))
          obtain ⟨K, hK⟩ : ∃ K, K = nmEnd s (i + 2) := ⟨_, rfl⟩
          change nmEnd s (i + 2) ≤ s.size at hk
          change i + 2 ≤ nmEnd s (i + 2) at hg
          rw [← hK] at hk hg
          have HK := Lib.hid hK
          clear h3 h2 hn3 hK
          go_upto_block 3 with (first
            | (go_at_call 14; refine HC.out.mono ?_; rintro e1 w1 ⟨rfl, rfl⟩)
            | (go_at_call 14; refine HD.out.mono ?_; rintro e1 w1 ⟨rfl, rfl⟩))
          rename World => w1
          go_cut [7] from 39 to 81 (fun kv wx => kv = .int .i64 (K : Int) ∧ w1 = wx)
          case first =>
            go_wp2_with fail
            go_loop [7] (fun kv => ∃ k : Nat, kv = .int .i64 k ∧ i + 2 ≤ k ∧ k ≤ i + 22 ∧ k ≤ s.size ∧ Hid (K = nmE s (20 - (k - (i + 2))) k)) (fun kv => s.size - (intOf kv).toNat)
            case atStart => exact ⟨i + 2, by go_num, Nat.le_refl _, by omega, ha, Lib.hid (by rw [Nat.sub_self]; exact HK.out)⟩
            case round =>
              obtain ⟨k, rfl, k1, k2, k3, HE⟩ := hrel
              by_cases hkl : k < s.size
              · have q1 : (k : Int) < s.size := by omega
                by_cases h20 : k < i + 22
                · have q2 : (k : Int) - i - 2 < 20 := by omega
                  have hbk := bAt_in hkl
                  have hc0 : (0 : Int) ≤ (s[k].toNat : Int) := by omega
                  rcases hn : isNm (bAt s k) with _ | _
                  · have HF : Hid (K = k) := Lib.hid (by rw [HE.out, nmE_stop hn])
                    rw [hbk] at hn
                    rcases nm_false hc0 hn with h | ⟨h, h'⟩ | ⟨h, h'⟩ | h
                    all_goals
                      have q3 : ((s[k].toNat : Int) == 45) = false := by simp; omega
                      clear hbk hn HE hc0
                      go_wp2_with fail
                      go_meet
                      exact ⟨by rw [HF.out], rfl⟩
                  · have HF : Hid (K = nmE s (20 - (k + 1 - (i + 2))) (k + 1)) := Lib.hid (by
                      rw [HE.out, show 20 - (k - (i + 2)) = (20 - (k + 1 - (i + 2))) + 1 by omega, nmE_go hn])
                    rw [hbk] at hn
                    rcases nm_true hn with h | ⟨h, h'⟩ | ⟨h, h'⟩
                    · have q3 : ((s[k].toNat : Int) == 45) = true := by simp; omega
                      clear hbk hn HE hc0
                      go_wp2_with fail
                      go_round
                      case rel => exact ⟨k + 1, by go_num, by omega, by omega, by omega, HF⟩
                      case measure => simp [intOf]; omega
                    all_goals
                      have q3 : ((s[k].toNat : Int) == 45) = false := by simp; omega
                      clear hbk hn HE hc0
                      go_wp2_with fail
                      go_round
                      case rel => exact ⟨k + 1, by go_num, by omega, by omega, by omega, HF⟩
                      case measure => simp [intOf]; omega
                · have q2 : ¬ (k : Int) - i - 2 < 20 := by omega
                  have HF : Hid (K = k) := Lib.hid (by rw [HE.out, show 20 - (k - (i + 2)) = 0 by omega]; rfl)
                  clear HE
                  go_wp2_with fail
                  go_meet
                  exact ⟨by rw [HF.out], rfl⟩
              · have q1 : ¬ (k : Int) < s.size := by omega
                have HF : Hid (K = k) := Lib.hid (by rw [HE.out, nmE_stop (by rw [bAt_out (by omega)]; decide)])
                clear HE
                go_wp2_with fail
                go_meet
                exact ⟨by rw [HF.out], rfl⟩
          case rest =>
            obtain ⟨rfl, rfl⟩ := hcut
            have HFA : Hid (fieldAt s (i + 2) = if K = i + 2 then .bad K else if bAt s (fEnd s K) ≠ 125 then .bad (fEnd s K) else if bAt s (fEnd s K + 1) ≠ 125 then .bad (fEnd s K + 1) else .good K (fEnd s K + 2)) := Lib.hid (by unfold fieldAt; rw [← HK.out])
            have hnz : (s.extract (i + 2) K).size = K - (i + 2) := by rw [ByteArray.size_extract]; omega
            have hsl0 : ∀ W : World, (Instr.slice 9 (.string s) (some (.int .i64 ((i : Int) + 2))) (some (.int .i64 (K : Int))) none).run Try.prog W = .ok (.string (s.extract (i + 2) K)) W := fun W => by
              rw [run_slice_string W _ _ _ _ _ _ Try.underlying9 (by omega) (by omega) (by omega), show ((i : Int) + 2).toNat = i + 2 by omega, Int.toNat_natCast]
            have q0 : (i : Int) + 2 ≤ K := by omega
            have q1 : (K : Int) ≤ s.size := by omega
            by_cases hemp : K = i + 2
            · have HF : Hid (∀ w', Below w.heap.size w w' → TempIs s w (.returned (.tuple #[.slice none 0 0, .int .i64 (K : Int), .bool false])) w') := Lib.hid (HBAD.out K (by rw [HFA.out, if_pos hemp]))
              have hn0 : s.extract (i + 2) K = ⟨#[]⟩ := by
                apply ByteArray.ext
                apply Array.eq_empty_of_size_eq_zero
                show (s.extract (i + 2) K).size = 0
                omega
              rw [hn0] at hsl0
              clear hnz hn0 hemp
              go_wp2_with fail
              go_ret3
              exact HF.out _ (hb.alloc hle _)
            · obtain ⟨nm, hnm⟩ : ∃ nm, nm = s.extract (i + 2) K := ⟨_, rfl⟩
              rw [← hnm] at hsl0 hnz
              have HNM := Lib.hid hnm
              have hne : ¬ nm.toList = [] := by
                rw [ByteArray.toList_eq]
                intro h
                have h2 := congrArg List.length h
                rw [← Lib.size_eq, List.length_nil] at h2
                omega
              have hne1 : nm.toList.isEmpty = false := by
                rcases h : nm.toList with _ | _
                · exact absurd h hne
                · rfl
              clear hnm hnz
              have HQ : Hid (∀ e, bAt s K = e → e ≠ 124 → e ≠ 125 → ∀ w', Below w.heap.size w w' → TempIs s w (.returned (.tuple #[.slice none 0 0, .int .i64 (K : Int), .bool false])) w') := Lib.hid (fun e he h1 h2 => HBAD.out K (by
                have hf : fEnd s K = K := by unfold fEnd; rw [if_neg (by omega)]
                rw [HFA.out, if_neg hemp, hf, if_pos (by omega)]))
              by_cases hkl : K < s.size
              · have q2 : (K : Int) < s.size := by omega
                have q4 : ((K : Int) == (s.size : Int)) = false := by simp; omega
                have hbk := bAt_in hkl
                rcases (by omega : bAt s K = 124 ∨ bAt s K = 125 ∨ (bAt s K ≠ 124 ∧ bAt s K ≠ 125)) with h1 | h1 | ⟨h1, h2⟩
                · have q5 : ((s[K].toNat : Int) == 124) = true := by rw [beq_iff_eq, ← hbk]; exact h1
                  have q6 : ((s[K].toNat : Int) != 124) = false := by rw [bne_eq_false_iff_eq, ← hbk]; exact h1
                  have hK1 : K + 1 ≤ s.size := hkl
                  have q7 : (K : Int) + 1 ≤ s.size := by omega
                  obtain ⟨n, hn⟩ : ∃ n, n = Lib.indexAny (s.extract (K + 1) s.size).data.toList [123, 125, 10] := ⟨_, rfl⟩
                  have HC2 : Hid (∀ W, Calls Try.prog 16 #[.string (s.extract (K + 1) s.size), .string ⟨#[123, 125, 10]⟩] W fun e w' => e = .returned (.int .i64 n) ∧ Below W.heap.size W w') := Lib.hid (fun W => by rw [hn]; exact HIA.out (K + 1) W)
                  have HFE : Hid (fEnd s K = if n < 0 then s.size else K + 1 + n.toNat) := Lib.hid (by unfold fEnd; rw [if_pos h1]; unfold oEnd; rw [hn])
                  have hnlt : n < 0 ∨ n < (s.size : Int) - ((K : Int) + 1) := by
                    have h := indexAny_lt [123, 125, 10] (s.extract (K + 1) s.size).data.toList
                    rw [← hn, Lib.extract_to_end, List.length_drop, ← Lib.size_eq] at h
                    omega
                  clear h1 hbk hn
                  go_wp2_with fail
                  refine (HC2.out _).mono ?_
                  rintro e2 w2 ⟨rfl, hb2⟩
                  have hbl2 : w2.heap[w1.heap.size]? = some (.cells #[.string ⟨#[]⟩, .string nm, .string ⟨#[]⟩, .bool true, .bool true] 43 (0, 0)) := (hb2.block _ (by simp)).trans (heap_alloc_new w1 _)
                  have HW2 : Hid (Below w1.heap.size w1 w2) := Lib.hid (((Below.refl _ w1).alloc (Nat.le_refl _) (.cells #[.string ⟨#[]⟩, .string nm, .string ⟨#[]⟩, .bool true, .bool true] 43)).trans (hb2.mono (by simp)))
                  clear hb2
                  by_cases hn0 : n < 0
                  · have HF := Lib.hid (HBAD.out s.size (by rw [HFA.out, if_neg hemp, HFE.out, if_pos hn0, if_pos (by rw [bAt_out (Nat.le_refl _)]; decide)]) _ (hb.trans (HW2.out.mono hle)))
                    clear hbl2
                    go_wp2_with fail
                    go_ret3
                    exact HF.out
                  · obtain ⟨e0, he0⟩ : ∃ e0, e0 = K + 1 + n.toNat := ⟨_, rfl⟩
                    have hs1 : (K : Int) + 1 + n = (e0 : Int) := by omega
                    have hs2 : (K : Int) + (1 + n) = (e0 : Int) := by omega
                    have hlt0 : e0 < s.size := by omega
                    have hge0 : K + 1 ≤ e0 := by omega
                    have HE0 : Hid (fEnd s K = e0) := Lib.hid (by rw [HFE.out, if_neg hn0, he0])
                    obtain ⟨ot, hot⟩ : ∃ ot, ot = s.extract (K + 1) e0 := ⟨_, rfl⟩
                    have hsl4 : ∀ W : World, (Instr.slice 9 (.string s) (some (.int .i64 ((K : Int) + 1))) (some (.int .i64 (e0 : Int))) none).run Try.prog W = .ok (.string ot) W := fun W => by
                      rw [run_slice_string W _ _ _ _ _ _ Try.underlying9 (by omega) (by omega) (by omega), show ((K : Int) + 1).toNat = K + 1 by omega, Int.toNat_natCast, hot]
                    clear he0 hot
                    have v0 : w2.cell? ⟨w1.heap.size, 2, none⟩ = some (.string ⟨#[]⟩) := cell_of_row w2 _ 2 _ _ (0, 0) hbl2
                    have v1 := frozen_of_row w2 w1.heap.size 2 _ _ hbl2
                    have s0 : (e0 : Int) < s.size := by omega
                    have hb7 := bAt_in hlt0
                    by_cases hc7 : bAt s e0 = 125
                    · have s1 : ((s[e0].toNat : Int) != 125) = false := by rw [bne_eq_false_iff_eq, ← hb7]; exact hc7
                      have HTAIL : Hid (fEnd s K = e0) ∧ Hid (bAt s e0 = 125) ∧ e0 < s.size := ⟨HE0, Lib.hid hc7, hlt0⟩
                      clear hc7 hb7
                      have hbl : (w2.setCell ⟨w1.heap.size, 2, none⟩ (.string ot)).heap[w1.heap.size]? = some (.cells #[.string ⟨#[]⟩, .string nm, .string ot, .bool true, .bool true] 43 (0, 0)) := heap_setCell_same _ _ _ _ _ _ hbl2
                      have HBW : Hid (Below w1.heap.size w1 (w2.setCell ⟨w1.heap.size, 2, none⟩ (.string ot))) := Lib.hid (HW2.out.setCell (p := ⟨w1.heap.size, 2, none⟩) (Nat.le_refl _) (.string ot))
                      have HOWW : Hid ((w2.setCell ⟨w1.heap.size, 2, none⟩ (.string ot)).ownsRow w.heap.size 43 5 (.slice A0 ml c0) ml (L.flatMap FvT.cells)) := Lib.hid (own_kept HOW.out (fun g hg => HBW.out.block g (HOW.out.lt g hg).2))
                      have hWs : w.heap.size ≤ (w2.setCell ⟨w1.heap.size, 2, none⟩ (.string ot)).heap.size := Nat.le_trans hle HBW.out.size
                      clear hbl2
                      obtain ⟨HE, HB5, hle3⟩ : Hid (fEnd s K = e0) ∧ Hid (bAt s e0 = 125) ∧ e0 < s.size := HTAIL
                      have r0 : ((e0 : Nat) : Int) < s.size := by omega
                      have HW5 := Lib.hid (HR.out.own.later HBW.out)
                      have HRN : Hid (∀ q u, [Value.string tx, .string ⟨#[]⟩, .string ⟨#[]⟩, .bool false, .bool false, .string ⟨#[]⟩, .string nm, .string ot, .bool true, .bool true][q]? = some u → ((w2.setCell ⟨w1.heap.size, 2, none⟩ (.string ot)).alloc (.cells #[.string tx, .string ⟨#[]⟩, .string ⟨#[]⟩, .bool false, .bool false, .string ⟨#[]⟩, .string nm, .string ot, .bool true, .bool true] 43)).cell? ((⟨w2.heap.size, 0, none⟩ : Addr).add q) = some u) := Lib.hid (by
                        intro q u hq
                        have := row_news (w2.setCell ⟨w1.heap.size, 2, none⟩ (.string ot)) [.string tx, .string ⟨#[]⟩, .string ⟨#[]⟩, .bool false, .bool false, .string ⟨#[]⟩, .string nm, .string ot, .bool true, .bool true] 43 q u hq
                        have hz : (w2.setCell ⟨w1.heap.size, 2, none⟩ (.string ot)).heap.size = w2.heap.size := by simp
                        rw [hz] at this
                        exact this)
                      have hWs2 : w.heap.size ≤ w2.heap.size := by simpa using hWs
                      have HBB := Lib.hid (hb.trans (HBW.out.mono hle))
                      have y0 : (w2.setCell ⟨w1.heap.size, 2, none⟩ (.string ot)).cell? ⟨w1.heap.size, 0, none⟩ = some (.string ⟨#[]⟩) := cell_of_row (w2.setCell ⟨w1.heap.size, 2, none⟩ (.string ot)) _ 0 _ _ (0, 0) hbl
                      have y1 : (w2.setCell ⟨w1.heap.size, 2, none⟩ (.string ot)).cell? ⟨w1.heap.size, 1, none⟩ = some (.string nm) := cell_of_row (w2.setCell ⟨w1.heap.size, 2, none⟩ (.string ot)) _ 1 _ _ (0, 0) hbl
                      have y2 : (w2.setCell ⟨w1.heap.size, 2, none⟩ (.string ot)).cell? ⟨w1.heap.size, 2, none⟩ = some (.string ot) := cell_of_row (w2.setCell ⟨w1.heap.size, 2, none⟩ (.string ot)) _ 2 _ _ (0, 0) hbl
                      have y3 : (w2.setCell ⟨w1.heap.size, 2, none⟩ (.string ot)).cell? ⟨w1.heap.size, 3, none⟩ = some (.bool true) := cell_of_row (w2.setCell ⟨w1.heap.size, 2, none⟩ (.string ot)) _ 3 _ _ (0, 0) hbl
                      have y4 : (w2.setCell ⟨w1.heap.size, 2, none⟩ (.string ot)).cell? ⟨w1.heap.size, 4, none⟩ = some (.bool true) := cell_of_row (w2.setCell ⟨w1.heap.size, 2, none⟩ (.string ot)) _ 4 _ _ (0, 0) hbl
                      have z0 := frozen_of_row (w2.setCell ⟨w1.heap.size, 2, none⟩ (.string ot)) w1.heap.size 0 _ _ hbl
                      have z1 := frozen_of_row (w2.setCell ⟨w1.heap.size, 2, none⟩ (.string ot)) w1.heap.size 1 _ _ hbl
                      have z2 := frozen_of_row (w2.setCell ⟨w1.heap.size, 2, none⟩ (.string ot)) w1.heap.size 2 _ _ hbl
                      have z3 := frozen_of_row (w2.setCell ⟨w1.heap.size, 2, none⟩ (.string ot)) w1.heap.size 3 _ _ hbl
                      have z4 := frozen_of_row (w2.setCell ⟨w1.heap.size, 2, none⟩ (.string ot)) w1.heap.size 4 _ _ hbl
                      clear hbl
                      by_cases hl1 : e0 + 1 < s.size
                      · have r1 : ((e0 : Nat) : Int) + 1 < s.size := by omega
                        have hb6 := bAt_in hl1
                        have r4 : (((e0 : Nat) : Int) + 1 == (s.size : Int)) = false := by simp; omega
                        by_cases hc : bAt s (e0 + 1) = 125
                        · have r2 : (s[e0 + 1].toNat : Int) = 125 := by rw [← hb6]; exact hc
                          have HG := Lib.hid (HGOOD.out K (e0 + 2) (by rw [HFA.out, if_neg hemp, HE.out, if_neg (fun h => h HB5.out), if_neg (fun h => h hc)]))
                          clear hc hb6
                          go_wp2_with (at_builtin; refine wpList_append_lies _ rfl _ _ 25 rfl w.heap.size 43 i0 _ 5 56 Try.underlying25 hi hz0 hz1 hz2 rfl (by omega) (.slice A0 ml c0) ml (L.flatMap FvT.cells) rfl (HOWW.out.alloc _) ⟨w2.heap.size, 0, none⟩ 2 2 [.string tx, .string ⟨#[]⟩, .string ⟨#[]⟩, .bool false, .bool false, .string ⟨#[]⟩, .string nm, .string ot, .bool true, .bool true] rfl rfl HRN.out (by simp [Value.oneCell']) (by omega) (by unfold maxLen; omega) (by omega) (by first | omega | (simp; omega)) _ rfl ?_)
                          intro gg cap w4 ho4 hg4 hat4 hlt4
                          have HF : Hid (TrRow s w (e0 + 2) (N ++ [nm.data.toList]) (L ++ [⟨tx, ⟨#[]⟩, ⟨#[]⟩, false, false⟩, ⟨⟨#[]⟩, nm, ot, true, true⟩]) (.slice (some ⟨gg, 0, none⟩) (ml + 2) cap) w4) := Lib.hid (by
                            have hf := HML.out
                            subst hf
                            have hp := HW5.out.push2 (p := ⟨tx, ⟨#[]⟩, ⟨#[]⟩, false, false⟩) (q := ⟨⟨#[]⟩, nm, ot, true, true⟩) ho4 hg4
                            refine ⟨hp, ?_, ?_, ?_, ?_⟩
                            · rw [fNames_two, HR.out.names]; rfl
                            · intro R h
                              refine HG.out R ?_
                              rw [← HNM.out]
                              exact h
                            · rw [List.length_append]
                              have := HR.out.few
                              simp
                              omega
                            · rw [List.length_append, List.length_append, HR.out.len]
                              simp
                              omega)
                          clear ho4 hg4 hat4
                          go_wp2_with fail
                          go_roundw
                          case rel => exact ⟨e0 + 2, _, _, ⟨#[]⟩, by go_num, by omega, rfl, Nat.zero_le _, HF⟩
                          case measure => simp [intOf]; omega
                        · have r2 : ((s[e0 + 1].toNat : Int) != 125) = true := by rw [bne_iff_ne, ← hb6]; exact hc
                          have HF := Lib.hid (HBAD.out (e0 + 1) (by rw [HFA.out, if_neg hemp, HE.out, if_neg (fun h => h HB5.out), if_pos hc]) _ HBB.out)
                          clear hc hb6
                          go_wp2_with fail
                          go_ret3
                          exact HF.out
                      · have r4 : (((e0 : Nat) : Int) + 1 == (s.size : Int)) = true := by simp; omega
                        have HF := Lib.hid (HBAD.out (e0 + 1) (by rw [HFA.out, if_neg hemp, HE.out, if_neg (fun h => h HB5.out), if_pos (by rw [bAt_out (by omega)]; decide)]) _ HBB.out)
                        go_wp2_with fail
                        go_ret3
                        exact HF.out
                    · have s1 : ((s[e0].toNat : Int) != 125) = true := by rw [bne_iff_ne, ← hb7]; exact hc7
                      have HF := Lib.hid (HBAD.out e0 (by rw [HFA.out, if_neg hemp, HE0.out, if_pos hc7]) _ (hb.trans ((HW2.out.setCell (p := ⟨w1.heap.size, 2, none⟩) (Nat.le_refl _) (.string ot)).mono hle)))
                      clear hc7 hb7 hbl2
                      go_wp2_with fail
                      go_ret3
                      exact HF.out
                · have q3 : (s[K].toNat : Int) = 125 := by rw [← hbk]; exact h1
                  have HTAIL : Hid (fEnd s K = K) ∧ Hid (bAt s K = 125) ∧ K < s.size := ⟨Lib.hid (by unfold fEnd; rw [if_neg (by omega)]), Lib.hid h1, hkl⟩
                  clear h1 hbk
                  have q5 : ((s[K].toNat : Int) != 124) = true := by rw [bne_iff_ne]; omega
                  have q6 : ((s[K].toNat : Int) != 125) = false := by rw [bne_eq_false_iff_eq]; omega
                  have hbl : (w1.alloc (.cells #[.string ⟨#[]⟩, .string nm, .string ⟨#[]⟩, .bool true, .bool false] 43)).heap[w1.heap.size]? = some (.cells #[.string ⟨#[]⟩, .string nm, .string ⟨#[]⟩, .bool true, .bool false] 43 (0, 0)) := heap_alloc_new w1 _
                  have HBW : Hid (Below w1.heap.size w1 (w1.alloc (.cells #[.string ⟨#[]⟩, .string nm, .string ⟨#[]⟩, .bool true, .bool false] 43))) := Lib.hid ((Below.refl _ _).alloc (Nat.le_refl _) _)
                  have HOWW : Hid ((w1.alloc (.cells #[.string ⟨#[]⟩, .string nm, .string ⟨#[]⟩, .bool true, .bool false] 43)).ownsRow w.heap.size 43 5 (.slice A0 ml c0) ml (L.flatMap FvT.cells)) := Lib.hid (own_kept HOW.out (fun g hg => HBW.out.block g (HOW.out.lt g hg).2))
                  have hWs : w.heap.size ≤ (w1.alloc (.cells #[.string ⟨#[]⟩, .string nm, .string ⟨#[]⟩, .bool true, .bool false] 43)).heap.size := Nat.le_trans hle HBW.out.size
                  obtain ⟨HE, HB5, hle3⟩ : Hid (fEnd s K = K) ∧ Hid (bAt s K = 125) ∧ K < s.size := HTAIL
                  have r0 : ((K : Nat) : Int) < s.size := by omega
                  have HW5 := Lib.hid (HR.out.own.later HBW.out)
                  have HRN : Hid (∀ q u, [Value.string tx, .string ⟨#[]⟩, .string ⟨#[]⟩, .bool false, .bool false, .string ⟨#[]⟩, .string nm, .string ⟨#[]⟩, .bool true, .bool false][q]? = some u → ((w1.alloc (.cells #[.string ⟨#[]⟩, .string nm, .string ⟨#[]⟩, .bool true, .bool false] 43)).alloc (.cells #[.string tx, .string ⟨#[]⟩, .string ⟨#[]⟩, .bool false, .bool false, .string ⟨#[]⟩, .string nm, .string ⟨#[]⟩, .bool true, .bool false] 43)).cell? ((⟨w1.heap.size + 1, 0, none⟩ : Addr).add q) = some u) := Lib.hid (by
                    intro q u hq
                    have := row_news (w1.alloc (.cells #[.string ⟨#[]⟩, .string nm, .string ⟨#[]⟩, .bool true, .bool false] 43)) [.string tx, .string ⟨#[]⟩, .string ⟨#[]⟩, .bool false, .bool false, .string ⟨#[]⟩, .string nm, .string ⟨#[]⟩, .bool true, .bool false] 43 q u hq
                    have hz : (w1.alloc (.cells #[.string ⟨#[]⟩, .string nm, .string ⟨#[]⟩, .bool true, .bool false] 43)).heap.size = w1.heap.size + 1 := by simp
                    rw [hz] at this
                    exact this)
                  have hWs2 : w.heap.size ≤ w1.heap.size + 1 := by simpa using hWs
                  have HBB := Lib.hid (hb.trans (HBW.out.mono hle))
                  have y0 : (w1.alloc (.cells #[.string ⟨#[]⟩, .string nm, .string ⟨#[]⟩, .bool true, .bool false] 43)).cell? ⟨w1.heap.size, 0, none⟩ = some (.string ⟨#[]⟩) := cell_of_row (w1.alloc (.cells #[.string ⟨#[]⟩, .string nm, .string ⟨#[]⟩, .bool true, .bool false] 43)) _ 0 _ _ (0, 0) hbl
                  have y1 : (w1.alloc (.cells #[.string ⟨#[]⟩, .string nm, .string ⟨#[]⟩, .bool true, .bool false] 43)).cell? ⟨w1.heap.size, 1, none⟩ = some (.string nm) := cell_of_row (w1.alloc (.cells #[.string ⟨#[]⟩, .string nm, .string ⟨#[]⟩, .bool true, .bool false] 43)) _ 1 _ _ (0, 0) hbl
                  have y2 : (w1.alloc (.cells #[.string ⟨#[]⟩, .string nm, .string ⟨#[]⟩, .bool true, .bool false] 43)).cell? ⟨w1.heap.size, 2, none⟩ = some (.string ⟨#[]⟩) := cell_of_row (w1.alloc (.cells #[.string ⟨#[]⟩, .string nm, .string ⟨#[]⟩, .bool true, .bool false] 43)) _ 2 _ _ (0, 0) hbl
                  have y3 : (w1.alloc (.cells #[.string ⟨#[]⟩, .string nm, .string ⟨#[]⟩, .bool true, .bool false] 43)).cell? ⟨w1.heap.size, 3, none⟩ = some (.bool true) := cell_of_row (w1.alloc (.cells #[.string ⟨#[]⟩, .string nm, .string ⟨#[]⟩, .bool true, .bool false] 43)) _ 3 _ _ (0, 0) hbl
                  have y4 : (w1.alloc (.cells #[.string ⟨#[]⟩, .string nm, .string ⟨#[]⟩, .bool true, .bool false] 43)).cell? ⟨w1.heap.size, 4, none⟩ = some (.bool false) := cell_of_row (w1.alloc (.cells #[.string ⟨#[]⟩, .string nm, .string ⟨#[]⟩, .bool true, .bool false] 43)) _ 4 _ _ (0, 0) hbl
                  have z0 := frozen_of_row (w1.alloc (.cells #[.string ⟨#[]⟩, .string nm, .string ⟨#[]⟩, .bool true, .bool false] 43)) w1.heap.size 0 _ _ hbl
                  have z1 := frozen_of_row (w1.alloc (.cells #[.string ⟨#[]⟩, .string nm, .string ⟨#[]⟩, .bool true, .bool false] 43)) w1.heap.size 1 _ _ hbl
                  have z2 := frozen_of_row (w1.alloc (.cells #[.string ⟨#[]⟩, .string nm, .string ⟨#[]⟩, .bool true, .bool false] 43)) w1.heap.size 2 _ _ hbl
                  have z3 := frozen_of_row (w1.alloc (.cells #[.string ⟨#[]⟩, .string nm, .string ⟨#[]⟩, .bool true, .bool false] 43)) w1.heap.size 3 _ _ hbl
                  have z4 := frozen_of_row (w1.alloc (.cells #[.string ⟨#[]⟩, .string nm, .string ⟨#[]⟩, .bool true, .bool false] 43)) w1.heap.size 4 _ _ hbl
                  clear hbl
                  by_cases hl1 : K + 1 < s.size
                  · have r1 : ((K : Nat) : Int) + 1 < s.size := by omega
                    have hb6 := bAt_in hl1
                    have r4 : (((K : Nat) : Int) + 1 == (s.size : Int)) = false := by simp; omega
                    by_cases hc : bAt s (K + 1) = 125
                    · have r2 : (s[K + 1].toNat : Int) = 125 := by rw [← hb6]; exact hc
                      have HG := Lib.hid (HGOOD.out K (K + 2) (by rw [HFA.out, if_neg hemp, HE.out, if_neg (fun h => h HB5.out), if_neg (fun h => h hc)]))
                      clear hc hb6
                      go_wp2_with (at_builtin; refine wpList_append_lies _ rfl _ _ 25 rfl w.heap.size 43 i0 _ 5 56 Try.underlying25 hi hz0 hz1 hz2 rfl (by omega) (.slice A0 ml c0) ml (L.flatMap FvT.cells) rfl (HOWW.out.alloc _) ⟨w1.heap.size + 1, 0, none⟩ 2 2 [.string tx, .string ⟨#[]⟩, .string ⟨#[]⟩, .bool false, .bool false, .string ⟨#[]⟩, .string nm, .string ⟨#[]⟩, .bool true, .bool false] rfl rfl HRN.out (by simp [Value.oneCell']) (by omega) (by unfold maxLen; omega) (by omega) (by first | omega | (simp; omega)) _ rfl ?_)
                      intro gg cap w4 ho4 hg4 hat4 hlt4
                      have HF : Hid (TrRow s w (K + 2) (N ++ [nm.data.toList]) (L ++ [⟨tx, ⟨#[]⟩, ⟨#[]⟩, false, false⟩, ⟨⟨#[]⟩, nm, ⟨#[]⟩, true, false⟩]) (.slice (some ⟨gg, 0, none⟩) (ml + 2) cap) w4) := Lib.hid (by
                        have hf := HML.out
                        subst hf
                        have hp := HW5.out.push2 (p := ⟨tx, ⟨#[]⟩, ⟨#[]⟩, false, false⟩) (q := ⟨⟨#[]⟩, nm, ⟨#[]⟩, true, false⟩) ho4 hg4
                        refine ⟨hp, ?_, ?_, ?_, ?_⟩
                        · rw [fNames_two, HR.out.names]; rfl
                        · intro R h
                          refine HG.out R ?_
                          rw [← HNM.out]
                          exact h
                        · rw [List.length_append]
                          have := HR.out.few
                          simp
                          omega
                        · rw [List.length_append, List.length_append, HR.out.len]
                          simp
                          omega)
                      clear ho4 hg4 hat4
                      go_wp2_with fail
                      go_roundw
                      case rel => exact ⟨K + 2, _, _, ⟨#[]⟩, by go_num, by omega, rfl, Nat.zero_le _, HF⟩
                      case measure => simp [intOf]; omega
                    · have r2 : ((s[K + 1].toNat : Int) != 125) = true := by rw [bne_iff_ne, ← hb6]; exact hc
                      have HF := Lib.hid (HBAD.out (K + 1) (by rw [HFA.out, if_neg hemp, HE.out, if_neg (fun h => h HB5.out), if_pos hc]) _ HBB.out)
                      clear hc hb6
                      go_wp2_with fail
                      go_ret3
                      exact HF.out
                  · have r4 : (((K : Nat) : Int) + 1 == (s.size : Int)) = true := by simp; omega
                    have HF := Lib.hid (HBAD.out (K + 1) (by rw [HFA.out, if_neg hemp, HE.out, if_neg (fun h => h HB5.out), if_pos (by rw [bAt_out (by omega)]; decide)]) _ HBB.out)
                    go_wp2_with fail
                    go_ret3
                    exact HF.out
                · have q5 : ((s[K].toNat : Int) != 124) = true := by rw [bne_iff_ne, ← hbk]; exact h1
                  have q6 : ((s[K].toNat : Int) != 125) = true := by rw [bne_iff_ne, ← hbk]; exact h2
                  have HF := Lib.hid (HQ.out (bAt s K) rfl h1 h2)
                  clear h1 h2 hbk
                  go_wp2_with fail
                  go_ret3
                  exact HF.out _ (hb.alloc hle _)
              · have hke : K = s.size := by omega
                have q2 : ((K : Int) == (s.size : Int)) = true := by simp; omega
                have HF := Lib.hid (HQ.out (-1) (bAt_out (by omega)) (by decide) (by decide))
                clear hke
                go_wp2_with fail
                go_ret3
                exact HF.out _ (hb.alloc hle _)
        · have HD := Lib.hid (HP2.out i w0)
          rw [decide_eq_false h2] at HD
          have HX : Hid (∀ v, v = Value.slice A0 ml c0 → TrRow s w (i + 1) N L v w0) := Lib.hid (fun v hv => by
            have hf := HML.out
            subst hv hf
            exact ⟨HR.out.own, HR.out.names, fun R h => HR.out.scan R (.one hlt h2 h), by omega, HR.out.len⟩)
          have p3 : (i : Int) + 1 ≤ s.size := by omega
          have hz : (s.extract i (i + 1)).size = 1 := by rw [ByteArray.size_extract]; omega
          have hsl : ∀ W : World, (Instr.slice 9 (.string s) (some (.int .i64 (i : Int))) (some (.int .i64 ((i : Int) + 1))) none).run Try.prog W = .ok (.string (s.extract i (i + 1))) W := fun W => by
            rw [run_slice_string W _ _ _ _ _ _ Try.underlying9 (by omega) (by omega) (by omega), Int.toNat_natCast, show ((i : Int) + 1).toNat = i + 1 by omega]
          clear h3 h2
          go_wp2_with (first
            | (go_at_call 14; refine HC.out.mono ?_; rintro e1 w1 ⟨rfl, rfl⟩)
            | (go_at_call 14; refine HD.out.mono ?_; rintro e1 w1 ⟨rfl, rfl⟩))
          go_roundw
          case rel => exact ⟨i + 1, N, L, _, by go_num, by omega, rfl, by rw [ByteArray.size_append]; omega, Lib.hid (HX.out _ rfl)⟩
          case measure => simp [intOf]; omega
    · have p1 : ¬ (i : Int) < s.size := by omega
      have HS : Hid (Scan s 0 [] (.ok N)) := Lib.hid (HR.out.scan _ (.stop (by omega)))
      go_wp2_with (at_builtin; refine wpList_append_lies _ rfl _ _ 25 rfl w.heap.size 43 i0 _ 5 56 Try.underlying25 hi hz0 hz1 hz2 rfl (by omega) (.slice A0 ml c0) ml (L.flatMap FvT.cells) rfl (HOW.out.alloc _) ⟨w0.heap.size, 0, none⟩ 1 1 [.string tx, .string ⟨#[]⟩, .string ⟨#[]⟩, .bool false, .bool false] rfl rfl (by intro q' u hq'; have := row_news w0 [.string tx, .string ⟨#[]⟩, .string ⟨#[]⟩, .bool false, .bool false] 43 q' u hq'; simpa using this) (by simp [Value.oneCell']) (by omega) (by unfold maxLen; omega) (by omega) (by first | omega | (simp; omega)) _ rfl ?_)
      intro gg cap w4 ho4 hg4 hat4 hlt4
      have HF : Hid (TempIs s w (.returned (.tuple #[.slice (some ⟨gg, 0, none⟩) (ml + 1) cap, .int .i64 0, .bool true])) w4) := Lib.hid (by
        have hf := HML.out
        subst hf
        have hp := HR.out.own.push1 (p := ⟨tx, ⟨#[]⟩, ⟨#[]⟩, false, false⟩) ho4 hg4
        refine ⟨hp.bel, _, HS.out, .inr ⟨N, _, _, rfl, rfl, hp, ?_, ?_, ?_⟩⟩
        · rw [fNames_snoc, show fName1 ⟨tx, ⟨#[]⟩, ⟨#[]⟩, false, false⟩ = [] from rfl, List.append_nil]; exact HR.out.names
        · rw [List.length_append, HR.out.len]; rfl
        · rw [List.length_append]; simp; omega)
      clear ho4 hg4 hat4
      go_wp2_with fail
      go_ret3
      exact HF.out
end Go.Proofs.Ytcnhklnjgknffaa
