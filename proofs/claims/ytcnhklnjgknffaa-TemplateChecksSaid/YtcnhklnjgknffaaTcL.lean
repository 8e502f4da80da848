/- Templates: the law. -/
import Derived.Test.YtcnhklnjgknffaaTcI
namespace Go.Proofs.Ytcnhklnjgknffaa
open Go.RowKit Go.Shelf Go.Sort

/-- The names that Fields is to give. -/
def tcT : Res → List (List UInt8) | .err _ => [] | .ok N => if 40 < N.length then [] else Lib.compact (sortS N)
theorem tcT_none {R : Res} (h : tcE R ≠ 0) : tcT R = [] := by
  cases R with
  | err p => rfl
  | ok N =>
    unfold tcT
    unfold tcE at h
    by_cases h40 : 40 < N.length
    · exact if_pos h40
    · exact absurd (if_neg h40) h
theorem tcT_ok {N : List (List UInt8)} (h : tcE (.ok N) = 0) : tcT (.ok N) = Lib.compact (sortS N) ∧ N.length ≤ 40 := by
  have h40 : ¬ 40 < N.length := fun g => by
    have e : tcE (.ok N) = 4 := if_pos g
    omega
  exact ⟨if_neg h40, by omega⟩
theorem tcT_len (R : Res) : (tcT R).length ≤ 40 := by
  cases R with
  | err p => exact Nat.zero_le _
  | ok N =>
    show (if 40 < N.length then [] else Lib.compact (sortS N)).length ≤ 40
    by_cases h40 : 40 < N.length
    · rw [if_pos h40]; exact Nat.zero_le _
    · rw [if_neg h40]
      have h1 := compact_len (sortS N)
      have h2 := sortS_len N
      omega
/-- What CheckTemplate says settles what the three others say. -/
theorem same_of_check {s : ByteArray} {w w' : World} {e : Ending} (h : CheckIs s w e w') : ∃ (P E : Int) (T : List (List UInt8)), e = .returned (.tuple #[.int .i64 P, .int .i64 E]) ∧ T.length ≤ 40 ∧
    (∀ w e w', FaultIs s w e w' → ∃ v, e = .returned (.tuple #[v, .int .i64 P, .int .i64 E]) ∧ Below w.heap.size w w') ∧
    (∀ w e w', FieldsIs s w e w' → ∃ v b, e = .returned (.tuple #[v, .int .i64 E]) ∧ Below w.heap.size w w' ∧ w'.ownsRow b 9 1 v T.length (T.map encStr)) := by
  obtain ⟨_, ⟨hbig, rfl⟩ | ⟨hs, R, hR, rfl⟩⟩ := h
  · refine ⟨0, 4, [], rfl, Nat.zero_le _, ?_, ?_⟩
    · rintro w e w' ⟨hb, ⟨_, rfl⟩ | ⟨hs, _⟩⟩
      · exact ⟨_, rfl, hb⟩
      · omega
    · rintro w e w' ⟨hb, ⟨_, rfl⟩ | ⟨hs, _⟩⟩
      · exact ⟨_, 0, rfl, hb, World.ownsRow_nil _ _ _ _⟩
      · omega
  · refine ⟨tcP R, tcE R, tcT R, rfl, tcT_len R, ?_, ?_⟩
    · rintro w e w' ⟨hb, ⟨hbig, _⟩ | ⟨_, R', hR', h⟩⟩
      · omega
      · obtain rfl := Scan.unique hR hR'
        rcases h with ⟨_, rfl⟩ | ⟨N, v, L, rfl, e2, rfl, _⟩
        · exact ⟨_, rfl, hb⟩
        · rw [e2]
          exact ⟨v, rfl, hb⟩
    · rintro w e w' ⟨hb, ⟨hbig, _⟩ | ⟨_, R', hR', h⟩⟩
      · omega
      · obtain rfl := Scan.unique hR hR'
        rcases h with ⟨hne, rfl⟩ | ⟨N, v, b, rfl, e2, rfl, ho⟩
        · rw [tcT_none hne]
          exact ⟨_, 0, rfl, hb, World.ownsRow_nil _ _ _ _⟩
        · rw [(tcT_ok e2).1, e2]
          exact ⟨v, b, rfl, hb, ho⟩
theorem MaxL.kept {w w' : World} (h : MaxL w) (hb : Below w.heap.size w w') : MaxL w' := by
  obtain ⟨m, hm⟩ := h
  exact ⟨m, (hb.cell (World.block_lt_of_cell? w _ hm)).trans hm⟩

set_option maxRecDepth 100000 in
set_option maxHeartbeats 4000000 in
theorem templateChecks_any (s : ByteArray) (w : World) (hm : MaxL w) :
    Calls Try.prog 3 #[.string s] w fun e w' => e = .returned (.bool true) ∧ Below w.heap.size w w' := by
  have HC := Lib.hid (checkTemplate_any s w hm)
  have HM := Lib.hid hm
  clear hm
  go_enter Try.func3, Try.ntmps3
  go_wp2_with fail
  refine HC.out.mono ?_
  rintro e1 w1 h1
  obtain ⟨P, E, T, rfl, hT, hF, hL⟩ := same_of_check h1
  have HB1 := Lib.hid h1.1
  have HF := Lib.hid hF
  have HL := Lib.hid hL
  clear h1 hF hL
  go_wp2_with fail
  refine (fault_any s w1).mono ?_
  rintro e2 w2 h2
  obtain ⟨v2, rfl, hb2⟩ := HF.out _ _ _ h2
  have HB2 := Lib.hid (HB1.out.trans (hb2.mono HB1.out.size))
  clear h2 hb2
  go_wp2_with fail
  refine (fields_any s w2 (HM.out.kept HB2.out)).mono ?_
  rintro e3 w3 h3
  obtain ⟨v3, b3, rfl, hb3, ho3⟩ := HL.out _ _ _ h3
  have HB3 := Lib.hid (HB2.out.trans (hb3.mono HB2.out.size))
  have HO3 := Lib.hid ho3
  clear h3 hb3 ho3
  go_wp2_with fail
  refine (fieldsOf_any s w3).mono ?_
  rintro e4 w4 h4
  obtain ⟨v4, b4, rfl, hb4, ho4⟩ := HL.out _ _ _ h4
  have HB4 := Lib.hid (HB3.out.trans (hb4.mono HB3.out.size))
  have HQ := Lib.hid (fun W => strsEqual_any (b1 := b3) (b2 := b4) v3 v4 T W (by omega))
  have HO4 := Lib.hid ho4
  have HO5 := Lib.hid (own_kept HO3.out (fun g hg => hb4.block g (HO3.out.lt g hg).2))
  clear h4 hb4 ho4
  go_wp2_with fail
  refine (HQ.out w4 HO5.out HO4.out).mono ?_
  rintro e5 w5 ⟨rfl, hb5⟩
  have HB5 := Lib.hid (HB4.out.trans (hb5.mono HB4.out.size))
  clear hb5
  go_wp2_with fail
  go_ret
  exact ⟨rfl, HB5.out⟩
end Go.Proofs.Ytcnhklnjgknffaa
