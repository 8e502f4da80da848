/- The law TextSpans returns true, and leaves what lay in memory as it was. -/
import Derived.Test.YtjfpaahidfhkoaaGreatDoorSpE
import Derived.Test.YtjfpaahidfhkoaaGreatDoorSpJ
import Derived.Test.YtjfpaahidfhkoaaGreatDoorSpK
import Derived.WalkKit
import Derived.Lib.Hide
import Derived.Outline
import Derived.Deep.QuietTactic
import Derived.BigQuiet
namespace Go.Proofs.YtjfpaahidfhkoaaGreatDoor
open Go.RowKit

theorem parts_len (s : ByteArray) : (partsOf s).length ≤ 2 * s.size + 1 := by
  have h := cutAll_pre (s := s) (done := spans s) (post := []) (by simp)
  unfold partsOf
  exact Nat.le_trans (cutAt_le1 s _ _) (by omega)
theorem below_eq {w w' : World} (h : w' = w) : Below w.heap.size w w' := by rw [h]; exact Below.refl _ _

set_option maxRecDepth 100000 in
set_option maxHeartbeats 8000000 in
theorem textSpans_any (s : ByteArray) (w : World) (hs : s.size ≤ 1048576) :
    Calls Tryz.prog 3 #[.string s] w (Quiet w (.bool true)) := by
  obtain ⟨c, hc⟩ : ∃ c, c = checkV s := ⟨_, rfl⟩
  have H1 : Hid (∀ W, Calls Tryz.prog 6 #[.string s] W (Quiet W (.int .i64 c))) := Lib.hid fun W => (check_any s W (by omega)).mono fun e w' ⟨h1, h2⟩ => ⟨by rw [h1, hc], below_eq h2⟩
  have H2 : Hid (∀ W, Calls Tryz.prog 7 #[.string s] W (Quiet W (.int .i64 c))) := Lib.hid fun W => (textError_any s W (by omega)).mono fun e w' ⟨h1, h2⟩ => ⟨by rw [h1, hc], below_eq h2⟩
  have H3 := Lib.hid (fun W => spans_any s W (by omega))
  have H4 := Lib.hid (fun W => spansOf_any s W hs)
  have hl3 : (spans s).length ≤ 4000000000 := by have := sps_len s; omega
  obtain ⟨T, hT⟩ : ∃ T : ByteArray, T = ⟨(shownL s (spans s)).toArray⟩ := ⟨_, rfl⟩
  have H5 : Hid (∀ W, Calls Tryz.prog 11 #[.string s] W (Quiet W (.string T))) := Lib.hid fun W => by rw [hT]; exact plainOf_all s W (by omega)
  have H6 : Hid (∀ W, Calls Tryz.prog 12 #[.string s] W (Quiet W (.string T))) := Lib.hid fun W => by rw [hT]; exact plainText_any s W hs
  have H7 := Lib.hid (fun W => links_any s W (by omega))
  have H8 := Lib.hid (fun W => linksOf_any s W hs)
  have hl4 : (txtL 4 (spans s)).length ≤ 4000000000 := Nat.le_trans (txtL_len _ _) hl3
  have H9 := Lib.hid (fun W => refs_any s W (by omega))
  have H10 := Lib.hid (fun W => refIds_any s W hs)
  have hl5 : (idL (spans s)).length ≤ 4000000000 := Nat.le_trans (idL_len _) hl3
  have H11 := Lib.hid (fun W => tags_any s W (by omega))
  have H12 := Lib.hid (fun W => tagsOf_any s W hs)
  have hl6 : (txtL 6 (spans s)).length ≤ 4000000000 := Nat.le_trans (txtL_len _ _) hl3
  obtain ⟨U, hU⟩ : ∃ U : ByteArray, U = ⟨(unmL s (spans s)).toArray⟩ := ⟨_, rfl⟩
  have H13 : Hid (∀ W, Calls Tryz.prog 21 #[.string s] W (Quiet W (.string U))) := Lib.hid fun W => by rw [hU]; exact unmarked_any s W (by omega)
  have H14 : Hid (∀ W, Calls Tryz.prog 22 #[.string s] W (Quiet W (.string U))) := Lib.hid fun W => by rw [hU]; exact unmarkedOf_any s W hs
  have H15 := Lib.hid (fun W => parts_any s W (by omega))
  have H16 := Lib.hid (fun W => partsOf_any s W hs)
  have hl7 : (partsOf s).length ≤ 4000000000 := Nat.le_trans (parts_len s) (by omega)
  obtain ⟨E, hE⟩ : ∃ E : ByteArray, E = ⟨(escL s.data.toList).toArray⟩ := ⟨_, rfl⟩
  have H17 : Hid (∀ W, Calls Tryz.prog 25 #[.string s] W (Quiet W (.string E))) := Lib.hid fun W => by rw [hE]; exact escaped_any s W (by omega)
  have H18 : Hid (∀ W, Calls Tryz.prog 26 #[.string s] W (Quiet W (.string E))) := Lib.hid fun W => by rw [hE]; exact (escapedOf_any s W hs).mono fun e w' ⟨h1, h2⟩ => ⟨h1, below_eq h2⟩
  have HB := Lib.hid (Below.refl w.heap.size w)
  have HL3 := Lib.hid hl3
  have HL4 := Lib.hid hl4
  have HL5 := Lib.hid hl5
  have HL6 := Lib.hid hl6
  have HL7 := Lib.hid hl7
  clear hc hT hU hE hl3 hl4 hl5 hl6 hl7
  go_enter Tryz.func3, Tryz.ntmps3
  go_wp2_with fail
  refine (H1.out _).mono ?_
  rintro e w1 ⟨rfl, hb⟩
  have HB1 := Lib.hid (HB.out.trans (hb.mono HB.out.size))
  clear hb HB
  have HB := HB1
  clear HB1
  go_wp2_with fail
  refine (H2.out _).mono ?_
  rintro e w1 ⟨rfl, hb⟩
  have HB1 := Lib.hid (HB.out.trans (hb.mono HB.out.size))
  clear hb HB
  have HB := HB1
  clear HB1
  go_wp2_with fail
  refine (H3.out _).mono ?_
  rintro e w1 ⟨v1, rfl, hown1, hb⟩
  have HB1 := Lib.hid (HB.out.trans (hb.mono HB.out.size))
  obtain ⟨a1, c1, rfl, -⟩ := own_slice' hown1
  have HO1 := Lib.hid hown1
  clear hb HB hown1
  go_wp2_with fail
  refine (H4.out _).mono ?_
  rintro e w2 ⟨v2, rfl, hown2, hb⟩
  have HO3 := Lib.hid (own_keep HO1.out (fun k hk => hb.block k (HO1.out.lt k hk).2))
  have HB := Lib.hid (HB1.out.trans (hb.mono HB1.out.size))
  obtain ⟨a2, c2, rfl, -⟩ := own_slice' hown2
  have HO2 := Lib.hid hown2
  clear hb HB1 hown2 HO1
  go_wp2_with fail
  refine (spansEqual_any _ _ (spans s) _ HL3.out HO3.out HO2.out).mono ?_
  rintro e w3 ⟨rfl, hb⟩
  have HB1 := Lib.hid (HB.out.trans (hb.mono HB.out.size))
  clear hb HB HO3 HO2
  have HB := HB1
  clear HB1
  go_wp2_with fail
  refine (H5.out _).mono ?_
  rintro e w1 ⟨rfl, hb⟩
  have HB1 := Lib.hid (HB.out.trans (hb.mono HB.out.size))
  clear hb HB
  have HB := HB1
  clear HB1
  go_wp2_with fail
  refine (H6.out _).mono ?_
  rintro e w1 ⟨rfl, hb⟩
  have HB1 := Lib.hid (HB.out.trans (hb.mono HB.out.size))
  clear hb HB
  have HB := HB1
  clear HB1
  go_wp2_with fail
  refine (H7.out _).mono ?_
  rintro e w1 ⟨v1, rfl, hown1, hb⟩
  have HB1 := Lib.hid (HB.out.trans (hb.mono HB.out.size))
  obtain ⟨a1, c1, rfl, -⟩ := own_slice' hown1
  have HO1 := Lib.hid hown1
  clear hb HB hown1
  go_wp2_with fail
  refine (H8.out _).mono ?_
  rintro e w2 ⟨v2, rfl, hown2, hb⟩
  have HO3 := Lib.hid (own_keep HO1.out (fun k hk => hb.block k (HO1.out.lt k hk).2))
  have HB := Lib.hid (HB1.out.trans (hb.mono HB1.out.size))
  obtain ⟨a2, c2, rfl, -⟩ := own_slice' hown2
  have HO2 := Lib.hid hown2
  clear hb HB1 hown2 HO1
  go_wp2_with fail
  refine (strsEqual_any _ _ (txtL 4 (spans s)) _ HL4.out HO3.out HO2.out).mono ?_
  rintro e w3 ⟨rfl, hb⟩
  have HB1 := Lib.hid (HB.out.trans (hb.mono HB.out.size))
  clear hb HB HO3 HO2
  have HB := HB1
  clear HB1
  go_wp2_with fail
  refine (H9.out _).mono ?_
  rintro e w1 ⟨v1, rfl, hown1, hb⟩
  have HB1 := Lib.hid (HB.out.trans (hb.mono HB.out.size))
  obtain ⟨a1, c1, rfl, -⟩ := own_slice' hown1
  have HO1 := Lib.hid hown1
  clear hb HB hown1
  go_wp2_with fail
  refine (H10.out _).mono ?_
  rintro e w2 ⟨v2, rfl, hown2, hb⟩
  have HO3 := Lib.hid (own_keep HO1.out (fun k hk => hb.block k (HO1.out.lt k hk).2))
  have HB := Lib.hid (HB1.out.trans (hb.mono HB1.out.size))
  obtain ⟨a2, c2, rfl, -⟩ := own_slice' hown2
  have HO2 := Lib.hid hown2
  clear hb HB1 hown2 HO1
  go_wp2_with fail
  refine (natsEqual_any _ _ (idL (spans s)) _ HL5.out HO3.out HO2.out).mono ?_
  rintro e w3 ⟨rfl, hb⟩
  have HB1 := Lib.hid (HB.out.trans (hb.mono HB.out.size))
  clear hb HB HO3 HO2
  have HB := HB1
  clear HB1
  go_wp2_with fail
  refine (H11.out _).mono ?_
  rintro e w1 ⟨v1, rfl, hown1, hb⟩
  have HB1 := Lib.hid (HB.out.trans (hb.mono HB.out.size))
  obtain ⟨a1, c1, rfl, -⟩ := own_slice' hown1
  have HO1 := Lib.hid hown1
  clear hb HB hown1
  go_wp2_with fail
  refine (H12.out _).mono ?_
  rintro e w2 ⟨v2, rfl, hown2, hb⟩
  have HO3 := Lib.hid (own_keep HO1.out (fun k hk => hb.block k (HO1.out.lt k hk).2))
  have HB := Lib.hid (HB1.out.trans (hb.mono HB1.out.size))
  obtain ⟨a2, c2, rfl, -⟩ := own_slice' hown2
  have HO2 := Lib.hid hown2
  clear hb HB1 hown2 HO1
  go_wp2_with fail
  refine (strsEqual_any _ _ (txtL 6 (spans s)) _ HL6.out HO3.out HO2.out).mono ?_
  rintro e w3 ⟨rfl, hb⟩
  have HB1 := Lib.hid (HB.out.trans (hb.mono HB.out.size))
  clear hb HB HO3 HO2
  have HB := HB1
  clear HB1
  go_wp2_with fail
  refine (H13.out _).mono ?_
  rintro e w1 ⟨rfl, hb⟩
  have HB1 := Lib.hid (HB.out.trans (hb.mono HB.out.size))
  clear hb HB
  have HB := HB1
  clear HB1
  go_wp2_with fail
  refine (H14.out _).mono ?_
  rintro e w1 ⟨rfl, hb⟩
  have HB1 := Lib.hid (HB.out.trans (hb.mono HB.out.size))
  clear hb HB
  have HB := HB1
  clear HB1
  go_wp2_with fail
  refine (H15.out _).mono ?_
  rintro e w1 ⟨v1, rfl, hown1, hb⟩
  have HB1 := Lib.hid (HB.out.trans (hb.mono HB.out.size))
  obtain ⟨a1, c1, rfl, -⟩ := own_slice' hown1
  have HO1 := Lib.hid hown1
  clear hb HB hown1
  go_wp2_with fail
  refine (H16.out _).mono ?_
  rintro e w2 ⟨v2, rfl, hown2, hb⟩
  have HO3 := Lib.hid (own_keep HO1.out (fun k hk => hb.block k (HO1.out.lt k hk).2))
  have HB := Lib.hid (HB1.out.trans (hb.mono HB1.out.size))
  obtain ⟨a2, c2, rfl, -⟩ := own_slice' hown2
  have HO2 := Lib.hid hown2
  clear hb HB1 hown2 HO1
  go_wp2_with fail
  refine (strsEqual_any _ _ (partsOf s) _ HL7.out HO3.out HO2.out).mono ?_
  rintro e w3 ⟨rfl, hb⟩
  have HB1 := Lib.hid (HB.out.trans (hb.mono HB.out.size))
  clear hb HB HO3 HO2
  have HB := HB1
  clear HB1
  go_wp2_with fail
  refine (H17.out _).mono ?_
  rintro e w1 ⟨rfl, hb⟩
  have HB1 := Lib.hid (HB.out.trans (hb.mono HB.out.size))
  clear hb HB
  have HB := HB1
  clear HB1
  go_wp2_with fail
  refine (H18.out _).mono ?_
  rintro e w1 ⟨rfl, hb⟩
  have HB1 := Lib.hid (HB.out.trans (hb.mono HB.out.size))
  clear hb HB
  have HB := HB1
  clear HB1
  go_wp2_with fail
  go_ret
  exact ⟨by simp, HB.out⟩
end Go.Proofs.YtjfpaahidfhkoaaGreatDoor
