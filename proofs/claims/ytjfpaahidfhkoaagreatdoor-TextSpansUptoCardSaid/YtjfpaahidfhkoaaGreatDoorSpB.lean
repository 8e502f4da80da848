/- Package text: Links, Tags, Refs: the lists that the program gives. -/
import Derived.Test.YtjfpaahidfhkoaaGreatDoorSpA
import Derived.WalkKit
import Derived.Lib.Hide
import Derived.Outline
import Derived.Deep.QuietTactic
import Derived.BigQuiet
import Derived.Deep.RegionHeld3
namespace Go.Proofs.YtjfpaahidfhkoaaGreatDoor
open Go.RowKit

theorem cut_len {s : ByteArray} {done post : List Sp} {x : Sp} (ha : spans s = done ++ x :: post) : done.length + 1 ≤ s.size := by
  have hc := spans_count (spans_row s)
  rw [ha, List.length_append, List.length_cons] at hc
  omega
theorem refs_visits (s : ByteArray) (hs : s.size ≤ 4000000000) (B : Nat) : Visits Tryz.prog 48 #[.pointer (some ⟨B, 0, none⟩)] spArgs (spans s) (RefsI B) where
  enter := enters_of Tryz.func48 (by kernel_rfl) rfl
  lt := fun done F w h => h.lt
  loc := fun done F w w' h hk _ => h.loc hk
  step := by
    intro done x post F w ha h
    have hc := cut_len ha
    refine (ref_added B done x F w h (by omega)).mono ?_
    rintro e w' ⟨rfl, F', h1, h2⟩
    exact ⟨rfl, F', h1, h2⟩
theorem texts_visits (s : ByteArray) (hs : s.size ≤ 4000000000) (K kd B : Nat) : Visits Tryz.prog 84 #[.pointer (some ⟨K, 0, none⟩), .pointer (some ⟨B, 0, none⟩)] spArgs (spans s) (TextsI K kd B) where
  enter := enters_of Tryz.func84 (by kernel_rfl) rfl
  lt := by
    rintro done F w ⟨Fb, hV, hK, hn, rfl⟩ k (hk | rfl)
    · exact hV.lt k hk
    · exact hK.lt
  loc := by
    rintro done F w w' ⟨Fb, hV, hK, hn, rfl⟩ hk _
    exact ⟨Fb, hV.loc (fun k h => hk k (.inl h)), hK.kept (hk K (.inr rfl)), hn, rfl⟩
  step := by
    intro done x post F w ha h
    have hc := cut_len ha
    refine (text_added K kd B done x F w h (by omega)).mono ?_
    rintro e w' ⟨rfl, F', h1, h2⟩
    exact ⟨rfl, F', h1, h2⟩

/-- A list of values of one cell is handed back. -/
def GivesRow (E : TypeId) (c : List Value) (w : World) (e : Ending) (w' : World) : Prop :=
  ∃ v, e = .returned v ∧ w'.ownsRow w.heap.size E 1 v c.length c ∧ Below w.heap.size w w'
theorem VList.row {T E : TypeId} {B B0 : Nat} {c : List Value} {F : Nat → Prop} {w : World} (h : VList T E B c F w) (hlo : ∀ k, F k → B0 ≤ k) : ∃ ao n cap, w.cell? ⟨B, 0, none⟩ = some (.slice ao n cap) ∧ w.ownsRow B0 E 1 (.slice ao n cap) c.length c := by
  obtain ⟨v, hB, hown, hne, hF⟩ := h
  have h2 : w.ownsRow B0 E 1 v c.length c := by
    refine ⟨hown.1, ?_⟩
    rcases hown.2 with h | ⟨g, cap, cur, hv, _, h2⟩
    · exact .inl h
    · exact .inr ⟨g, cap, cur, hv, hlo g (by rw [hF]; exact .inr (by rw [hv]; rfl)), h2⟩
  rcases hown.2 with ⟨hv, _⟩ | ⟨g, cap, cur, hv, _⟩
  · exact ⟨_, _, _, by rw [← hv]; exact hB.cell, by rw [← hv]; exact h2⟩
  · exact ⟨_, _, _, by rw [← hv]; exact hB.cell, by rw [← hv]; exact h2⟩

set_option maxRecDepth 100000 in
set_option maxHeartbeats 4000000 in
theorem refs_any (s : ByteArray) (w : World) (hs : s.size ≤ 4000000000) : Calls Tryz.prog 17 #[.string s] w (GivesRow 3 (nats (idL (spans s))) w) := by
  have hmf : ∀ (fn : Fn) (first cap : Array Value) (w : World), (Instr.makeFunc fn first cap).run Tryz.prog w = .ok (.func fn first cap) w := fun _ _ _ _ => rfl
  have h0 : RefsI w.heap.size [] (fun k => k = w.heap.size) (w.alloc (.cells #[.slice none 0 0] 34)) :=
    ⟨.slice none 0 0, heap_alloc_new w _, World.ownsRow_nil _ _ _ _, by simp [Value.ownBlock], by funext k; simp [Value.ownBlock]⟩
  have HE := Lib.hid (eachSpan_any s _ _ _ _ _ hs (refs_visits s hs w.heap.size) h0)
  clear h0
  go_enter Tryz.func17, Tryz.ntmps17
  go_wp2_with fail
  refine HE.out.mono ?_
  rintro e1 w1 ⟨rfl, F1, hV, hg⟩
  have hlo : ∀ k, F1 k → w.heap.size ≤ k := fun k hk => by
    rcases hg.new k hk with h | h
    · omega
    · simp at h; omega
  obtain ⟨ao, n', cap, c1, hown⟩ := VList.row hV hlo
  have HR := Lib.hid hown
  have HB := Lib.hid (((Below.refl _ _).alloc (Nat.le_refl _) (.cells #[.slice none 0 0] 34)).trans (hg.out.below (by simp) (fun k hk => by omega)))
  clear hV hg hlo hown
  go_wp2
  go_ret
  exact ⟨_, rfl, HR.out, HB.out⟩

set_option maxRecDepth 100000 in
set_option maxHeartbeats 4000000 in
theorem textsOf_any (s : ByteArray) (kd : Nat) (w : World) (hs : s.size ≤ 4000000000) : Calls Tryz.prog 46 #[.string s, .int .i64 kd] w (GivesRow 9 (strs (txtL kd (spans s))) w) := by
  have hmf : ∀ (fn : Fn) (first cap : Array Value) (w : World), (Instr.makeFunc fn first cap).run Tryz.prog w = .ok (.func fn first cap) w := fun _ _ _ _ => rfl
  have h0 : TextsI w.heap.size kd (w.heap.size + 1) [] (fun k => k = w.heap.size + 1 ∨ k = w.heap.size) ((w.alloc (.cells #[.int .i64 kd] 3)).alloc (.cells #[.slice none 0 0] 31)) := by
    refine ⟨fun k => k = w.heap.size + 1, ⟨.slice none 0 0, ?_, World.ownsRow_nil _ _ _ _, by simp [Value.ownBlock], by funext k; simp [Value.ownBlock]⟩, ?_, by omega, rfl⟩
    · have := heap_alloc_new (w.alloc (.cells #[.int .i64 kd] 3)) (.cells #[.slice none 0 0] 31)
      simpa [One] using this
    · unfold One
      rw [Below.heap_alloc _ _ _ (by simp)]
      exact heap_alloc_new w _
  have HE := Lib.hid (eachSpan_any s _ _ _ _ _ hs (texts_visits s hs w.heap.size kd (w.heap.size + 1)) h0)
  clear h0
  go_enter Tryz.func46, Tryz.ntmps46
  go_wp2_with fail
  refine HE.out.mono ?_
  rintro e1 w1 ⟨rfl, F1, ⟨Fb, hV, hK, hn, hF⟩, hg⟩
  have hlo : ∀ k, F1 k → w.heap.size ≤ k := fun k hk => by
    rcases hg.new k hk with (h | h) | h
    · omega
    · omega
    · simp at h; omega
  obtain ⟨ao, n', cap, c1, hown⟩ := VList.row hV (B0 := w.heap.size) (fun k hk => hlo k (by rw [hF]; exact .inl hk))
  have HR := Lib.hid hown
  have HB := Lib.hid ((((Below.refl _ _).alloc (Nat.le_refl _) (.cells #[.int .i64 kd] 3)).alloc (by simp) (.cells #[.slice none 0 0] 31)).trans (hg.out.below (by simp; omega) (fun k hk => by omega)))
  clear hV hg hlo hown hK hn hF
  go_wp2
  go_ret
  exact ⟨_, rfl, HR.out, HB.out⟩

theorem own_slice' {w : World} {base n size : Nat} {e : TypeId} {v : Value} {xs : List Value} (h : w.ownsRow base e size v n xs) : ∃ A c, v = .slice A n c ∧ True := by
  rcases h.2 with ⟨h0, h1⟩ | ⟨g, cap, cur, e1, _⟩
  · exact ⟨none, 0, by rw [h0, h1], trivial⟩
  · exact ⟨_, cap, e1, trivial⟩
theorem GivesRow.mono_calls {E : TypeId} {c : List Value} {w : World} {e : Ending} {w' : World} (h : GivesRow E c w e w') : ∃ v, e = .returned v ∧ w'.ownsRow w.heap.size E 1 v c.length c ∧ Below w.heap.size w w' := h
set_option maxRecDepth 100000 in
set_option maxHeartbeats 4000000 in
theorem links_any (s : ByteArray) (w : World) (hs : s.size ≤ 4000000000) : Calls Tryz.prog 14 #[.string s] w (GivesRow 9 (strs (txtL 4 (spans s))) w) := by
  have HT := Lib.hid (textsOf_any s 4 w hs)
  go_enter Tryz.func14, Tryz.ntmps14
  go_wp2_with fail
  refine HT.out.mono ?_
  rintro e1 w1 ⟨v, rfl, hown, hb⟩
  have HO := Lib.hid (And.intro hown hb)
  obtain ⟨ao, c, rfl, -⟩ := own_slice' hown
  clear hown hb
  go_wp2
  go_ret
  exact ⟨_, rfl, HO.out.1, HO.out.2⟩
set_option maxRecDepth 100000 in
set_option maxHeartbeats 4000000 in
theorem tags_any (s : ByteArray) (w : World) (hs : s.size ≤ 4000000000) : Calls Tryz.prog 19 #[.string s] w (GivesRow 9 (strs (txtL 6 (spans s))) w) := by
  have HT := Lib.hid (textsOf_any s 6 w hs)
  go_enter Tryz.func19, Tryz.ntmps19
  go_wp2_with fail
  refine HT.out.mono ?_
  rintro e1 w1 ⟨v, rfl, hown, hb⟩
  have HO := Lib.hid (And.intro hown hb)
  obtain ⟨ao, c, rfl, -⟩ := own_slice' hown
  clear hown hb
  go_wp2
  go_ret
  exact ⟨_, rfl, HO.out.1, HO.out.2⟩
end Go.Proofs.YtjfpaahidfhkoaaGreatDoor
