/- Merge: slices.Equal at strings of one's own; what a side gives, laid out for the law. The law PropMerges: true of every three lists within the bounds. -/
import Derived.Test.YtggnocajpnmemaaGreatDoorMhX
import Derived.Test.YtggnocajpnmemaaGreatDoorShelfU
import Derived.Test.YtggnocajpnmemaaGreatDoorPfX
namespace Go.Proofs.YtggnocajpnmemaaGreatDoor
open Go.RowKit Go.Shelf Go.Sort

theorem quiet_drewN {w w' : World} (h : ∃ q, w' = w.drewN q) : Below w.heap.size w w' := by
  obtain ⟨q, rfl⟩ := h
  exact ⟨rfl, rfl, rfl, Nat.le_refl _, fun _ _ => rfl⟩
theorem own_slice {w : World} {base n size : Nat} {e : TypeId} {v : Value} {xs : List Value} (h : w.ownsRow base e size v n xs) : ∃ A c, v = .slice A n c ∧ (0 < n → ∃ g, A = some ⟨g, 0, none⟩ ∧ n ≤ c ∧ c ≤ maxLen) := by
  rcases h.2 with ⟨h0, h1⟩ | ⟨g, cap, cur, e1, hg, hc, h2, h3, r⟩
  · subst h1
    exact ⟨none, 0, h0, fun h => absurd h (Nat.lt_irrefl _)⟩
  · exact ⟨_, cap, e1, fun _ => ⟨g, rfl, h2, h3⟩⟩
def strB (T : List (List UInt8)) : List ByteArray := T.map fun x => ⟨x.toArray⟩
theorem strB_len (T : List (List UInt8)) : (strB T).length = T.length := List.length_map _
theorem strsEqual_any {b1 b2 : Nat} (v1 v2 : Value) (T : List (List UInt8)) (w : World) (hl : T.length ≤ 4000000000) (h1 : w.ownsRow b1 9 1 v1 T.length (T.map encStr)) (h2 : w.ownsRow b2 9 1 v2 T.length (T.map encStr)) :
    Calls Tryz.prog 29 #[v1, v2] w (Quiet w (.bool true)) := by
  obtain ⟨a1, c1, rfl, g1⟩ := own_slice h1
  obtain ⟨a2, c2, rfl, g2⟩ := own_slice h2
  by_cases h0 : T.length = 0
  · rw [h0]
    refine (Tryz.slices_Equal_string_empty a1 a2 c1 0 c2 w (by omega)).mono ?_
    rintro e w' ⟨rfl, rfl⟩
    exact ⟨rfl, Below.refl _ _⟩
  · obtain ⟨n1, rfl, _, _⟩ := g1 (by omega)
    obtain ⟨n2, rfl, _, _⟩ := g2 (by omega)
    have hat : ∀ (b n : Nat) (cc : Nat), w.ownsRow b 9 1 (.slice (some ⟨n, 0, none⟩) T.length cc) T.length (T.map encStr) → ∀ j, j < (strB T).length → w.cell? ⟨n, 0 + j, none⟩ = some (.string ((strB T).getD j ByteArray.empty)) := by
      intro b n cc h j hj
      rw [strB_len] at hj
      have e1 := h.cellAt j (by omega)
      rw [Nat.zero_add, e1]
      unfold strB
      rw [List.getElem?_map, List.getD_eq_getElem?_getD, List.getElem?_map, List.getElem?_eq_getElem hj]
      rfl
    have hs := strB_len T
    refine (Tryz.slices_Equal_string n1 0 T.length c1 n2 0 T.length c2 (strB T) (strB T) w (by omega) (by omega) (by omega) (by omega) (hat _ _ _ h1) (hat _ _ _ h2)).mono ?_
    rintro e w' ⟨rfl, hq⟩
    exact ⟨by simp, quiet_drewN hq⟩
/-- A list of strings of one's own, as it lies. -/
def TornAt (w : World) (T : List (List UInt8)) (v : Value) : Prop := ∃ b, w.ownsRow b 9 1 v T.length (T.map encStr)
theorem TornAt.later {w w' : World} {T : List (List UInt8)} {v : Value} (h : TornAt w T v) (hb : Below w.heap.size w w') : TornAt w' T v := by
  obtain ⟨b, h⟩ := h
  exact ⟨b, own_kept h (fun g hg => hb.block g (h.lt g hg).2)⟩
theorem MgSt.psl {W wx : World} {M : List PV} {T : List (List UInt8)} {vm vt : Value} (h : MgSt W M T vm vt wx) (hl : M.length ≤ 1048576) : PSl wx wx.heap.size M vm := by
  obtain ⟨F, xs, h1, h2, h3, h4, _⟩ := h.rep
  have hp : PrOwn W W.heap.size M vm wx := ⟨h.bel, F, xs, h1, h2, fun b hb => ⟨h3 b hb, by omega⟩, h4⟩
  exact hp.psl hl
theorem mergeE_zero {lo la lb : List PV} (h : mergeE lo la lb = 0) : (mergedL lo la lb (namesS [lo, la, lb])).length ≤ 20 := by
  unfold mergeE at h
  repeat' (split at h)
  all_goals first
    | exact absurd h (by decide)
    | omega
    | contradiction
theorem mergeGives_out {w w' : World} {err : Int} {M : List PV} {T : List (List UInt8)} {e : Ending} (h : MergeGives w err M T e w') (hM : err = 0 → M.length ≤ 1048576) :
    ∃ A c A2 c2, e = .returned (.tuple #[.slice A (if err = 0 then M else []).length c, .slice A2 (if err = 0 then T else []).length c2, .int .i64 err]) ∧ PSl w' w'.heap.size (if err = 0 then M else []) (.slice A (if err = 0 then M else []).length c) ∧ TornAt w' (if err = 0 then T else []) (.slice A2 (if err = 0 then T else []).length c2) ∧ Below w.heap.size w w' := by
  obtain ⟨vm, vt, rfl, hS⟩ := h
  have h1 := hS.psl (by split; exact hM (by assumption); simp)
  have h2 := hS.torn
  have hb := hS.bel
  obtain ⟨A, c, rfl, hr⟩ := h1
  obtain ⟨A2, c2, rfl, _⟩ := own_slice h2
  exact ⟨A, c, A2, c2, rfl, ⟨A, c, rfl, hr⟩, ⟨_, h2⟩, hb⟩
end Go.Proofs.YtggnocajpnmemaaGreatDoor
namespace Go.Proofs.YtggnocajpnmemaaGreatDoor
open Go.RowKit Go.Shelf Go.Sort

set_option maxRecDepth 100000 in
set_option maxHeartbeats 8000000 in
theorem lawM_any (lo la lb : List PV) (Ao Aa Ab : Option Addr) (co ca cb : Nat) (w : World) (ho : PSl w w.heap.size lo (.slice Ao lo.length co)) (ha : PSl w w.heap.size la (.slice Aa la.length ca)) (hb : PSl w w.heap.size lb (.slice Ab lb.length cb)) :
    Calls Tryz.prog 7 #[.slice Ao lo.length co, .slice Aa la.length ca, .slice Ab lb.length cb] w (Quiet w (.bool true)) := by
  have hT : (tornL lo la lb (namesS [lo, la, lb])).length ≤ 4000000000 := by
    have h1 := tornL_len lo la lb (namesS [lo, la, lb])
    have h2 := names_three lo la lb
    obtain ⟨_, _, _, k1, _⟩ := ho
    obtain ⟨_, _, _, k2, _⟩ := ha
    obtain ⟨_, _, _, k3, _⟩ := hb
    omega
  have HP := Lib.hid (fun W (hW : Below w.heap.size w W) => (mergeP_any lo la lb Ao Aa Ab co ca cb W ((ho.below hW (Nat.le_refl _)).up hW.size) ((ha.below hW (Nat.le_refl _)).up hW.size) ((hb.below hW (Nat.le_refl _)).up hW.size)).mono (fun _ _ h => mergeGives_out h (fun h0 => by have := mergeE_zero h0; omega)))
  have HR := Lib.hid (fun W (hW : Below w.heap.size w W) => (mergeR_any lo la lb Ao Aa Ab co ca cb W ((ho.below hW (Nat.le_refl _)).up hW.size) ((ha.below hW (Nat.le_refl _)).up hW.size) ((hb.below hW (Nat.le_refl _)).up hW.size)).mono (fun _ _ h => mergeGives_out h (fun h0 => by have := mergeE_zero h0; omega)))
  have hT' : (if mergeE lo la lb = 0 then tornL lo la lb (namesS [lo, la, lb]) else []).length ≤ 4000000000 := by split; exact hT; simp
  generalize (if mergeE lo la lb = 0 then mergedL lo la lb (namesS [lo, la, lb]) else []) = M at HP HR
  generalize (if mergeE lo la lb = 0 then tornL lo la lb (namesS [lo, la, lb]) else []) = T at HP HR hT'
  generalize mergeE lo la lb = me at HP HR
  have HLM := Lib.hid (fun (A1 A2 : Option Addr) (c1 c2 : Nat) (W : World) (h1 : PSl W W.heap.size M (.slice A1 M.length c1)) (h2 : PSl W W.heap.size M (.slice A2 M.length c2)) => alikeL_any M A1 A2 c1 c2 W h1 h2)
  have HEQ := Lib.hid (fun (A1 A2 : Option Addr) (c1 c2 : Nat) (W : World) (h1 : TornAt W T (.slice A1 T.length c1)) (h2 : TornAt W T (.slice A2 T.length c2)) => strsEqual_any (.slice A1 T.length c1) (.slice A2 T.length c2) T W hT' h1.choose_spec h2.choose_spec)
  generalize lo.length = no at HP HR ⊢
  generalize la.length = na at HP HR ⊢
  generalize lb.length = nb at HP HR ⊢
  generalize M.length = nm at HP HR HLM
  generalize T.length = nt at HP HR HEQ
  clear ho ha hb hT hT'
  go_enter Tryz.func7, Tryz.ntmps7
  go_wp2_with fail
  refine (HP.out _ (Below.refl _ w)).mono ?_
  rintro e1 w1 ⟨A1, c1, B1, d1, rfl, hP1, hT1, hb1⟩
  have HB1 := Lib.hid hb1
  have HP1 := Lib.hid hP1
  have HT1 := Lib.hid hT1
  clear hb1 hP1 hT1
  go_wp2_with fail
  refine (HR.out _ HB1.out).mono ?_
  rintro e2 w2 ⟨A2, c2, B2, d2, rfl, hP2, hT2, hb2⟩
  have HB2 := Lib.hid (HB1.out.trans (hb2.mono HB1.out.size))
  have HP1b := Lib.hid ((HP1.out.below hb2 (Nat.le_refl _)).up hb2.size)
  have HT1b := Lib.hid (HT1.out.later hb2)
  have HP2 := Lib.hid hP2
  have HT2 := Lib.hid hT2
  clear hb2 hP2 hT2
  have HAL := Lib.hid (HLM.out A1 A2 c1 c2 w2 HP1b.out HP2.out)
  have HTE := Lib.hid (fun W (hW : Below w2.heap.size w2 W) => HEQ.out B1 B2 d1 d2 W (HT1b.out.later hW) (HT2.out.later hW))
  clear HLM HEQ HP1 HT1 HP1b HT1b HP2 HT2 HP HR
  go_wp2_with fail
  refine HAL.out.mono ?_
  rintro e3 w3 ⟨rfl, hb3⟩
  have HTE3 := Lib.hid (HTE.out w3 hb3)
  have HB3 := Lib.hid (HB2.out.trans (hb3.mono HB2.out.size))
  clear hb3 HTE
  go_wp2_with fail
  refine HTE3.out.mono ?_
  rintro e4 w4 ⟨rfl, hb4⟩
  have HB4 := Lib.hid (HB3.out.trans (hb4.mono HB3.out.size))
  clear hb4
  go_wp2_with fail
  go_ret
  exact ⟨ret_boolA (by simp), HB4.out⟩
end Go.Proofs.YtggnocajpnmemaaGreatDoor
