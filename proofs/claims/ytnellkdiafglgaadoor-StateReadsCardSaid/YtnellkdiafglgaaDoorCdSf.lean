/- Cards: ReadState at whatever string. -/
import Derived.Test.YtnellkdiafglgaaDoorCdSe
import Derived.Test.YtnellkdiafglgaaDoorCdZ
namespace Go.Proofs.YtnellkdiafglgaaDoor
open Go.RowKit Go.Shelf Go.Joins

def readV : Option StV → StV × Int
  | none => (StV.zero, 8)
  | some x => if stE x = 0 then (x, 0) else (StV.zero, stE x)
/-- What ReadState gives. -/
def RdGives (s : ByteArray) (e : Ending) : Prop :=
  (2000 < s.size ∧ e = .returned (.tuple #[StV.zero.v, .int .i64 4])) ∨ (s.size ≤ 2000 ∧ ∃ o, Reads s o ∧ e = .returned (.tuple #[(readV o).1.v, .int .i64 (readV o).2]))
theorem RdGives.same {s : ByteArray} {e1 e2 : Ending} (h1 : RdGives s e1) (h2 : RdGives s e2) : ∃ (x : StV) (n : Int), e1 = .returned (.tuple #[x.v, .int .i64 n]) ∧ e2 = .returned (.tuple #[x.v, .int .i64 n]) := by
  rcases h1 with ⟨l1, rfl⟩ | ⟨l1, o1, r1, rfl⟩ <;> rcases h2 with ⟨l2, rfl⟩ | ⟨l2, o2, r2, rfl⟩
  · exact ⟨_, _, rfl, rfl⟩
  · omega
  · omega
  · rw [Reads.unique r1 r2]
    exact ⟨_, _, rfl, rfl⟩
set_option maxRecDepth 100000 in
set_option maxHeartbeats 8000000 in
theorem readState_full (s : ByteArray) (w : World) (hp : Pow w) (hm : MaxL w) (hev : ErrV w) : Calls Tryd.prog 16 #[.string s] w fun e w' => RdGives s e ∧ Below w.heap.size w w' := by
  have HB0 := Lib.hid ((Below.refl w.heap.size w).alloc (Nat.le_refl _) (.cells #[.int .i64 0, .int .i64 0, .int .i64 0, .int .i64 0, .int .i64 0, .int .i64 0, .int .i64 0, .int .i64 0, .int .i64 0] 23))
  have HR0 := Lib.hid (heap_alloc_new w (.cells #[.int .i64 0, .int .i64 0, .int .i64 0, .int .i64 0, .int .i64 0, .int .i64 0, .int .i64 0, .int .i64 0, .int .i64 0] 23))
  by_cases hbig : 2000 < s.size
  · have p0 : (2000 : Int) < (s.size : Int) := by omega
    have HG : Hid (RdGives s (.returned (.tuple #[StV.zero.v, .int .i64 4]))) := Lib.hid (Or.inl ⟨hbig, rfl⟩)
    rw [zero_v] at HG
    have hr0 := HR0.out
    obtain ⟨z0, z1, z2, z3, z4, z5, z6, z7, z8⟩ := st_nine hr0
    obtain ⟨g0, g1, g2, g3, g4, g5, g6, g7, g8⟩ := st_nofrost hr0
    clear hr0 hbig hp hm hev
    go_enter Tryd.func16, Tryd.ntmps16
    go_wp2_with fail
    refine bodyPost_ret (v := .tuple #[.agg #[.int .i64 0, .int .i64 0, .int .i64 0, .int .i64 0, .int .i64 0, .int .i64 0, .int .i64 0, .int .i64 0, .int .i64 0], .int .i64 4]) ?_ rfl ⟨HG.out, ?_⟩
    · simp only [results, Tryd.results16]
      go_simp
    · repeat (with_reducible refine Below.setCell ?_ (by simp) _)
      exact HB0.out
  have p0 : ¬ (2000 : Int) < (s.size : Int) := by omega
  have hsm : s.size ≤ 2000 := by omega
  have HS := Lib.hid (fun W hp hm hev => parseState_full s hsm W hp hm hev)
  have HSM := Lib.hid hsm
  have HP := Lib.hid hp
  have HM := Lib.hid hm
  have HE := Lib.hid hev
  clear hbig hp hm hev hsm
  go_enter Tryd.func16, Tryd.ntmps16
  go_wp2_with fail
  refine (HS.out _ (HP.out.below HB0.out) (HM.out.below HB0.out) (HE.out.below HB0.out)).mono ?_
  rintro e1 w1 ⟨hg1, hb1⟩
  have HB1 := Lib.hid (HB0.out.trans (hb1.mono HB0.out.size))
  have HR1 := Lib.hid ((hb1.block _ (lt_of_block HR0.out)).trans HR0.out)
  clear hb1
  have hlt1 := lt_of_block HR1.out
  rcases hg1 with ⟨x, hrd, rfl⟩ | ⟨hrd, rfl⟩
  case inr =>
    have HG : Hid (RdGives s (.returned (.tuple #[StV.zero.v, .int .i64 8]))) := Lib.hid (Or.inr ⟨HSM.out, none, hrd, rfl⟩)
    rw [zero_v] at HG ⊢
    clear hrd
    go_upto_region 4 with fail
    obtain ⟨W2, hW2⟩ : ∃ W2, W2 = w1.alloc (.cells #[.int .i64 0, .int .i64 0, .int .i64 0, .int .i64 0, .int .i64 0, .int .i64 0, .int .i64 0, .int .i64 0, .int .i64 0] 23) := ⟨_, rfl⟩
    have HB2 : Hid (Below w.heap.size w W2) := Lib.hid (by rw [hW2]; exact HB1.out.alloc HB1.out.size _)
    have hr2 : W2.heap[w.heap.size]? = some (.cells #[.int .i64 0, .int .i64 0, .int .i64 0, .int .i64 0, .int .i64 0, .int .i64 0, .int .i64 0, .int .i64 0, .int .i64 0] 23 (0, 0)) := by rw [hW2]; exact (Below.heap_alloc _ _ _ (lt_of_block HR1.out)).trans HR1.out
    rw [← hW2]
    clear hW2 hlt1 HR0 HB0
    have hlt2 := lt_of_block hr2
    obtain ⟨z0, z1, z2, z3, z4, z5, z6, z7, z8⟩ := st_nine hr2
    obtain ⟨g0, g1, g2, g3, g4, g5, g6, g7, g8⟩ := st_nofrost hr2
    clear hr2
    go_wp2_with fail
    refine bodyPost_ret (v := .tuple #[.agg #[.int .i64 0, .int .i64 0, .int .i64 0, .int .i64 0, .int .i64 0, .int .i64 0, .int .i64 0, .int .i64 0, .int .i64 0], .int .i64 8]) ?_ rfl ⟨HG.out, ?_⟩
    · simp only [results, Tryd.results16]
      go_simp
    · repeat (with_reducible refine Below.setCell ?_ (by simp) _)
      exact HB2.out
  case inl =>
    have HC := Lib.hid (fun W => checkState_any x W)
    have hxv : x.v = .agg #[.int .i64 x.bl, .int .i64 x.no, .int .i64 x.st, .int .i64 x.ea, .int .i64 x.du, .int .i64 x.la, .int .i64 x.ti, .int .i64 x.lp, .int .i64 x.bu] := rfl
    by_cases hE : stE x = 0
    case' pos =>
      have HG : Hid (RdGives s (.returned (.tuple #[x.v, .int .i64 0]))) := Lib.hid (Or.inr ⟨HSM.out, some x, hrd, by unfold readV; simp only [hE, if_true]⟩)
      rw [hE] at HC
      rw [hxv] at HC HG ⊢
      clear hE hrd hxv
    case' neg =>
      have HG : Hid (RdGives s (.returned (.tuple #[StV.zero.v, .int .i64 (stE x)]))) := Lib.hid (Or.inr ⟨HSM.out, some x, hrd, by unfold readV; simp only [hE, if_false]⟩)
      have hE' : (stE x != 0) = true := bne_iff_ne.2 hE
      rw [hxv] at HC ⊢
      rw [zero_v] at HG
      clear hE hrd hxv
      generalize stE x = E at *
    all_goals
      go_wp2_with fail
      have HB1b := Lib.hid (HB1.out.alloc HB1.out.size (.cells #[.int .i64 x.bl, .int .i64 x.no, .int .i64 x.st, .int .i64 x.ea, .int .i64 x.du, .int .i64 x.la, .int .i64 x.ti, .int .i64 x.lp, .int .i64 x.bu] 23))
      have HR1b := Lib.hid ((Below.heap_alloc w1 (.cells #[.int .i64 x.bl, .int .i64 x.no, .int .i64 x.st, .int .i64 x.ea, .int .i64 x.du, .int .i64 x.la, .int .i64 x.ti, .int .i64 x.lp, .int .i64 x.bu] 23) _ (lt_of_block HR1.out)).trans HR1.out)
      have HX1 := Lib.hid (heap_alloc_new w1 (.cells #[.int .i64 x.bl, .int .i64 x.no, .int .i64 x.st, .int .i64 x.ea, .int .i64 x.du, .int .i64 x.la, .int .i64 x.ti, .int .i64 x.lp, .int .i64 x.bu] 23))
      refine (HC.out _).mono ?_
      rintro e2 w2 ⟨rfl, hb2⟩
      have HB2 := Lib.hid (HB1b.out.trans (hb2.mono HB1b.out.size))
      have hr2 := (hb2.block _ (lt_of_block HR1b.out)).trans HR1b.out
      have hx2 := (hb2.block _ (lt_of_block HX1.out)).trans HX1.out
      clear hb2
      obtain ⟨z0, z1, z2, z3, z4, z5, z6, z7, z8⟩ := st_nine hr2
      obtain ⟨g0, g1, g2, g3, g4, g5, g6, g7, g8⟩ := st_nofrost hr2
      obtain ⟨y0, y1, y2, y3, y4, y5, y6, y7, y8⟩ := st_nine hx2
      clear hr2 hx2
      go_wp2_with fail
    · refine bodyPost_ret (v := .tuple #[.agg #[.int .i64 0, .int .i64 0, .int .i64 0, .int .i64 0, .int .i64 0, .int .i64 0, .int .i64 0, .int .i64 0, .int .i64 0], .int .i64 E]) ?_ rfl ⟨HG.out, ?_⟩
      · simp only [results, Tryd.results16]
        go_simp
      · repeat (with_reducible refine Below.setCell ?_ (by simp) _)
        exact HB2.out
    · refine bodyPost_ret (v := .tuple #[.agg #[.int .i64 x.bl, .int .i64 x.no, .int .i64 x.st, .int .i64 x.ea, .int .i64 x.du, .int .i64 x.la, .int .i64 x.ti, .int .i64 x.lp, .int .i64 x.bu], .int .i64 0]) ?_ rfl ⟨HG.out, ?_⟩
      · simp only [results, Tryd.results16]
        go_simp
      · repeat (with_reducible refine Below.setCell ?_ (by simp) _)
        exact HB2.out
end Go.Proofs.YtnellkdiafglgaaDoor
