/- Properties: the program's Faults. -/
import Derived.Test.YtggnocajpnmemaaDoorPbB
namespace Go.Proofs.YtggnocajpnmemaaDoor
open Go.RowKit Go.Shelf

def FV.cells (x : FV) : List Value := [.string x.nm, .int .i64 x.err]
theorem FV.cells_len (x : FV) : x.cells.length = 2 := rfl
theorem fv_flat : ∀ (l : List FV) (j : Nat) (h : j < l.length) (c : Nat), c < 2 → (l.flatMap FV.cells)[j * 2 + c]? = (l[j]).cells[c]?
  | x :: l, 0, _, c, hc => by
    rw [List.flatMap_cons, List.getElem?_append_left (by rw [FV.cells_len]; omega), Nat.zero_mul, Nat.zero_add]
    rfl
  | x :: l, j + 1, h, c, hc => by
    rw [List.flatMap_cons, List.getElem?_append_right (by rw [FV.cells_len]; omega), FV.cells_len]
    have e : (j + 1) * 2 + c - 2 = j * 2 + c := by omega
    rw [e, fv_flat l j (by simpa using h) c hc]
    rfl
theorem fv_snoc (l : List FV) (x : FV) : (l ++ [x]).flatMap FV.cells = l.flatMap FV.cells ++ x.cells := by simp
theorem infoFv : (Tryd.prog.info? 30).map (fun i => (i.zero, i.size, i.bytes)) = some (some (.agg #[.string ⟨#[]⟩, .int .i64 0]), 2, 24) := by kernel_rfl
theorem own_keepB {w w' : World} {B base n size : Nat} {e : TypeId} {v : Value} {xs : List Value} (h : w.ownsRow base e size v n xs) (hb : Below B w w') (hB : w.heap.size ≤ B) : w'.ownsRow base e size v n xs := by
  refine ⟨h.1, ?_⟩
  rcases h.2 with h0 | ⟨g, cap, cur, e1, hg, hc, r⟩
  · exact .inl h0
  · exact .inr ⟨g, cap, cur, e1, hg, (hb.block g (by have := (h.lt g (by rw [e1]; rfl)).2; omega)).trans hc, r⟩
theorem addr_plus (b off j : Nat) : (⟨b, off, none⟩ : Addr).add j = ⟨b, off + j, none⟩ := by simp [Addr.add]
theorem fv_news (w : World) (x : FV) (T : TypeId) : ∀ q u, x.cells[q]? = some u → (w.alloc (.cells #[.string x.nm, .int .i64 x.err] T)).cell? ((⟨w.heap.size, 0, none⟩ : Addr).add q) = some u := by
  intro q u hq
  have h := heap_alloc_new w (.cells #[.string x.nm, .int .i64 x.err] T)
  rw [addr_plus, Nat.zero_add, cell_of_row _ _ q _ _ (0, 0) h]
  rw [List.getElem?_toArray]
  exact hq
theorem fv_one (x : FV) : ∀ u ∈ x.cells, u.oneCell' = true := by
  intro u hu
  simp only [FV.cells, List.mem_cons, List.not_mem_nil, or_false] at hu
  rcases hu with rfl | rfl <;> rfl
theorem own_slice {w : World} {base n size : Nat} {e : TypeId} {v : Value} {xs : List Value} (h : w.ownsRow base e size v n xs) : ∃ A c, v = .slice A n c ∧ (0 < n → ∃ g, A = some ⟨g, 0, none⟩ ∧ n ≤ c ∧ c ≤ maxLen) := by
  rcases h.2 with ⟨h0, h1⟩ | ⟨g, cap, cur, e1, hg, hc, h2, h3, r⟩
  · subst h1
    exact ⟨none, 0, h0, fun h => absurd h (Nat.lt_irrefl _)⟩
  · exact ⟨_, cap, e1, fun _ => ⟨g, rfl, h2, h3⟩⟩
structure FsRow (ts : List TV) (l : List PV) (w : World) (v : Value) (j : Nat) (wx : World) : Prop where
  le : j ≤ ts.length
  own : wx.ownsRow w.heap.size 30 2 v (faultsL (ts.take j) l).length ((faultsL (ts.take j) l).flatMap FV.cells)
  bel : Below w.heap.size w wx
/-- Faults' results. -/
def GivesFaults (L : List FV) (err : Int) (w : World) (e : Ending) (w' : World) : Prop :=
  ∃ v, e = .returned (.tuple #[v, .int .i64 err]) ∧ w'.ownsRow w.heap.size 30 2 v L.length (L.flatMap FV.cells) ∧ Below w.heap.size w w'
def fsL (ts : List TV) (l : List PV) : List FV := if typesE ts = 0 ∧ propsE l = 0 then faultsL ts l else []
def fsE (ts : List TV) (l : List PV) : Int := if typesE ts ≠ 0 then typesE ts else propsE l
theorem gives_bad {ts : List TV} {l : List PV} {w w' : World} {err : Int} (h : fsE ts l = err) (h0 : err ≠ 0) (hb : Below w.heap.size w w') : GivesFaults (fsL ts l) (fsE ts l) w (.returned (.tuple #[.slice none 0 0, .int .i64 err])) w' := by
  refine ⟨_, by rw [h], ?_, hb⟩
  have : fsL ts l = [] := by
    unfold fsL
    rw [if_neg]
    rintro ⟨h1, h2⟩
    unfold fsE at h
    rw [if_neg (by rw [h1]; simp), h2] at h
    exact h0 h.symm
  rw [this]
  exact World.ownsRow_nil _ _ _ _
theorem gives_fine {ts : List TV} {l : List PV} {w w' : World} {v : Value} (h1 : typesE ts = 0) (h2 : propsE l = 0) (hr : FsRow ts l w v ts.length w') : GivesFaults (fsL ts l) (fsE ts l) w (.returned (.tuple #[v, .int .i64 0])) w' := by
  have e1 : fsE ts l = 0 := by unfold fsE; rw [if_neg (by rw [h1]; simp), h2]
  have e2 : fsL ts l = faultsL ts l := by unfold fsL; rw [if_pos ⟨h1, h2⟩]
  refine ⟨v, by rw [e1], ?_, hr.bel⟩
  rw [e2]
  have := hr.own
  rw [List.take_length] at this
  exact this

set_option maxRecDepth 100000 in
set_option maxHeartbeats 8000000 in
theorem faults_any (ts : List TV) (l : List PV) (At A : Option Addr) (ct c : Nat) (w : World) (ht : TySl w w.heap.size ts (.slice At ts.length ct)) (hl : PSl w w.heap.size l (.slice A l.length c)) :
    Calls Tryd.prog 4 #[.slice At ts.length ct, .slice A l.length c] w (GivesFaults (fsL ts l) (fsE ts l) w) := by
  have hnt : ts.length ≤ 140737488355328 := by obtain ⟨_, _, e, h1, _⟩ := ht; exact h1
  have HTS := Lib.hid ht
  have HCT := Lib.hid (fun W (hW : Below w.heap.size w W) => checkTypes_any ts At ct W ((ht.below hW (Nat.le_refl _)).up hW.size))
  have HCP := Lib.hid (fun W (hW : Below w.heap.size w W) => checkProps_any l A c W ((hl.below hW (Nat.le_refl _)).up hW.size))
  by_cases h1 : typesE ts = 0
  · rw [h1] at HCT
    by_cases h2 : propsE l = 0
    · rw [h2] at HCP
      have HG : Hid (∀ v w', FsRow ts l w v ts.length w' → GivesFaults (fsL ts l) (fsE ts l) w (.returned (.tuple #[v, .int .i64 0])) w') := Lib.hid (fun v w' h => gives_fine h1 h2 h)
      have hrise := propsE_rise h2
      have HFO := Lib.hid (fun W (hW : Below w.heap.size w W) nm k nd cs le mo Ac cc (hs : StSl W W.heap.size cs (.slice Ac cs.length cc)) => faultOf_any nm k nd cs le mo Ac cc l A c W ((hl.below hW (Nat.le_refl _)).up hW.size) hs hrise)
      have hnt4 : ts.length ≤ 40 := by
        unfold typesE at h1
        split at h1
        · exact absurd h1 (by decide)
        · omega
      clear hnt
      obtain ⟨i0, hi, hz0, hz1, hz2⟩ := info_parts infoFv
      obtain ⟨n, hnn⟩ : ∃ n, n = ts.length := ⟨_, rfl⟩
      obtain ⟨m, hmm⟩ : ∃ m, m = l.length := ⟨_, rfl⟩
      have HN := Lib.hid hnn
      rw [← hnn] at hnt4 HCT HG
      rw [← hmm] at HCP HFO
      rw [show (Value.slice At ts.length ct) = Value.slice At n ct by rw [hnn], show (Value.slice A l.length c) = Value.slice A m c by rw [hmm]]
      clear ht hl h1 h2 hrise hnn hmm
      go_enter Tryd.func4, Tryd.ntmps4
      go_wp2_with fail
      have X := HCT.out w (Below.refl _ _)
      refine X.mono ?_
      rintro e1 w1 ⟨rfl, hb1⟩
      have HB1 := Lib.hid hb1
      clear hb1
      go_wp2_with fail
      refine (HCP.out _ HB1.out).mono ?_
      rintro e2 w2 ⟨rfl, hb2⟩
      have HB2 := Lib.hid (HB1.out.trans (hb2.mono HB1.out.size))
      clear hb2
      go_wp2_with fail
      go_loopw [8, 24] (fun fv iv wx => ∃ j : Nat, iv = .int .i64 j ∧ Hid (FsRow ts l w fv j wx)) (fun _ iv _ => n - (intOf iv).toNat)
      case atStart => exact ⟨0, rfl, Lib.hid ⟨Nat.zero_le _, World.ownsRow_nil _ _ _ _, HB2.out⟩⟩
      case round =>
        obtain ⟨j, rfl, HR⟩ := hrel
        have hjn : j ≤ n := by have := HR.out.le; rw [HN.out]; exact this
        by_cases hj : j < n
        · have hj2 : j < ts.length := by rw [← HN.out]; exact hj
          have p2 : (j : Int) < n := by omega
          obtain ⟨b, off, nm, kd, nd, cs, le, mo, Ac, cc, rfl, hx, hlt, gn, g1, g2, g3, g4, g5, hnz, gs⟩ := type_item HTS.out hj2
          have hbel := HR.out.bel
          replace gn := (hbel.cell (p := ⟨b, off + j * 6, none⟩) hlt).trans gn
          replace g1 := (hbel.cell (p := ⟨b, off + j * 6 + 1, none⟩) hlt).trans g1
          replace g2 := (hbel.cell (p := ⟨b, off + j * 6 + 2, none⟩) hlt).trans g2
          replace g3 := (hbel.cell (p := ⟨b, off + j * 6 + 3, none⟩) hlt).trans g3
          replace g4 := (hbel.cell (p := ⟨b, off + j * 6 + 4, none⟩) hlt).trans g4
          replace g5 := (hbel.cell (p := ⟨b, off + j * 6 + 5, none⟩) hlt).trans g5
          have HBL := Lib.hid hbel
          have hszw := hbel.size
          have HF := Lib.hid (fun W (hW : Below w.heap.size w W) => HFO.out W hW nm kd nd cs le mo Ac cc ((gs.below hW (Nat.le_refl _)).up hW.size))
          obtain ⟨r, hr⟩ : ∃ r, r = faultE ⟨nm, kd, nd, cs, le, mo⟩ l := ⟨_, rfl⟩
          rw [← hr] at HF
          rw [← hx] at hr
          have HX := Lib.hid hx
          obtain ⟨q, hq⟩ : ∃ q, q = cs.length := ⟨_, rfl⟩
          rw [← hq] at g3 HF
          have HOWN := Lib.hid HR.out.own
          obtain ⟨A0, c0, rfl, -⟩ := own_slice HR.out.own
          have hfl : (faultsL (ts.take j) l).length ≤ n := by
            have := faultsL_len (ts.take j) l
            rw [List.length_take] at this; omega
          clear gs hx hq HR hbel
          by_cases hr0 : r = 0
          · have HO2 : Hid (wr.ownsRow w.heap.size 30 2 (.slice A0 (faultsL (ts.take j) l).length c0) (faultsL (ts.take (j + 1)) l).length ((faultsL (ts.take (j + 1)) l).flatMap FV.cells)) := Lib.hid (by rw [faults_snoc_no hj2 (by rw [← hr]; exact hr0)]; exact HOWN.out)
            subst hr0
            generalize (faultsL (ts.take j) l).length = fl at HO2 hfl HOWN ⊢
            clear hr HOWN
            go_wp2_with fail
            refine (HF.out _ (HBL.out.alloc hszw _)).mono ?_
            rintro e3 w3 ⟨rfl, hb3⟩
            have HB3 := Lib.hid ((HBL.out.alloc hszw _).trans (hb3.mono (by simp; omega)))
            have HO3 := Lib.hid (own_keepB (HO2.out.alloc _) hb3 (Nat.le_refl _))
            clear hb3
            go_wp2_with fail
            go_roundw
            case rel => exact ⟨j + 1, by go_num, Lib.hid ⟨hj2, HO3.out, HB3.out⟩⟩
            case measure => simp [intOf]; omega
          · have HO2 := Lib.hid (faults_snoc_yes hj2 (by rw [← hr]; exact hr0))
            rw [← hr, show ts[j].nm = nm by rw [HX.out]] at HO2
            have HFR : Hid (∀ v wx, wx.ownsRow w.heap.size 30 2 v ((faultsL (ts.take j) l).length + 1) ((faultsL (ts.take j) l).flatMap FV.cells ++ FV.cells ⟨nm, r⟩) → Below w.heap.size w wx → FsRow ts l w v (j + 1) wx) := Lib.hid (fun v wx ho hb => ⟨hj2, by rw [HO2.out, fv_snoc, List.length_append]; exact ho, hb⟩)
            have q0 : (r != 0) = true := by simpa using hr0
            generalize (faultsL (ts.take j) l).flatMap FV.cells = fx at HOWN HFR
            generalize (faultsL (ts.take j) l).length = fl at hfl HOWN HFR ⊢
            clear hr HO2 hr0
            go_wp2_with fail
            refine (HF.out _ (HBL.out.alloc hszw _)).mono ?_
            rintro e3 w3 ⟨rfl, hb3⟩
            have HB3 := Lib.hid ((HBL.out.alloc hszw _).trans (hb3.mono (by simp; omega)))
            have HO3 := Lib.hid (own_keepB (HOWN.out.alloc _) hb3 (Nat.le_refl _))
            obtain ⟨-, hblk⟩ := keep_box hb3
            have d0 := cell_of_row w3 wr.heap.size 0 _ _ (0, 0) hblk
            have hsz3 := HB3.out.size
            have hnews : ∀ q u, (FV.cells ⟨nm, r⟩)[q]? = some u → (w3.alloc (.cells #[.string nm, .int .i64 r] 30)).cell? ((⟨w3.heap.size, 0, none⟩ : Addr).add q) = some u := fv_news w3 ⟨nm, r⟩ 30
            have HNEWS := Lib.hid hnews
            clear hb3 hblk hnews
            go_wp2_with (at_builtin; refine wpList_append_own _ rfl _ _ 24 rfl w.heap.size 30 i0 _ 2 24 Tryd.underlying24 hi hz0 hz1 hz2 rfl (by omega) _ _ _ rfl (HO3.out.alloc _) ⟨w3.heap.size, 0, none⟩ 1 1 (FV.cells ⟨nm, r⟩) rfl rfl HNEWS.out (fv_one ⟨nm, r⟩) (by unfold maxLen; omega) (by omega) (by simp; omega) ?_)
            intro v' w4 hown4 hgrow4 _
            have hbel4 : Below w.heap.size w w4 := (HB3.out.alloc hsz3 _).grown hgrow4 (by simp; omega) (fun k hk => (HO3.out.lt k hk).1)
            have HFR4 := Lib.hid (HFR.out v' w4 hown4 hbel4)
            clear hown4 hgrow4 hbel4 HFR
            go_wp2_with fail
            go_roundw
            case rel => exact ⟨j + 1, by go_num, HFR4⟩
            case measure => simp [intOf]; omega
        · obtain rfl : j = n := by omega
          have p2 : ¬ (j : Int) < j := by omega
          have HGG := Lib.hid (HG.out _ _ HR.out)
          obtain ⟨A0, c0, rfl, -⟩ := own_slice HR.out.own
          clear HR
          go_wp2_with fail
          go_ret2
          exact HGG.out
    · have HG : Hid (∀ w', Below w.heap.size w w' → GivesFaults (fsL ts l) (fsE ts l) w (.returned (.tuple #[.slice none 0 0, .int .i64 (propsE l)])) w') := Lib.hid (fun w' hb => gives_bad (by unfold fsE; rw [if_neg (by rw [h1]; simp)]) h2 hb)
      have q0 : (propsE l != 0) = true := by simpa using h2
      obtain ⟨n, hnn⟩ : ∃ n, n = ts.length := ⟨_, rfl⟩
      obtain ⟨m, hmm⟩ : ∃ m, m = l.length := ⟨_, rfl⟩
      rw [← hnn] at HCT
      rw [← hmm] at HCP
      rw [show (Value.slice At ts.length ct) = Value.slice At n ct by rw [hnn], show (Value.slice A l.length c) = Value.slice A m c by rw [hmm]]
      generalize propsE l = r at HCP HG q0
      clear ht hl h1 h2 hnn hmm HTS
      go_enter Tryd.func4, Tryd.ntmps4
      go_wp2_with fail
      have X := HCT.out w (Below.refl _ _)
      refine X.mono ?_
      rintro e1 w1 ⟨rfl, hb1⟩
      have HB1 := Lib.hid hb1
      clear hb1
      go_wp2_with fail
      refine (HCP.out _ HB1.out).mono ?_
      rintro e2 w2 ⟨rfl, hb2⟩
      have HB2 := Lib.hid (HB1.out.trans (hb2.mono HB1.out.size))
      clear hb2
      go_wp2_with fail
      go_ret2
      exact HG.out _ HB2.out
  · have HG : Hid (∀ w', Below w.heap.size w w' → GivesFaults (fsL ts l) (fsE ts l) w (.returned (.tuple #[.slice none 0 0, .int .i64 (typesE ts)])) w') := Lib.hid (fun w' hb => gives_bad (by unfold fsE; rw [if_pos h1]) h1 hb)
    have q0 : (typesE ts != 0) = true := by simpa using h1
    obtain ⟨n, hnn⟩ : ∃ n, n = ts.length := ⟨_, rfl⟩
    rw [← hnn] at HCT
    rw [show (Value.slice At ts.length ct) = Value.slice At n ct by rw [hnn]]
    generalize typesE ts = r at HCT HG q0
    generalize l.length = m at *
    clear ht h1 hnn HTS
    go_enter Tryd.func4, Tryd.ntmps4
    go_wp2_with fail
    have X := HCT.out w (Below.refl _ _)
    refine X.mono ?_
    rintro e1 w1 ⟨rfl, hb1⟩
    have HB1 := Lib.hid hb1
    clear hb1
    go_wp2_with fail
    go_ret2
    exact HG.out _ HB1.out
end Go.Proofs.YtggnocajpnmemaaDoor
