/- What Put and Drop give (pure); the reference's PutOf and DropOf. The reference's DropOf. The program's Drop. -/
import Derived.Test.YtggnocajpnmemaaGreatDoorPdX
import Derived.Test.YtggnocajpnmemaaGreatDoorGoA
import Derived.Test.YtggnocajpnmemaaGreatDoorWoX
namespace Go.Proofs.YtggnocajpnmemaaGreatDoor
open Go.RowKit Go.Shelf

def posL : List PV → ByteArray → Nat
  | [], _ => 0
  | p :: m, q => if p.nm.toList < q.toList then posL m q + 1 else 0
theorem posL_le : ∀ (m : List PV) (q : ByteArray), posL m q ≤ m.length
  | [], _ => Nat.le_refl _
  | p :: m, q => by
    unfold posL
    have := posL_le m q
    split <;> simp <;> omega
theorem posL_lt : ∀ (m : List PV) (q : ByteArray) (t : Nat) (ht : t < m.length), t < posL m q → m[t].nm.toList < q.toList
  | [], _, _, ht, _ => absurd ht (by simp)
  | p :: m, q, t, ht, h => by
    unfold posL at h
    split at h
    · rename_i hp
      cases t with
      | zero => exact hp
      | succ t => exact posL_lt m q t (by simpa using ht) (by omega)
    · omega
theorem posL_at : ∀ (m : List PV) (q : ByteArray) (h : posL m q < m.length), ¬ m[posL m q].nm.toList < q.toList
  | [], _, h => absurd h (by simp)
  | p :: m, q, h => by
    by_cases hp : p.nm.toList < q.toList
    · have e : posL (p :: m) q = posL m q + 1 := by rw [posL, if_pos hp]
      have h2 : posL m q < m.length := by rw [e] at h; simpa using h
      have := posL_at m q h2
      intro g
      apply this
      have e3 : (p :: m)[posL (p :: m) q] = m[posL m q] := by
        have : ∀ (i : Nat) (hi : i < (p :: m).length), i = posL m q + 1 → (p :: m)[i] = m[posL m q] := by
          intro i hi hi2; subst hi2; rfl
        exact this _ _ e
      rwa [e3] at g
    · have e : posL (p :: m) q = 0 := by rw [posL, if_neg hp]
      intro g
      apply hp
      have e3 : (p :: m)[posL (p :: m) q] = p := by
        have : ∀ (i : Nat) (hi : i < (p :: m).length), i = 0 → (p :: m)[i] = p := by
          intro i hi hi2; subst hi2; rfl
        exact this _ _ e
      rwa [e3] at g
theorem posL_ge {m : List PV} (hm : Asc m) (q : ByteArray) (t : Nat) (ht : t < m.length) (h : posL m q ≤ t) : ¬ m[t].nm.toList < q.toList := by
  have h1 := posL_at m q (by omega)
  rcases Nat.lt_or_ge (posL m q) t with h2 | h2
  · have := List.pairwise_iff_getElem.1 hm (posL m q) t (by omega) ht h2
    exact fun g => h1 (List.lt_trans this g)
  · have e : posL m q = t := by omega
    have : ∀ (i : Nat) (hi : i < m.length), i = posL m q → ¬ m[i].nm.toList < q.toList := by
      intro i hi hi2; subst hi2; exact h1
    exact this t ht e.symm
theorem posL_uniq {m : List PV} (hm : Asc m) {q : ByteArray} {r : Nat} (hr : r ≤ m.length) (h1 : ∀ t (ht : t < m.length), t < r → cmpS m[t].nm q < 0) (h2 : ∀ t (ht : t < m.length), r ≤ t → 0 ≤ cmpS m[t].nm q) : r = posL m q := by
  have hp := posL_le m q
  rcases Nat.lt_trichotomy r (posL m q) with h | h | h
  · have a := posL_lt m q r (by omega) h
    have b := h2 r (by omega) (Nat.le_refl _)
    have := (cmpS_neg _ _).2 a
    omega
  · exact h
  · have a := posL_at m q (by omega)
    have b := h1 (posL m q) (by omega) h
    exact absurd ((cmpS_neg _ _).1 b) a
/-- The list with a value for a name. -/
def putL (l : List PV) (q : ByteArray) (v : V) : List PV := if v.kind = 0 then woL l q else insL (woL l q) (posL (woL l q) q) ⟨q, v⟩
theorem asc_put {l : List PV} (hl : Asc l) (q : ByteArray) (v : V) : Asc (insL (woL l q) (posL (woL l q) q) ⟨q, v⟩) := by
  refine asc_ins (hl.wo q) (fun t ht h => posL_lt _ _ t ht h) (fun t ht h => ?_)
  have h1 := posL_ge (hl.wo q) q t ht h
  have h2 := wo_ne (List.getElem_mem ht)
  rcases tri (woL l q)[t].nm.toList q.toList with g | g | g
  · exact absurd g h1
  · exact absurd g h2
  · exact g
theorem insL_len (m : List PV) (r : Nat) (x : PV) : (insL m r x).length = m.length + 1 := by
  have := (ins_perm m r x).length_eq
  rw [← this]; simp
theorem putL_len (l : List PV) (q : ByteArray) (v : V) : (putL l q v).length ≤ l.length + 1 := by
  have := woL_len l q
  unfold putL
  split
  · omega
  · rw [insL_len]; omega
def putE (l : List PV) (q : ByteArray) (v : V) : Int :=
  if propsE l ≠ 0 then propsE l else if nameOk q = false then 3 else if valueE v ≠ 0 then valueE v else if 20 < (putL l q v).length then 4 else 0
def dropE (l : List PV) (q : ByteArray) : Int :=
  if propsE l ≠ 0 then propsE l else if nameOk q = false then 3 else if getV l q = none then 7 else 0
/-- A list and an error, in a later world. -/
def Gives (w : World) (err : Int) (L : List PV) (e : Ending) (w' : World) : Prop :=
  ∃ v, e = .returned (.tuple #[v, .int .i64 err]) ∧ PrOwn w w.heap.size (if err = 0 then L else []) v w'
theorem gives_bad {w w' : World} {err : Int} {L : List PV} (h : err ≠ 0) (hb : Below w.heap.size w w') : Gives w err L (.returned (.tuple #[.slice none 0 0, .int .i64 err])) w' := by
  refine ⟨_, rfl, ?_⟩
  rw [if_neg h]
  exact ⟨hb, fun _ => False, [], World.ownsRow_nil _ _ _ _, rfl, fun _ h => h.elim, fun _ h => by simp [Value.ownBlock] at h⟩
theorem PrOwn.after {w W wx : World} {L : List PV} {v : Value} (h : PrOwn W W.heap.size L v wx) (hb : Below w.heap.size w W) : PrOwn w w.heap.size L v wx :=
  h.at.pr (hb.trans (h.bel.mono hb.size)) hb.size

set_option maxRecDepth 100000 in
set_option maxHeartbeats 8000000 in
theorem putOf_any (l : List PV) (q : ByteArray) (A : Option Addr) (c : Nat) (k i t : Int) (s : ByteArray) (lx : List V) (A2 : Option Addr) (c2 : Nat) (w : World)
    (hl : PSl w w.heap.size l (.slice A l.length c)) (hv : SlAt w w.heap.size lx (.slice A2 lx.length c2)) (hz : q.size ≤ 1048576 ∧ s.size ≤ 1048576) :
    Calls Tryz.prog 19 #[.slice A l.length c, .string q, .agg #[.int .i64 k, .int .i64 i, .int .i64 t, .string s, .slice A2 lx.length c2]] w (Gives w (putE l q (.mk k i t s lx)) (putL l q (.mk k i t s lx))) := by
  have HP := Lib.hid (fun W (hW : Below w.heap.size w W) => propsFault_any l A c W ((hl.below hW (Nat.le_refl _)).up hW.size))
  have HNM := Lib.hid (fun W => isName_any q W (by omega))
  have HVF := Lib.hid (fun W (hW : Below w.heap.size w W) => valueFault_any k i t s lx A2 c2 W hz.2 ((hv.below hW (Nat.le_refl _)).up hW.size))
  have HW : Hid (∀ W, Below w.heap.size w W → propsE l = 0 → Calls Tryz.prog 49 #[.slice A l.length c, .string q, .agg #[.int .i64 k, .int .i64 i, .int .i64 t, .string s, .slice A2 lx.length c2]] W fun e w' => ∃ v, e = .returned v ∧ PrOwn W W.heap.size (putL l q (.mk k i t s lx)) v w') := Lib.hid (fun W hW h0 => by
    have hasc : Asc l := propsE_rise h0
    have h20 : l.length ≤ 1000 := by unfold propsE at h0; split at h0; exact absurd h0 (by decide); omega
    exact with_any l q A c k i t s lx A2 c2 (posL (woL l q) q) W ((hl.below hW (Nat.le_refl _)).up hW.size) h20 ((hv.below hW (Nat.le_refl _)).up hW.size) hz (fun _ => asc_put hasc q _))
  have HE : Hid (putE l q (.mk k i t s lx) = if propsE l ≠ 0 then propsE l else if nameOk q = false then 3 else if valueE (.mk k i t s lx) ≠ 0 then valueE (.mk k i t s lx) else if 20 < (putL l q (.mk k i t s lx)).length then 4 else 0) := Lib.hid rfl
  have HPL := Lib.hid (putL_len l q (.mk k i t s lx))
  have HLL : Hid (propsE l = 0 → l.length ≤ 20) := Lib.hid (fun h0 => by unfold propsE at h0; split at h0; exact absurd h0 (by decide); omega)
  generalize hpe : putE l q (.mk k i t s lx) = pe at HE ⊢
  generalize hpl : putL l q (.mk k i t s lx) = pl at HE HW HPL ⊢
  obtain ⟨fe, hfe⟩ : ∃ fe, fe = propsE l := ⟨_, rfl⟩
  obtain ⟨ve, hve⟩ : ∃ ve, ve = valueE (.mk k i t s lx) := ⟨_, rfl⟩
  rw [← hfe] at HP HE HW HLL
  rw [← hve] at HVF HE
  generalize l.length = n at HP HW HLL HPL ⊢
  generalize lx.length = m at HVF HW ⊢
  clear hl hv hpe hpl hfe hve
  go_enter Tryz.func19, Tryz.ntmps19
  go_wp2_with fail
  refine (HP.out _ ((Below.refl _ w).alloc (Nat.le_refl _) _)).mono ?_
  rintro e1 w1 ⟨rfl, hb1⟩
  have hbl1 : w1.heap[w.heap.size]? = some (.cells #[.int .i64 k, .int .i64 i, .int .i64 t, .string s, .slice A2 m c2] 24 (0, 0)) := (hb1.block _ (by simp)).trans (heap_alloc_new w _)
  have HB1 := Lib.hid (((Below.refl _ w).alloc (Nat.le_refl _) _).trans (hb1.mono (by simp)))
  clear hb1
  by_cases hf0 : fe = 0
  · subst hf0
    have hsz1 := HB1.out.size
    rcases hno : nameOk q with _ | _
    · rw [hno] at HNM HE
      clear hbl1
      go_wp2_with fail
      refine (HNM.out _).mono ?_
      rintro e2 w2 ⟨rfl, hb2⟩
      have HB2 := Lib.hid (HB1.out.trans (hb2.mono hsz1))
      clear hb2
      go_wp2_with fail
      go_ret2
      have e3 : pe = 3 := by have := HE.out; simpa using this
      rw [e3]
      exact gives_bad (by decide) HB2.out
    · rw [hno] at HNM HE
      have HBL1 := Lib.hid hbl1
      clear hbl1
      go_wp2_with fail
      refine (HNM.out _).mono ?_
      rintro e2 w2 ⟨rfl, hb2⟩
      have hbl2 := (hb2.block _ (lt_of_blk' HBL1.out)).trans HBL1.out
      have HB2 := Lib.hid (HB1.out.trans (hb2.mono hsz1))
      have d0 := cell_of_row w2 _ 0 _ _ (0, 0) hbl2
      have d1 := cell_of_row w2 _ 1 _ _ (0, 0) hbl2
      have d2 := cell_of_row w2 _ 2 _ _ (0, 0) hbl2
      have d3 := cell_of_row w2 _ 3 _ _ (0, 0) hbl2
      have d4 := cell_of_row w2 _ 4 _ _ (0, 0) hbl2
      have HBL2 := Lib.hid hbl2
      clear hb2 hbl2
      go_wp2_with fail
      refine (HVF.out _ HB2.out).mono ?_
      rintro e3 w3 ⟨rfl, hb3⟩
      have hbl3 := (hb3.block _ (lt_of_blk' HBL2.out)).trans HBL2.out
      have hsz2 := HB2.out.size
      have HB3 := Lib.hid (HB2.out.trans (hb3.mono hsz2))
      clear hb3 d0 d1 d2 d3 d4
      by_cases hv0 : ve = 0
      · subst hv0
        have d0 := cell_of_row w3 _ 0 _ _ (0, 0) hbl3
        have d1 := cell_of_row w3 _ 1 _ _ (0, 0) hbl3
        have d2 := cell_of_row w3 _ 2 _ _ (0, 0) hbl3
        have d3 := cell_of_row w3 _ 3 _ _ (0, 0) hbl3
        have d4 := cell_of_row w3 _ 4 _ _ (0, 0) hbl3
        clear hbl3
        go_wp2_with fail
        refine (HW.out _ HB3.out (by trivial)).mono ?_
        rintro e4 w4 ⟨v4, rfl, hP4⟩
        have hP5 := hP4.after HB3.out
        obtain ⟨F, xs, h1, h2, h3, h4⟩ := hP5.rep
        obtain ⟨A4, c4, rfl⟩ := own_shape h1
        have HP5 := Lib.hid hP5
        have HB5 := Lib.hid hP5.bel
        obtain ⟨z, hz4⟩ : ∃ z, z = pl.length := ⟨_, rfl⟩
        have HZ4 := Lib.hid hz4
        rw [← hz4] at HP5 HE HPL ⊢
        have hzle := HPL.out
        have hnle := HLL.out (by trivial)
        clear hP4 hP5 h1 h2 h3 h4 hz4 d0 d1 d2 d3 d4
        by_cases hbig : 20 < z
        · have p2 : (20 : Int) < z := by omega
          go_wp2_with fail
          go_ret2
          have e3 : pe = 4 := by have := HE.out; simpa [hbig] using this
          rw [e3]
          exact gives_bad (by decide) HB5.out
        · have p2 : ¬ (20 : Int) < z := by omega
          go_wp2_with fail
          go_ret2
          have e3 : pe = 0 := by have := HE.out; simpa [hbig] using this
          rw [e3]
          exact ⟨_, rfl, by rw [if_pos rfl]; exact HP5.out⟩
      · clear hbl3
        have HV0 := Lib.hid hv0
        go_wp2_with fail
        go_ret2
        have e3 : pe = ve := by have := HE.out; simpa [HV0.out] using this
        rw [e3]
        exact gives_bad HV0.out HB3.out
  · have HF0 := Lib.hid hf0
    clear hbl1
    go_wp2_with fail
    go_ret2
    have e3 : pe = fe := by have := HE.out; simpa [HF0.out] using this
    rw [e3]
    exact gives_bad HF0.out HB1.out
end Go.Proofs.YtggnocajpnmemaaGreatDoor
namespace Go.Proofs.YtggnocajpnmemaaGreatDoor
open Go.RowKit Go.Shelf

set_option maxRecDepth 100000 in
set_option maxHeartbeats 8000000 in
theorem dropOf_any (l : List PV) (q : ByteArray) (A : Option Addr) (c : Nat) (w : World)
    (hl : PSl w w.heap.size l (.slice A l.length c)) (hz : q.size ≤ 1048576) :
    Calls Tryz.prog 21 #[.slice A l.length c, .string q] w (Gives w (dropE l q) (woL l q)) := by
  have HP := Lib.hid (fun W (hW : Below w.heap.size w W) => propsFault_any l A c W ((hl.below hW (Nat.le_refl _)).up hW.size))
  have HNM := Lib.hid (fun W => isName_any q W (by omega))
  have HGO : Hid (∀ W, Below w.heap.size w W → Calls Tryz.prog 23 #[.slice A l.length c, .string q] W fun e w' =>
      ((∃ k i t s A2 n2 c2, getV l q ≠ none ∧ e = .returned (.tuple #[.agg #[.int .i64 k, .int .i64 i, .int .i64 t, .string s, .slice A2 n2 c2], .bool true])) ∨ (getV l q = none ∧ e = .returned (.tuple #[.agg #[.int .i64 0, .int .i64 0, .int .i64 0, .string ⟨#[]⟩, .slice none 0 0], .bool false]))) ∧ Below W.heap.size W w') := Lib.hid (fun W hW => (getOf_any l q A c W ((hl.below hW (Nat.le_refl _)).up hW.size)).mono (by
    rintro e w' ⟨hr, hb⟩
    refine ⟨?_, hb⟩
    rcases hr with ⟨j, hj, g, hy, hno2, hva, rfl⟩ | ⟨hno2, rfl⟩
    · refine .inl ?_
      rcases hlv : l[j].val with ⟨k, i, t, s, lx⟩
      rw [hlv] at hva
      obtain ⟨_, sl, rfl, A2, c2, rfl, _⟩ := hva
      exact ⟨k, i, t, s, A2, lx.length, c2, by rw [getV_at hj hy hno2]; simp, rfl⟩
    · exact .inr ⟨getV_none hno2, rfl⟩))
  have HW : Hid (∀ W, Below w.heap.size w W → propsE l = 0 → Calls Tryz.prog 49 #[.slice A l.length c, .string q, .agg #[.int .i64 0, .int .i64 0, .int .i64 0, .string ⟨#[]⟩, .slice none 0 0]] W fun e w' => ∃ v, e = .returned v ∧ PrOwn W W.heap.size (woL l q) v w') := Lib.hid (fun W hW h0 => by
    have h20 : l.length ≤ 1000 := by unfold propsE at h0; split at h0; exact absurd h0 (by decide); omega
    have h := with_any l q A c 0 0 0 ⟨#[]⟩ [] none 0 0 W ((hl.below hW (Nat.le_refl _)).up hW.size) h20 ⟨none, 0, rfl, by simp, by simp, .inl rfl⟩ ⟨hz, by decide⟩ (fun h => absurd rfl h)
    simpa using h)
  have HE : Hid (dropE l q = if propsE l ≠ 0 then propsE l else if nameOk q = false then 3 else if getV l q = none then 7 else 0) := Lib.hid rfl
  generalize hpe : dropE l q = pe at HE ⊢
  generalize hpl : woL l q = pl at HW ⊢
  obtain ⟨fe, hfe⟩ : ∃ fe, fe = propsE l := ⟨_, rfl⟩
  rw [← hfe] at HP HE HW
  obtain ⟨n, hn⟩ : ∃ n, n = l.length := ⟨_, rfl⟩
  rw [← hn] at HP HGO HW ⊢
  clear hl hpe hpl hfe hn
  go_enter Tryz.func21, Tryz.ntmps21
  go_wp2_with fail
  refine (HP.out _ (Below.refl _ w)).mono ?_
  rintro e1 w1 ⟨rfl, hb1⟩
  have HB1 := Lib.hid hb1
  clear hb1
  by_cases hf0 : fe = 0
  · subst hf0
    have hsz1 := HB1.out.size
    rcases hno : nameOk q with _ | _
    · rw [hno] at HNM HE
      go_wp2_with fail
      refine (HNM.out _).mono ?_
      rintro e2 w2 ⟨rfl, hb2⟩
      have HB2 := Lib.hid (HB1.out.trans (hb2.mono hsz1))
      clear hb2
      go_wp2_with fail
      go_ret2
      have e3 : pe = 3 := by have := HE.out; simpa using this
      rw [e3]
      exact gives_bad (by decide) HB2.out
    · rw [hno] at HNM HE
      go_wp2_with fail
      refine (HNM.out _).mono ?_
      rintro e2 w2 ⟨rfl, hb2⟩
      have HB2 := Lib.hid (HB1.out.trans (hb2.mono hsz1))
      clear hb2
      go_wp2_with fail
      refine (HGO.out _ HB2.out).mono ?_
      rintro e3 w3 ⟨hr, hb3⟩
      have hsz2 := HB2.out.size
      have HB3 := Lib.hid (HB2.out.trans (hb3.mono hsz2))
      have hsz3 := HB3.out.size
      clear hb3
      rcases hr with ⟨k, i, t, s, A2, m, c2, hg, rfl⟩ | ⟨hg, rfl⟩
      · have HG := Lib.hid hg
        clear hg
        go_wp2_with fail
        refine (HW.out _ (by first | exact HB3.out.alloc hsz3 _ | exact ((((((HB3.out.alloc hsz3 _).setCell hsz3 _).setCell hsz3 _).setCell hsz3 _).setCell hsz3 _).setCell hsz3 _)) (by trivial)).mono ?_
        rintro e4 w4 ⟨v4, rfl, hP4⟩
        have hP5 := hP4.after (w := w) (by first | exact HB3.out.alloc hsz3 _ | exact ((((((HB3.out.alloc hsz3 _).setCell hsz3 _).setCell hsz3 _).setCell hsz3 _).setCell hsz3 _).setCell hsz3 _))
        have HP5 := Lib.hid hP5
        clear hP4 hP5
        go_wp2_with fail
        go_ret2
        have e3 : pe = 0 := by have := HE.out; rw [if_neg HG.out] at this; simpa using this
        rw [e3]
        exact ⟨_, rfl, by rw [if_pos rfl]; exact HP5.out⟩
      · have HG := Lib.hid hg
        clear hg
        go_wp2_with fail
        go_ret2
        have e3 : pe = 7 := by have := HE.out; rw [if_pos HG.out] at this; simpa using this
        rw [e3]
        refine gives_bad (by decide) ?_
        first | exact HB3.out.alloc hsz3 _ | exact ((((((HB3.out.alloc hsz3 _).setCell hsz3 _).setCell hsz3 _).setCell hsz3 _).setCell hsz3 _).setCell hsz3 _)
  · have HF0 := Lib.hid hf0
    go_wp2_with fail
    go_ret2
    have e3 : pe = fe := by have := HE.out; simpa [HF0.out] using this
    rw [e3]
    exact gives_bad HF0.out HB1.out
end Go.Proofs.YtggnocajpnmemaaGreatDoor
namespace Go.Proofs.YtggnocajpnmemaaGreatDoor
open Go.RowKit Go.Shelf

set_option maxRecDepth 100000 in
set_option maxHeartbeats 8000000 in
theorem dropP_any (l : List PV) (q : ByteArray) (A : Option Addr) (c : Nat) (w : World)
    (hl : PSl w w.heap.size l (.slice A l.length c)) (hN : ∀ p ∈ l, nodesV p.val ≤ 1048576) (hz : q.size ≤ 1048576) :
    Calls Tryz.prog 20 #[.slice A l.length c, .string q] w (Gives w (dropE l q) (woL l q)) := by
  have HP := Lib.hid (fun W (hW : Below w.heap.size w W) => checkProps_any l A c W ((hl.below hW (Nat.le_refl _)).up hW.size))
  have HNM := Lib.hid (fun W => checkName_any q W (by omega))
  have HPO : Hid (∀ W, Below w.heap.size w W → propsE l = 0 → Calls Tryz.prog 46 #[.slice A l.length c, .string q] W fun e w' =>
      (∃ (r : Nat) (b : Bool), (b = true ↔ getV l q ≠ none) ∧ e = .returned (.tuple #[.int .i64 r, .bool b])) ∧ Below W.heap.size W w') := Lib.hid (fun W hW h0 => (position_any l q A c W ((hl.below hW (Nat.le_refl _)).up hW.size) (mono_of (propsE_rise h0) q)).mono (by
    rintro e w' ⟨⟨r, b, hr, h1, h2, h3, rfl⟩, hb⟩
    refine ⟨⟨r, b, ?_, rfl⟩, hb⟩
    rw [h3]
    constructor
    · rintro ⟨hr2, h4⟩
      rw [found_some h1 hr2 h4]; simp
    · intro h4
      by_cases hx : ∃ hr : r < l.length, cmpS l[r].nm q = 0
      · exact hx
      · exact absurd (found_none (propsE_rise h0) h1 h2 hx) h4))
  have HW := Lib.hid (fun W (hW : Below w.heap.size w W) => without_any l q A c W ((hl.below hW (Nat.le_refl _)).up hW.size) hN)
  have HE : Hid (dropE l q = if propsE l ≠ 0 then propsE l else if nameOk q = false then 3 else if getV l q = none then 7 else 0) := Lib.hid rfl
  have HNE : Hid (nameE q = if nameOk q then 0 else 3) := Lib.hid rfl
  generalize hpe : dropE l q = pe at HE ⊢
  generalize hpl : woL l q = pl at HW ⊢
  obtain ⟨fe, hfe⟩ : ∃ fe, fe = propsE l := ⟨_, rfl⟩
  rw [← hfe] at HP HE HPO
  obtain ⟨n, hn⟩ : ∃ n, n = l.length := ⟨_, rfl⟩
  rw [← hn] at HP HPO HW ⊢
  clear hl hN hpe hpl hfe hn
  go_enter Tryz.func20, Tryz.ntmps20
  go_wp2_with fail
  refine (HP.out _ (Below.refl _ w)).mono ?_
  rintro e1 w1 ⟨rfl, hb1⟩
  have HB1 := Lib.hid hb1
  clear hb1
  by_cases hf0 : fe = 0
  · subst hf0
    have hsz1 := HB1.out.size
    rcases hno : nameOk q with _ | _
    · have h3 : nameE q = 3 := by rw [HNE.out, hno]; rfl
      rw [h3] at HNM
      rw [hno] at HE
      go_wp2_with fail
      refine (HNM.out _).mono ?_
      rintro e2 w2 ⟨rfl, rfl⟩
      go_wp2_with fail
      go_ret2
      have e3 : pe = 3 := by have := HE.out; simpa using this
      rw [e3]
      exact gives_bad (by decide) HB1.out
    · have h3 : nameE q = 0 := by rw [HNE.out, hno]; rfl
      rw [h3] at HNM
      rw [hno] at HE
      go_wp2_with fail
      refine (HNM.out _).mono ?_
      rintro e2 w2 ⟨rfl, rfl⟩
      go_wp2_with fail
      refine (HPO.out _ HB1.out (by trivial)).mono ?_
      rintro e3 w3 ⟨⟨r, b, hrb, rfl⟩, hb3⟩
      have HB3 := Lib.hid (HB1.out.trans (hb3.mono hsz1))
      have HRB := Lib.hid hrb
      clear hb3 hrb
      rcases b with _ | _
      · go_wp2_with fail
        go_ret2
        have e3 : pe = 7 := by
          have := HE.out
          have hg : getV l q = none := Classical.byContradiction fun h => by have := HRB.out.2 h; simp at this
          rw [if_pos hg] at this; simpa using this
        rw [e3]
        exact gives_bad (by decide) HB3.out
      · go_wp2_with fail
        refine (HW.out _ HB3.out).mono ?_
        rintro e4 w4 ⟨v4, rfl, hP4⟩
        have HP5 := Lib.hid (hP4.after HB3.out)
        clear hP4
        go_wp2_with fail
        go_ret2
        have e3 : pe = 0 := by
          have := HE.out
          rw [if_neg (HRB.out.1 (by trivial))] at this; simpa using this
        rw [e3]
        exact ⟨_, rfl, by rw [if_pos rfl]; exact HP5.out⟩
  · have HF0 := Lib.hid hf0
    go_wp2_with fail
    go_ret2
    have e3 : pe = fe := by have := HE.out; simpa [HF0.out] using this
    rw [e3]
    exact gives_bad HF0.out HB1.out
end Go.Proofs.YtggnocajpnmemaaGreatDoor
