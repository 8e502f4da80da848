/- Renumber: what is done with one span. -/
import Derived.Test.YticdapkljbillaaGreatDoorTgH
import Derived.WalkKit
import Derived.Lib.Hide
import Derived.Outline
import Derived.Deep.QuietTactic
import Derived.BigQuiet
import Derived.Deep.RegionHeld3
import Derived.Laws.EntriesVeiled
namespace Go.Proofs.YticdapkljbillaaGreatDoor
open Go.RowKit Go.Maps Go.Sort

theorem wpList_lookup_is {P : Program} (w : World) {ops : Array Oper} {rest : List Oper} {o : Oper} {a : Act} {Q : Exit → Act → World → Prop} (hg : o.guard = none) (m x : Operand) (t : TypeId) (hop : o.op = Op.lookup t m x true)
    (k e : TypeId) (q : IntKind) (K : Keyed P k) (ht : P.underlying t = some (.map k e)) (he : P.underlying e = some (.int q)) (hz : (zeroValue e).run P w = .ok (.int q 0) w) (b n : Nat) (D : DataW Unit)
    (hm : a.eval m = .map (some b)) (hown : w.ownsMap P k (plainElem P e) b n D) (key : Value) (kl : Lit) (hx : a.eval x = key) (hkey : keyOf P k key = some kl)
    (hb : Bool) (c : Int) (h1 : has D kl = hb) (h2 : D.atKey kl (.lit (.int q 0)) = .lit (.int q c)) (hK : wpList P ops Q rest (a.put o.dst (.tuple #[.int q c, .bool hb])) w) :
    wpList P ops Q (o :: rest) a w :=
  wpList_lookup_own_ok_int w hg m x t hop k e q K ht he hz b n D hm hown key kl hx hkey (fun c' hat _ => by
    rw [h2] at hat
    injection hat with hat
    injection hat with _ hat
    subst hat
    rw [h1]
    exact hK)
/-- What a map has at a number. -/
theorem MapIs.at_ {D : DataW Unit} {f : Int → Option Int} (h : MapIs D f) (n : Int) : ∃ hb c, has D (intK n) = hb ∧ D.atKey (intK n) (.lit (.int .i64 0)) = .lit (.int .i64 c) ∧ f n = if hb then some c else none := by
  cases hf : f n with
  | none => exact ⟨false, 0, h.none_ n hf, atKey_of_not_has (h.none_ n hf) _, rfl⟩
  | some c => exact ⟨true, c, (h.some_ n c hf).1, (h.some_ n c hf).2, rfl⟩

/-- The blocks that are only read. -/
def StB (S M m : Nat) (k : Nat) : Prop := k = S ∨ k = M ∨ k = m ∨ k = 1
structure RnSt (S M m : Nat) (s : ByteArray) (D : DataW Unit) (nn : Nat) (W0 w : World) : Prop where
  same : ∀ k, StB S M m k → w.heap[k]? = W0.heap[k]?
  str : One w S (.string s) 9
  mp : One w M (.map (some m)) 40
  map : w.ownsMap Tryz.prog 3 (plainElem (H := Unit) Tryz.prog 3) m nn D
  tab : Tab w
theorem RnSt.kept {S M m : Nat} {s : ByteArray} {D : DataW Unit} {nn : Nat} {W0 w w' : World} (h : RnSt S M m s D nn W0 w) (hk : ∀ k, StB S M m k → w'.heap[k]? = w.heap[k]?) : RnSt S M m s D nn W0 w' where
  same := fun k h1 => (hk k h1).trans (h.same k h1)
  str := h.str.kept (hk _ (.inl rfl))
  mp := h.mp.kept (hk _ (.inr (.inl rfl)))
  map := by
    obtain ⟨es, clock, hb, r⟩ := h.map
    exact ⟨es, clock, (hk _ (.inr (.inr (.inl rfl)))).trans hb, r⟩
  tab := h.tab.kept (hk _ (.inr (.inr (.inr rfl))))
theorem RnSt.lt {S M m : Nat} {s : ByteArray} {D : DataW Unit} {nn : Nat} {W0 w : World} (h : RnSt S M m s D nn W0 w) : ∀ k, StB S M m k → k < w.heap.size := by
  rintro k (rfl | rfl | rfl | rfl)
  · exact h.str.lt
  · exact h.mp.lt
  · exact h.map.lt
  · exact h.tab.lt
theorem RnSt.below {S M m : Nat} {s : ByteArray} {D : DataW Unit} {nn : Nat} {W0 w w' : World} (h : RnSt S M m s D nn W0 w) (hb : Below w.heap.size w w') : RnSt S M m s D nn W0 w' := h.kept fun k hk => hb.block k (h.lt k hk)

def RnI (b S M m nn : Nat) (s : ByteArray) (f : Int → Option Int) (D : DataW Unit) (W0 : World) (done : List Sp) (F : Nat → Prop) (w : World) : Prop :=
  ∃ Fb, Bld b (Lib.byteCells (rnL f s done)) Fb w ∧ RnSt S M m s D nn W0 w ∧ (∀ k, StB S M m k → ¬ Fb k) ∧ F = fun k => Fb k ∨ StB S M m k
def RnStep (b S M m nn : Nat) (s : ByteArray) (f : Int → Option Int) (D : DataW Unit) (W0 : World) (done : List Sp) (x : Sp) (F : Nat → Prop) (w : World) (e : Ending) (w' : World) : Prop :=
  e = .returned (.tuple #[]) ∧ ∃ F', RnI b S M m nn s f D W0 (done ++ [x]) F' w' ∧ Grew F w F' w'

/-- Behind the write. -/
theorem rn_wrote {b S M m nn : Nat} {s : ByteArray} {f : Int → Option Int} {D : DataW Unit} {done : List Sp} {x : Sp} {F : Nat → Prop} {W0 w w2 w3 : World} {Fb F2 : Nat → Prop}
    (hB : Bld b (Lib.byteCells (rnL f s done)) Fb w) (hS : RnSt S M m s D nn W0 w) (hn : ∀ k, StB S M m k → ¬ Fb k) (hF : F = fun k => Fb k ∨ StB S M m k) (h2 : Below w.heap.size w w2)
    (hB2 : Bld b (Lib.byteCells (rnL f s done) ++ Lib.strCells (rnB f s x)) F2 w3) (hg : Grew Fb w2 F2 w3) : RnStep b S M m nn s f D W0 done x F w (.returned (.tuple #[])) w3 := by
  have hnF2 : ∀ k, StB S M m k → ¬ F2 k := fun k hk hf => by
    rcases hg.new k hf with h | h
    · exact hn k hk h
    · have h4 := hS.lt k hk; have h5 := h2.size; omega
  have hk3 : ∀ k, StB S M m k → w3.heap[k]? = w.heap[k]? := fun k hk => by
    have h4 := hS.lt k hk
    have h5 := h2.size
    rw [hg.out.block k (by omega) (hn k hk), h2.block k h4]
  refine ⟨rfl, fun k => F2 k ∨ StB S M m k, ⟨F2, ?_, hS.kept hk3, hnF2, rfl⟩, ⟨?_, ?_⟩⟩
  · rw [rnL_snoc]
    have e : Lib.byteCells (rnL f s done ++ (rnB f s x).data.toList) = Lib.byteCells (rnL f s done) ++ Lib.strCells (rnB f s x) := by simp [Lib.byteCells, Lib.strCells]
    rw [e]; exact hB2
  · rw [hF]
    exact ((Out.of_below (F := fun _ => False) h2).mono (fun _ h => h.elim)).trans hg.out (fun _ _ h => .inl h)
  · rw [hF]
    rintro k (hk | hk)
    · rcases hg.new k hk with h | h
      · exact .inl (.inl h)
      · exact .inr (by have h5 := h2.size; omega)
    · exact .inl (.inr hk)
theorem below_grow (w : World) (k : Nat) (os : Array Obj) : Below w.heap.size w (grow (w.drewN k) os) := by
  refine ⟨rfl, rfl, rfl, ?_, ?_⟩
  · show w.heap.size ≤ (w.heap ++ os).size
    rw [Array.size_append]; omega
  · intro j hj
    show (w.heap ++ os)[j]? = _
    rw [Array.getElem?_append_left hj]

set_option maxRecDepth 100000 in
set_option maxHeartbeats 8000000 in
theorem rn_step (b S M m nn : Nat) (s : ByteArray) (f : Int → Option Int) (D : DataW Unit) (W0 : World) (done : List Sp) (x : Sp) (F : Nat → Prop) (w : World) (h : RnI b S M m nn s f D W0 done F w) (hD : MapIs D f) (hf : Small f) (hx : SpIn s x)
    (hid : x.id ≤ 1000000000) (hl : (rnL f s done).length ≤ 400000000) (hs : s.size ≤ 4000000000) :
    Calls Tryz.prog 21 #[x.val, .pointer (some ⟨M, 0, none⟩), .pointer (some ⟨b, 0, none⟩), .pointer (some ⟨S, 0, none⟩)] w (RnStep b S M m nn s f D W0 done x F w) := by
  obtain ⟨Fb, hB, hS, hn, hF⟩ := h
  have l1 := hx.lt
  have l3 := hx.hi
  obtain ⟨hb, c, m1, m2, m3⟩ := hD.at_ x.id
  have HF := Lib.hid hF
  have HS := Lib.hid hS
  have HB := Lib.hid hB
  have HN := Lib.hid hn
  have wfid : (Lit.int .i64 (x.id : Int)).wf = true := by
    have e1 : IntKind.i64.min = -9223372036854775808 := by kernel_rfl
    have e2 : IntKind.i64.max = 9223372036854775807 := by kernel_rfl
    show (decide (IntKind.i64.min ≤ (x.id : Int)) && decide ((x.id : Int) ≤ IntKind.i64.max)) = true
    rw [e1, e2, decide_eq_true (by omega), decide_eq_true (by omega)]
    rfl
  have hkey : keyOf Tryz.prog 3 (.int .i64 (x.id : Int)) = some (intK x.id) := keyOf_int_mk Tryz.underlying3 wfid
  obtain ⟨o, ho⟩ : ∃ o, o = (Obj.cells #[.int .i64 x.kind, .int .i64 x.from_, .int .i64 x.to_, .string x.text, .string x.shw, .int .i64 x.id, .bool x.strong] 34) := ⟨_, rfl⟩
  have hb1 : Below w.heap.size w (w.alloc o) := (Below.refl _ _).alloc (Nat.le_refl _) _
  have hS1 := hS.below hb1
  have cS := hS1.str.cell
  have cM := hS1.mp.cell
  have hB1 : Bld b (Lib.byteCells (rnL f s done)) Fb (w.alloc o) := hB.loc (fun k hk => hb1.block k (hB.lt k hk))
  have HM1 := Lib.hid hS1.map
  have HT1 := Lib.hid hS1.tab
  have HB1 := Lib.hid hB1
  have HBE := Lib.hid hb1
  have hl1 : (Lib.byteCells (rnL f s done)).length = (rnL f s done).length := by simp [Lib.byteCells]
  by_cases h5 : x.kind = 5 ∧ hb = true
  · obtain ⟨k5, rfl⟩ := h5
    have hc := hf _ _ m3
    have q5 : ((x.kind : Int) == 5) = true := by simp [k5]
    have hrb : rnB f s x = ⟨#[40, 40]⟩ ++ dec c.toNat ++ ⟨#[41, 41]⟩ := rnB_yes k5 m3
    have h7 := dec_seven hc.1 hc.2
    have HIT : Hid (Calls Tryz.prog 23 #[.int .i64 c] (w.alloc o) fun e w' => e = .returned (.string (dec c.toNat)) ∧ ∃ k os, w' = grow ((w.alloc o).drewN k) os) := Lib.hid (by
      rw [← itoa_dec (by omega)]
      exact Tryz.strconv_Itoa c (by omega) (by omega) _ HT1.out)
    have HW : Hid (∀ w2 w3 F2, Below w.heap.size w w2 → Bld b (Lib.byteCells (rnL f s done) ++ Lib.strCells (⟨#[40, 40]⟩ ++ dec c.toNat ++ ⟨#[41, 41]⟩)) F2 w3 → Grew Fb w2 F2 w3 → RnStep b S M m nn s f D W0 done x F w (.returned (.tuple #[])) w3) :=
      Lib.hid (fun w2 w3 F2 h2 h3 h4 => rn_wrote HB.out HS.out HN.out HF.out h2 (by rw [hrb]; exact h3) h4)
    obtain ⟨T, hT⟩ : ∃ T, T = dec c.toNat := ⟨_, rfl⟩
    rw [← hT] at HIT HW h7
    clear hB hS hn hS1 hB1 hb1 hF hrb m3 hT k5 wfid hx
    obtain ⟨xk, xf, xe, xt, xs, xi, xb⟩ := x
    subst ho
    unfold Sp.val
    simp only at q5 l1 l3 hkey m1 m2 HW HB1 HM1 HT1 HIT cS cM HBE ⊢
    have HM1o := HM1.out
    go_enter Tryz.func21, Tryz.ntmps21
    go_wp2_with (at_lookup; refine wpList_lookup_is _ rfl _ _ 40 rfl 3 3 .i64 keyI Tryz.underlying40 Tryz.underlying3 (zeroI _) m nn D rfl HM1o _ _ rfl hkey true c m1 m2 ?_)
    refine HIT.out.mono ?_
    rintro e2 w2 ⟨rfl, k2, os2, rfl⟩
    have hb2 : Below w.heap.size w (grow ((w.alloc (.cells #[.int .i64 xk, .int .i64 xf, .int .i64 xe, .string xt, .string xs, .int .i64 xi, .bool xb] 34)).drewN k2) os2) := HBE.out.trans ((below_grow _ _ _).mono (by simp))
    have hB2 : Bld b (Lib.byteCells (rnL f s done)) Fb (grow ((w.alloc (.cells #[.int .i64 xk, .int .i64 xf, .int .i64 xe, .string xt, .string xs, .int .i64 xi, .bool xb] 34)).drewN k2) os2) := HB.out.loc (fun k hk => hb2.block k (HB.out.lt k hk))
    obtain ⟨w2, hw2⟩ : ∃ w2, w2 = grow ((w.alloc (.cells #[.int .i64 xk, .int .i64 xf, .int .i64 xe, .string xt, .string xs, .int .i64 xi, .bool xb] 34)).drewN k2) os2 := ⟨_, rfl⟩
    rw [← hw2] at hb2 hB2 ⊢
    have HB2 := Lib.hid hB2
    have HBE2 := Lib.hid hb2
    clear hw2 hb2 hB2
    go_wp2_with fail
    obtain ⟨U, hU⟩ : ∃ U : ByteArray, U = ⟨#[40, 40]⟩ ++ T ++ ⟨#[41, 41]⟩ := ⟨_, rfl⟩
    rw [← hU] at HW ⊢
    have hlen : (Lib.byteCells (rnL f s done)).length + U.size ≤ 140737488355328 := by rw [hU, hl1, par_size]; omega
    have HC := Lib.hid (writeString_any b _ U Fb _ HB2.out hlen)
    clear hlen hU
    refine HC.out.mono ?_
    rintro e3 w3 ⟨rfl, F2, hB3, hg3⟩
    have HR := Lib.hid (HW.out _ _ _ HBE2.out hB3 hg3)
    clear hB3 hg3
    go_wp2
    go_end0
    exact HR.out
  · have hrb : rnB f s x = s.extract x.from_ x.to_ := by
      by_cases k5 : x.kind = 5
      · have : hb = false := by
          cases hb with
          | false => rfl
          | true => exact absurd ⟨k5, rfl⟩ h5
        rw [this] at m3
        exact rnB_none m3
      · exact rnB_no k5
    have HW : Hid (∀ w2 w3 F2, Below w.heap.size w w2 → Bld b (Lib.byteCells (rnL f s done) ++ Lib.strCells (s.extract x.from_ x.to_)) F2 w3 → Grew Fb w2 F2 w3 → RnStep b S M m nn s f D W0 done x F w (.returned (.tuple #[])) w3) :=
      Lib.hid (fun w2 w3 F2 h2 h3 h4 => rn_wrote HB.out HS.out HN.out HF.out h2 (by rw [hrb]; exact h3) h4)
    obtain ⟨kb, hkb⟩ : ∃ kb, ((x.kind : Int) == 5) = kb := ⟨_, rfl⟩
    have hor : kb = false ∨ hb = false := by
      cases kb with
      | false => exact .inl rfl
      | true =>
        cases hb with
        | false => exact .inr rfl
        | true =>
          have h6 : (x.kind : Int) = 5 := by simpa using hkb
          exact absurd ⟨by omega, rfl⟩ h5
    clear hB hS hn hS1 hB1 hb1 hF hrb m3 wfid hx h5
    obtain ⟨xk, xf, xe, xt, xs, xi, xb⟩ := x
    subst ho
    unfold Sp.val
    simp only at hkb l1 l3 hkey m1 m2 HW HB1 HM1 HT1 cS cM HBE ⊢
    have i1 : (xf : Int) ≤ xe := by omega
    have i2 : (xe : Int) ≤ s.size := by omega
    have i3 : (0 : Int) ≤ xf := by omega
    have HM1o := HM1.out
    cases kb with
    | false =>
      clear hor
      go_enter Tryz.func21, Tryz.ntmps21
      go_wp2_with (at_lookup; refine wpList_lookup_is _ rfl _ _ 40 rfl 3 3 .i64 keyI Tryz.underlying40 Tryz.underlying3 (zeroI _) m nn D rfl HM1o _ _ rfl hkey hb c m1 m2 ?_)
      refine (writeString_any b _ (s.extract xf xe) Fb _ HB1.out ?_).mono ?_
      · have hl2 : (s.extract xf xe).size ≤ s.size := by rw [ByteArray.size_extract]; omega
        omega
      rintro e3 w3 ⟨rfl, F2, hB3, hg3⟩
      have HR := Lib.hid (HW.out _ _ _ HBE.out hB3 hg3)
      clear hB3 hg3
      go_wp2
      go_end0
      exact HR.out
    | true =>
      have : hb = false := by rcases hor with h | h; cases h; exact h
      subst this
      clear hor
      go_enter Tryz.func21, Tryz.ntmps21
      go_wp2_with (at_lookup; refine wpList_lookup_is _ rfl _ _ 40 rfl 3 3 .i64 keyI Tryz.underlying40 Tryz.underlying3 (zeroI _) m nn D rfl HM1o _ _ rfl hkey false c m1 m2 ?_)
      refine (writeString_any b _ (s.extract xf xe) Fb _ HB1.out ?_).mono ?_
      · have hl2 : (s.extract xf xe).size ≤ s.size := by rw [ByteArray.size_extract]; omega
        omega
      rintro e3 w3 ⟨rfl, F2, hB3, hg3⟩
      have HR := Lib.hid (HW.out _ _ _ HBE.out hB3 hg3)
      clear hB3 hg3
      go_wp2
      go_end0
      exact HR.out
end Go.Proofs.YticdapkljbillaaGreatDoor
