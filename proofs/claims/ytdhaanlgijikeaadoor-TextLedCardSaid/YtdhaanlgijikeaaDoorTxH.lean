/- Package text, part 8: each span of a string, in order, is visited. -/
import Derived.Test.YtdhaanlgijikeaaDoorTxG
import Derived.WalkKit
import Derived.Lib.Hide
import Derived.Outline
import Derived.Deep.QuietTactic
import Derived.BigQuiet
import Derived.Deep.RegionHeld3
namespace Go.Proofs.YtdhaanlgijikeaaDoor
open Go.RowKit

def spArgs (x : Sp) : Array Value := #[x.val]
def plainSp (s : ByteArray) (a b seen : Nat) : Sp := ⟨1, a, b, s.extract a b, ⟨#[]⟩, 0, decide (seen % 2 = 1)⟩

/-- What is on the way: the spans so far, how many stars have been seen, where the last span ended. -/
structure SpSt where
  out : List Sp
  seen : Nat
  done : Nat

def plainTo (s : ByteArray) (st : SpSt) (b : Nat) : List Sp := if st.done < b then st.out ++ [plainSp s st.done b st.seen] else st.out
def stepTok (s : ByteArray) (partners : Nat) (st : SpSt) (t : Tok) : SpSt :=
  if t.kind = 5 ∧ st.seen = partners then st
  else ⟨plainTo s st t.from_ ++ [{ spOf s t with strong := decide (st.seen % 2 = 1 ∨ t.kind = 5) }], if t.kind = 5 then st.seen + 1 else st.seen, t.to_⟩
def partnersOf (s : ByteArray) : Nat := stars (toks s) - stars (toks s) % 2
def stAfter (s : ByteArray) (l : List Tok) : SpSt := l.foldl (stepTok s (partnersOf s)) ⟨[], 0, 0⟩
def spans (s : ByteArray) : List Sp := plainTo s (stAfter s (toks s)) s.size

/-- Where what is captured lies, and that the visitor's blocks are others. -/
structure Env (K : Nat) (cap : Array Value) (s : ByteArray) (D V S E : Nat) (seen done : Nat) (F : Nat → Prop) (w : World) : Prop where
  d : One w D (.int .i64 done) 3
  v : One w V (.func (Fn.func K) #[] cap) 33
  s : One w S (.string s) 9
  e : One w E (.int .i64 seen) 3
  nd : ¬ F D
  nv : ¬ F V
  ns : ¬ F S
  ne : ¬ F E

theorem Env.next {K : Nat} {cap : Array Value} {s : ByteArray} {D V S E seen done : Nat} {F F' : Nat → Prop} {w w' : World} (h : Env K cap s D V S E seen done F w) (hg : Grew F w F' w') : Env K cap s D V S E seen done F' w' := by
  have out : ∀ B v T, One w B v T → ¬ F B → One w' B v T := fun B v T h1 h2 => h1.kept (hg.out.block B h1.lt h2)
  have new : ∀ B v T, One w B v T → ¬ F B → ¬ F' B := fun B v T h1 h2 h3 => by
    rcases hg.new B h3 with h4 | h4
    · exact h2 h4
    · have := h1.lt; omega
  exact ⟨out _ _ _ h.d h.nd, out _ _ _ h.v h.nv, out _ _ _ h.s h.ns, out _ _ _ h.e h.ne, new _ _ _ h.d h.nd, new _ _ _ h.v h.nv, new _ _ _ h.s h.ns, new _ _ _ h.e h.ne⟩

theorem mod_odd (n : Nat) : (((n : Int).tmod 2) == 1) = decide (n % 2 = 1) := by
  have h : (n : Int).tmod 2 = ((n % 2 : Nat) : Int) := by
    rw [Int.tmod_eq_emod_of_nonneg (by omega)]; omega
  rw [h, Bool.eq_iff_iff]
  simp
  omega

/-- A plain span up to b is visited, if there is one. -/
def PlainGone (I : List Sp → (Nat → Prop) → World → Prop) (s : ByteArray) (st : SpSt) (b : Nat) (F : Nat → Prop) (w : World) (e : Ending) (w' : World) : Prop :=
  e = .returned (.tuple #[]) ∧ ∃ F', I (plainTo s st b) F' w' ∧ Grew F w F' w'

set_option maxRecDepth 100000 in
set_option maxHeartbeats 4000000 in
theorem plainTo_any {K : Nat} {cap : Array Value} {I : List Sp → (Nat → Prop) → World → Prop} {all : List Sp} (hV : Visits Tryd.prog K cap spArgs all I) (s : ByteArray) (D V S E : Nat) (st : SpSt) (b : Nat) (F : Nat → Prop) (w : World)
    (hs : s.size ≤ 140737488355328) (hE : Env K cap s D V S E st.seen st.done F w) (hI : I st.out F w) (hb : b ≤ s.size) (hn : st.seen ≤ s.size) (hp : ∃ post, all = plainTo s st b ++ post) :
    Calls Tryd.prog 18 #[.int .i64 b, .pointer (some ⟨D, 0, none⟩), .pointer (some ⟨V, 0, none⟩), .pointer (some ⟨S, 0, none⟩), .pointer (some ⟨E, 0, none⟩)] w (PlainGone I s st b F w) := by
  have cd := hE.d.cell
  have cv := hE.v.cell
  have cs := hE.s.cell
  have ce := hE.e.cell
  have hen := hV.enter
  have HV := Lib.hid hV
  have HE := Lib.hid hE
  have HI := Lib.hid hI
  obtain ⟨out, seen, done⟩ := st
  simp only at cd ce hn
  by_cases h1 : done < b
  · have k1 : (done : Int) < b := by omega
    have k2 : (done : Int) ≤ b := by omega
    have k3 : (b : Int) ≤ s.size := by omega
    have k4 : (0 : Int) ≤ (seen : Int) := by omega
    obtain ⟨post, hall⟩ := hp
    have hpl : plainTo s ⟨out, seen, done⟩ b = out ++ [plainSp s done b seen] := by unfold plainTo; rw [if_pos h1]
    rw [hpl] at hall
    have HP := Lib.hid hpl
    have hst : ∀ W, I out F W → Calls Tryd.prog K (#[Value.agg #[.int .i64 1, .int .i64 done, .int .i64 b, .string (s.extract done b), .string ⟨#[]⟩, .int .i64 0, .bool (decide (seen % 2 = 1))]] ++ cap) W fun e w' => e = .returned (.tuple #[]) ∧ ∃ F', I (out ++ [plainSp s done b seen]) F' w' ∧ Grew F W F' w' :=
      fun W hW => hV.step out (plainSp s done b seen) post F W (by rw [hall, List.append_assoc]; rfl) hW
    have HA := Lib.hid hst
    have em : ((seen : Int).tmod 2 == 1) = decide (seen % 2 = 1) := mod_odd seen
    clear hV hE hI hall hpl hst
    go_enter Tryd.func18, Tryd.ntmps18
    go_wp2
    go_region_held3 (fun W => W.cell? ⟨D, 0, none⟩ = some (.int .i64 done) ∧ W.cell? ⟨V, 0, none⟩ = some (.func (Fn.func K) #[] cap) ∧ W.cell? ⟨S, 0, none⟩ = some (.string s) ∧ W.cell? ⟨E, 0, none⟩ = some (.int .i64 seen))
      (go_keep)
      ((refine (HA.out w.drew (HV.out.loc _ _ w w.drew HI.out (fun _ _ => rfl) (Nat.le_refl _))).mono ?_; rintro e w1 ⟨rfl, F', hI', hg'⟩; have hE1 := HE.out.next (w' := w1) (F' := F') ⟨⟨hg'.out.os, hg'.out.tape, hg'.out.output, hg'.out.size, hg'.out.block⟩, hg'.new⟩; have y1 := hE1.d.cell; have y2 := hE1.v.cell; have y3 := hE1.s.cell; have y4 := hE1.e.cell; have HG := Lib.hid hg'; have HI2 := Lib.hid hI'; clear hg' hI' hE1))
    go_wp2
    go_end0
    refine ⟨rfl, F', ?_, ⟨⟨HG.out.out.os, HG.out.out.tape, HG.out.out.output, HG.out.out.size, HG.out.out.block⟩, HG.out.new⟩⟩
    rw [HP.out]
    exact HI2.out
  · have k1 : (b : Int) ≤ done := by omega
    have hpl : plainTo s ⟨out, seen, done⟩ b = out := by unfold plainTo; rw [if_neg h1]
    have HP := Lib.hid hpl
    clear hV hE hI hpl hp
    go_enter Tryd.func18, Tryd.ntmps18
    go_wp2
    go_end0
    refine ⟨rfl, F, ?_, Grew.refl _ _⟩
    rw [HP.out]
    exact HI.out
end Go.Proofs.YtdhaanlgijikeaaDoor
