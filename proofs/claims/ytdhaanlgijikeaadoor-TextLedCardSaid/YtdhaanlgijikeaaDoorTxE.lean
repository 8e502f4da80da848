/- Package text, part 5: each token of a string, in order, is visited. -/
import Derived.Test.YtdhaanlgijikeaaDoorTxD
import Derived.WalkKit
import Derived.Lib.Hide
import Derived.Outline
import Derived.Deep.QuietTactic
import Derived.BigQuiet
import Derived.Deep.LoopGhost
import Derived.WalkMore
namespace Go.Proofs.YtdhaanlgijikeaaDoor
open Go.RowKit

/-! ### Frames: only blocks of F, and new ones, may differ -/
structure Out (F : Nat → Prop) (w w' : World) : Prop where
  os : w'.os = w.os
  tape : w'.tape = w.tape
  output : w'.output = w.output
  size : w.heap.size ≤ w'.heap.size
  block : ∀ k, k < w.heap.size → ¬ F k → w'.heap[k]? = w.heap[k]?

theorem Out.refl (F : Nat → Prop) (w : World) : Out F w w := ⟨rfl, rfl, rfl, Nat.le_refl _, fun _ _ _ => rfl⟩
theorem Out.of_below {F : Nat → Prop} {w w' : World} (h : Below w.heap.size w w') : Out F w w' := ⟨h.os, h.tape, h.output, h.size, fun k hk _ => h.block k hk⟩
theorem Out.trans {F G : Nat → Prop} {a b c : World} (h : Out F a b) (k : Out G b c) (hG : ∀ n, n < a.heap.size → G n → F n) : Out F a c :=
  ⟨k.os.trans h.os, k.tape.trans h.tape, k.output.trans h.output, Nat.le_trans h.size k.size, fun n hn hF => (k.block n (Nat.lt_of_lt_of_le hn h.size) (fun hg => hF (hG n hn hg))).trans (h.block n hn hF)⟩
theorem Out.mono {F G : Nat → Prop} {a b : World} (h : Out F a b) (hF : ∀ n, F n → G n) : Out G a b := ⟨h.os, h.tape, h.output, h.size, fun n hn hg => h.block n hn (fun hf => hg (hF n hf))⟩
theorem Out.below {F : Nat → Prop} {B : Nat} {a b : World} (h : Out F a b) (hB : B ≤ a.heap.size) (hF : ∀ n, F n → B ≤ n) : Below B a b :=
  ⟨h.os, h.tape, h.output, h.size, fun k hk => h.block k (by omega) (fun hf => by have := hF k hf; omega)⟩

/-- From (F, w) to (F', w'): only what F names has turned, and F' names what F named, or what is new. -/
structure Grew (F : Nat → Prop) (w : World) (F' : Nat → Prop) (w' : World) : Prop where
  out : Out F w w'
  new : ∀ k, F' k → F k ∨ w.heap.size ≤ k
theorem Grew.refl (F : Nat → Prop) (w : World) : Grew F w F w := ⟨Out.refl F w, fun _ h => .inl h⟩
theorem Grew.trans {F G H : Nat → Prop} {a b c : World} (h : Grew F a G b) (k : Grew G b H c) : Grew F a H c :=
  ⟨h.out.trans k.out (fun n hn hg => by rcases h.new n hg with h' | h'; exact h'; omega), fun n hn => by
    rcases k.new n hn with h' | h'
    · exact h.new n h'
    · exact .inr (Nat.le_trans h.out.size h')⟩

/-- A visitor: a function value that is called with one thing after the other; I says what it has done when it has seen a list of things, on blocks of F alone. -/
structure Visits {α : Type} (P : Program) (K : Nat) (cap : Array Value) (arg : α → Array Value) (all : List α) (I : List α → (Nat → Prop) → World → Prop) : Prop where
  enter : ∀ (xs : Array Value) (W : World), (callFunc K xs).run P W = .ok (.enter K xs) W
  lt : ∀ pre F w, I pre F w → ∀ k, F k → k < w.heap.size
  loc : ∀ pre F w w', I pre F w → (∀ k, F k → w'.heap[k]? = w.heap[k]?) → w.heap.size ≤ w'.heap.size → I pre F w'
  step : ∀ pre t post F w, all = pre ++ t :: post → I pre F w → Calls P K (arg t ++ cap) w fun e w' => e = .returned (.tuple #[]) ∧ ∃ F', I (pre ++ [t]) F' w' ∧ Grew F w F' w'

/-- All have been visited. -/
def Visited {α : Type} (I : List α → (Nat → Prop) → World → Prop) (all : List α) (F : Nat → Prop) (w : World) (e : Ending) (w' : World) : Prop :=
  e = .returned (.tuple #[]) ∧ ∃ F', I all F' w' ∧ Grew F w F' w'

/-! ### The tokens of a string -/
def opB (j : Nat) : Int := if j = 0 then 92 else if j = 1 then 96 else if j = 2 then 91 else if j = 3 then 40 else if j = 4 then 35 else 42
def hit (s : ByteArray) (a j : Nat) : Bool := decide (bAt s a = opB j) && decide (a < tokEnd s a j)
def firstK (p : Nat → Bool) : Nat → Nat → Option Nat
  | 0, _ => none
  | n + 1, j => if p j = true then some j else firstK p n (j + 1)

structure Tok where
  kind : Nat
  from_ : Nat
  to_ : Nat

def toksF (s : ByteArray) : Nat → Nat → List Tok
  | 0, _ => []
  | n + 1, a =>
    if a < s.size then
      match firstK (hit s a) 6 0 with
      | some k => ⟨k, a, tokEnd s a k⟩ :: toksF s n (tokEnd s a k)
      | none => toksF s n (a + 1)
    else []
def toks (s : ByteArray) : List Tok := toksF s s.size 0

theorem firstK_hit {p : Nat → Bool} : ∀ {n j k : Nat}, firstK p n j = some k → p k = true ∧ k < n + j
  | 0, _, _, h => by simp [firstK] at h
  | n + 1, j, k, h => by
    unfold firstK at h
    by_cases hp : p j = true
    · rw [if_pos hp] at h
      injection h with h
      subst h
      exact ⟨hp, by omega⟩
    · rw [if_neg hp] at h
      have := firstK_hit h
      exact ⟨this.1, by omega⟩
theorem hit_lt {s : ByteArray} {a j : Nat} (h : hit s a j = true) : a < tokEnd s a j := by
  unfold hit at h
  simp only [Bool.and_eq_true, decide_eq_true_eq] at h
  exact h.2
theorem toksF_fuel (s : ByteArray) : ∀ (n m a : Nat), s.size - a ≤ n → s.size - a ≤ m → toksF s n a = toksF s m a
  | 0, 0, _, _, _ => rfl
  | 0, m + 1, a, h, _ => by unfold toksF; rw [if_neg (by omega)]
  | n + 1, 0, a, _, h => by unfold toksF; rw [if_neg (by omega)]
  | n + 1, m + 1, a, hn, hm => by
    unfold toksF
    by_cases ha : a < s.size
    · rw [if_pos ha, if_pos ha]
      split
      · rename_i k hk
        have := hit_lt (firstK_hit hk).1
        rw [toksF_fuel s n m _ (by omega) (by omega)]
      · exact toksF_fuel s n m _ (by omega) (by omega)
    · rw [if_neg ha, if_neg ha]
theorem toksF_end {s : ByteArray} {a n : Nat} (h : ¬ a < s.size) : toksF s n a = [] := by
  cases n with
  | zero => rfl
  | succ n => unfold toksF; rw [if_neg h]
theorem toksF_tok {s : ByteArray} {a k : Nat} (ha : a < s.size) (hk : firstK (hit s a) 6 0 = some k) : toksF s (s.size - a) a = ⟨k, a, tokEnd s a k⟩ :: toksF s (s.size - tokEnd s a k) (tokEnd s a k) := by
  obtain ⟨n, hn⟩ : ∃ n, s.size - a = n + 1 := ⟨s.size - a - 1, by omega⟩
  have := hit_lt (firstK_hit hk).1
  rw [hn]
  conv => lhs; unfold toksF
  rw [if_pos ha, hk]
  simp only
  rw [toksF_fuel s n (s.size - tokEnd s a k) _ (by omega) (Nat.le_refl _)]
theorem toksF_none {s : ByteArray} {a : Nat} (ha : a < s.size) (hk : firstK (hit s a) 6 0 = none) : toksF s (s.size - a) a = toksF s (s.size - (a + 1)) (a + 1) := by
  obtain ⟨n, hn⟩ : ∃ n, s.size - a = n + 1 := ⟨s.size - a - 1, by omega⟩
  rw [hn]
  conv => lhs; unfold toksF
  rw [if_pos ha, hk]
  simp only
  rw [toksF_fuel s n (s.size - (a + 1)) _ (by omega) (Nat.le_refl _)]

theorem eAfter_le {s m : ByteArray} {a : Nat} (h : a ≤ s.size) : eAfter s a m ≤ s.size := by
  unfold eAfter
  split
  · rename_i hp; exact pre_le hp h
  · omega
theorem tokEnd_le {s : ByteArray} {a k : Nat} (ha : a < s.size) : tokEnd s a k ≤ s.size := by
  unfold tokEnd
  split
  · unfold escEnd; split
    · split <;> omega
    · omega
  · split
    · unfold codEnd
      split
      · omega
      · have h := idx_lt (s.extract (a + 1) s.size).data.toList 96
        rw [← Lib.size_eq, ByteArray.size_extract] at h
        omega
    · split
      · unfold lnkEnd
        split
        · rename_i hp
          have h1 := pre_le hp (by omega)
          have h1' : a + 2 ≤ s.size := h1
          have h2 := runTo_le (cls := cTarget) h1'
          split
          · split
            · rename_i hq
              have h3 := pre_le hq h2.2
              have h3' : runTo cTarget s (a + 2) + 1 ≤ s.size := h3
              have h4 := runTo_le (cls := cShown) h3'
              split
              · omega
              · exact eAfter_le h4.2
            · exact eAfter_le h2.2
          · omega
        · omega
      · split
        · unfold rfEnd
          split
          · rename_i hp
            have h1' : a + 2 ≤ s.size := pre_le hp (by omega)
            have h2 := runTo_le (cls := cDigit) h1'
            split
            · omega
            · exact eAfter_le h2.2
          · omega
        · split
          · unfold tgEnd
            have h2 := runTo_le (cls := cTag) (s := s) (a := a + 1) (by omega)
            split
            · omega
            · split <;> omega
          · exact eAfter_le (by omega)

/-! ### The walk -/
def tokArgs (t : Tok) : Array Value := #[.int .i64 t.kind, .int .i64 t.from_, .int .i64 t.to_]

/-- What holds when the string has been gone through up to a. -/
structure TokRel (s : ByteArray) (I : List Tok → (Nat → Prop) → World → Prop) (F0 : Nat → Prop) (w : World) (a : Nat) (wr : World) : Prop where
  le : a ≤ s.size
  vis : ∃ done F, toks s = done ++ toksF s (s.size - a) a ∧ I done F wr ∧ Grew F0 w F wr

theorem below_of_drewN {w w1 : World} {n : Nat} (h : Below (w.drewN n).heap.size (w.drewN n) w1) : Below w.heap.size w w1 := ⟨h.os, h.tape, h.output, h.size, h.block⟩
theorem below_drewN (w : World) (n : Nat) : Below w.heap.size w (w.drewN n) := ⟨rfl, rfl, rfl, Nat.le_refl _, fun _ _ => rfl⟩
theorem TokRel.start {s : ByteArray} {I : List Tok → (Nat → Prop) → World → Prop} {F0 : Nat → Prop} {w : World} (h : I [] F0 w) : TokRel s I F0 w 0 w :=
  ⟨Nat.zero_le _, [], F0, rfl, h, Grew.refl _ _⟩
theorem TokRel.quiet {s : ByteArray} {K : Nat} {cap : Array Value} {P : Program} {I : List Tok → (Nat → Prop) → World → Prop} {F0 : Nat → Prop} {w wr wx : World} {a : Nat} (hV : Visits P K cap tokArgs (toks s) I) (h : TokRel s I F0 w a wr) (hb : Below wr.heap.size wr wx) : TokRel s I F0 w a wx := by
  obtain ⟨hle, done, F, hc, hi, hg⟩ := h
  exact ⟨hle, done, F, hc, hV.loc _ _ _ _ hi (fun k hk => hb.block k (hV.lt _ _ _ hi k hk)) hb.size, hg.trans ⟨Out.of_below hb, fun k hk => .inl hk⟩⟩
theorem TokRel.skip {s : ByteArray} {I : List Tok → (Nat → Prop) → World → Prop} {F0 : Nat → Prop} {w wr : World} {a : Nat} (h : TokRel s I F0 w a wr) (ha : a < s.size) (hn : firstK (hit s a) 6 0 = none) : TokRel s I F0 w (a + 1) wr := by
  obtain ⟨hle, done, F, hc, hi, hg⟩ := h
  exact ⟨by omega, done, F, by rw [hc, toksF_none ha hn], hi, hg⟩
/-- At a token: what the visitor does, and what holds behind it. -/
theorem TokRel.visit {s : ByteArray} {K : Nat} {cap : Array Value} {P : Program} {I : List Tok → (Nat → Prop) → World → Prop} {F0 : Nat → Prop} {w wr : World} {a k : Nat} (hV : Visits P K cap tokArgs (toks s) I) (h : TokRel s I F0 w a wr) (ha : a < s.size) (hk : firstK (hit s a) 6 0 = some k) :
    Calls P K (tokArgs ⟨k, a, tokEnd s a k⟩ ++ cap) wr fun e wx => e = .returned (.tuple #[]) ∧ TokRel s I F0 w (tokEnd s a k) wx := by
  obtain ⟨hle, done, F, hc, hi, hg⟩ := h
  have hc' := hc
  rw [toksF_tok ha hk] at hc'
  refine (hV.step done ⟨k, a, tokEnd s a k⟩ _ F wr hc' hi).mono ?_
  rintro e wx ⟨rfl, F', hi', hg'⟩
  exact ⟨rfl, tokEnd_le ha, _, F', by rw [hc']; simp, hi', hg.trans hg'⟩
theorem TokRel.done {s : ByteArray} {I : List Tok → (Nat → Prop) → World → Prop} {F0 : Nat → Prop} {w wr : World} {a : Nat} (h : TokRel s I F0 w a wr) (ha : ¬ a < s.size) : ∃ F', I (toks s) F' wr ∧ Grew F0 w F' wr := by
  obtain ⟨hle, done, F, hc, hi, hg⟩ := h
  rw [toksF_end ha, List.append_nil] at hc
  exact ⟨F, by rw [hc]; exact hi, hg⟩

theorem index_at {P : Program} {t : TypeId} {s : ByteArray} {k : IntKind} {i : Int} {n : Nat} (h : P.underlying t = some .string) (hi : i = (n : Int)) (hn : n < s.size) (W : World) :
    (Instr.index t (.string s) (.int k i)).run P W = .ok (.int .u8 (s[n]).toNat) W := by
  subst hi
  rw [run_index_string W t s k n h, dif_pos ⟨by omega, by omega⟩]
  rfl
theorem openers_at {j : Nat} (h : j < 6) : (((⟨#[92, 96, 91, 40, 35, 42]⟩ : ByteArray)[j]'h).toNat : Int) = opB j := by
  rcases (by omega : j = 0 ∨ j = 1 ∨ j = 2 ∨ j = 3 ∨ j = 4 ∨ j = 5) with rfl | rfl | rfl | rfl | rfl | rfl <;> rfl

set_option maxRecDepth 100000 in
set_option maxHeartbeats 4000000 in
theorem eachToken_any (s : ByteArray) (K : Nat) (cap : Array Value) (I : List Tok → (Nat → Prop) → World → Prop) (F0 : Nat → Prop) (w : World) (hs : s.size ≤ 140737488355328)
    (hV : Visits Tryd.prog K cap tokArgs (toks s) I) (hI : I [] F0 w) :
    Calls Tryd.prog 19 #[.string s, .func (Fn.func K) #[] cap] w (Visited I (toks s) F0 w) := by
  have HS := Lib.hid (TokRel.start (s := s) hI)
  have HV := Lib.hid hV
  have hen := hV.enter
  clear hV hI
  go_enter Tryd.func19, Tryd.ntmps19
  go_wp2
  go_step3
  go_wp2
  go_step3
  go_wp2
  go_loopg [4] s.size (fun g q wr => ∃ a : Nat, a + g = s.size ∧ q = .int .i64 a ∧ Hid (TokRel s I F0 w a wr))
  case atStart => exact ⟨0, by omega, rfl, HS⟩
  case round =>
    clear HS
    obtain ⟨a, hag, rfl, hr⟩ := hrel
    have HG := Lib.hid hag
    clear hag
    by_cases ha : a < s.size
    · have ia : (a : Int) < s.size := by omega
      go_wp2
      obtain ⟨wo, rfl⟩ : ∃ wo : World, wo = wr := ⟨_, rfl⟩
      obtain ⟨go, rfl⟩ : ∃ go : Nat, go = gk := ⟨_, rfl⟩
      go_loopg [4, 11] 6 (fun g p q wx => ∃ j : Nat, j + g = 6 ∧ p = .int .i64 a ∧ q = .int .i64 j ∧ Hid (firstK (hit s a) 6 0 = firstK (hit s a) g j) ∧ Hid (TokRel s I F0 w a wx))
      case atStart => exact ⟨0, by omega, rfl, rfl, rfl, hr⟩
      case round =>
        clear hr
        obtain ⟨j, hj, rfl, rfl, hf, hr⟩ := hrel
        cases gk with
        | zero =>
          obtain rfl : j = 6 := by omega
          have HR := Lib.hid (hr.out.skip ha hf.out)
          clear hj
          go_wp2
          go_roundg (go - 1)
          case measure => have := HG.out; omega
          case rel => exact ⟨a + 1, by have := HG.out; omega, by go_num, HR⟩
        | succ g =>
          have j6 : j < 6 := by omega
          have k6 : (j : Int) < 6 := by omega
          have HJ := Lib.hid hj
          clear hj
          have x1 := fun W => index_at (P := Tryd.prog) (t := 9) (s := s) (k := .i64) (i := (a : Int)) (n := a) Tryd.underlying9 rfl ha W
          have x2 := fun W => index_at (P := Tryd.prog) (t := 9) (s := ⟨#[92, 96, 91, 40, 35, 42]⟩) (k := .i64) (i := (j : Int)) (n := j) Tryd.underlying9 rfl j6 W
          rw [openers_at j6] at x2
          have hba := bAt_lt ha
          by_cases h1 : bAt s a = opB j
          · have d1 : ((s[a].toNat : Int) != opB j) = false := by rw [← hba]; simpa using h1
            obtain ⟨e, he⟩ : ∃ e, e = tokEnd s a j := ⟨_, rfl⟩
            have HE := Lib.hid he
            by_cases h2 : a < tokEnd s a j
            · have hh : hit s a j = true := by unfold hit; rw [decide_eq_true h1, decide_eq_true h2]; rfl
              have HK := Lib.hid (show firstK (hit s a) 6 0 = some j by rw [hf.out]; unfold firstK; rw [if_pos hh])
              have l2 : a < e := by rw [he]; exact h2
              have k2 : (a : Int) < e := by omega
              have k3 : e ≤ s.size := by rw [he]; exact tokEnd_le ha
              clear he h1 h2 hh hba
              go_wp2
              go_quiet (fail)
              clear x1 x2
              go_wp2_with fail
              refine (tokenEnd_any s a j _ hs ha j6).mono ?_
              rintro e1 w1 ⟨rfl, hb1⟩
              rw [← HE.out]
              have HQ := Lib.hid (hr.out.quiet HV.out (below_of_drewN hb1))
              clear hb1
              go_wp2_with fail
              have hvis := TokRel.visit HV.out HQ.out ha HK.out
              rw [← HE.out] at hvis
              refine hvis.mono ?_
              rintro e2 w2 ⟨rfl, hr2⟩
              have HR := Lib.hid hr2
              clear hr2 hvis
              go_wp2_with fail
              go_roundg (s.size - e)
              case measure => have := HG.out; omega
              case rel => exact ⟨e, by omega, rfl, HR⟩
            · have hh : hit s a j = false := by unfold hit; rw [decide_eq_false h2, Bool.and_false]
              have HK := Lib.hid (show firstK (hit s a) 6 0 = firstK (hit s a) g (j + 1) by rw [hf.out]; conv => lhs; unfold firstK; rw [if_neg (by simp [hh])])
              have l2 : e ≤ a := by rw [he]; omega
              have k2 : (e : Int) ≤ a := by omega
              clear he h1 h2 hh hba
              go_wp2
              go_quiet (fail)
              clear x1 x2
              go_wp2_with fail
              refine (tokenEnd_any s a j _ hs ha j6).mono ?_
              rintro e1 w1 ⟨rfl, hb1⟩
              rw [← HE.out]
              have HQ := Lib.hid (hr.out.quiet HV.out (below_of_drewN hb1))
              clear hb1
              go_wp2_with fail
              go_roundg g
              case measure => omega
              case rel => exact ⟨j + 1, by have := HJ.out; omega, rfl, by go_num, HK, HQ⟩
          · have d1 : ((s[a].toNat : Int) != opB j) = true := by rw [← hba]; simpa using h1
            have hh : hit s a j = false := by unfold hit; rw [decide_eq_false h1, Bool.false_and]
            have HK := Lib.hid (show firstK (hit s a) 6 0 = firstK (hit s a) g (j + 1) by rw [hf.out]; conv => lhs; unfold firstK; rw [if_neg (by simp [hh])])
            clear h1 hh hba
            go_wp2
            go_quiet (fail)
            clear x1 x2
            go_wp2_with fail
            go_roundg g
            case measure => omega
            case rel => exact ⟨j + 1, by have := HJ.out; omega, rfl, by go_num, HK, Lib.hid (hr.out.quiet HV.out (below_drewN _ _))⟩
    · have HD := Lib.hid (hr.out.done ha)
      go_wp2
      rw [Exit.noGoto_normal]
      go_end0
      exact ⟨rfl, HD.out⟩
end Go.Proofs.YtdhaanlgijikeaaDoor
