/- Package text, part 9: what is done with each token. -/
import Derived.Test.YtdhaanlgijikeaaDoorTxH
import Derived.WalkKit
import Derived.Lib.Hide
import Derived.Outline
import Derived.Deep.QuietTactic
import Derived.BigQuiet
import Derived.Deep.RegionHeld3
namespace Go.Proofs.YtdhaanlgijikeaaDoor
open Go.RowKit

def tokSp (s : ByteArray) (st : SpSt) (t : Tok) : Sp := { spOf s t with strong := decide (st.seen % 2 = 1 ∨ t.kind = 5) }
theorem stepTok_no {s : ByteArray} {p : Nat} {st : SpSt} {t : Tok} (h : t.kind = 5 ∧ st.seen = p) : stepTok s p st t = st := by unfold stepTok; rw [if_pos h]
theorem stepTok_yes {s : ByteArray} {p : Nat} {st : SpSt} {t : Tok} (h : ¬ (t.kind = 5 ∧ st.seen = p)) :
    stepTok s p st t = ⟨plainTo s st t.from_ ++ [tokSp s st t], if t.kind = 5 then st.seen + 1 else st.seen, t.to_⟩ := by unfold stepTok; rw [if_neg h]; rfl
theorem plainTo_pre (s : ByteArray) (st : SpSt) (b : Nat) : ∃ x, plainTo s st b = st.out ++ x := by
  unfold plainTo
  split
  · exact ⟨_, rfl⟩
  · exact ⟨[], by simp⟩
theorem fold_pre (s : ByteArray) (p : Nat) : ∀ (l : List Tok) (st : SpSt), ∃ x, (l.foldl (stepTok s p) st).out = st.out ++ x
  | [], st => ⟨[], by simp⟩
  | t :: r, st => by
    obtain ⟨x, hx⟩ := fold_pre s p r (stepTok s p st t)
    rw [List.foldl_cons, hx]
    by_cases h : t.kind = 5 ∧ st.seen = p
    · rw [stepTok_no h]; exact ⟨x, rfl⟩
    · rw [stepTok_yes h]
      obtain ⟨y, hy⟩ := plainTo_pre s st t.from_
      exact ⟨y ++ [tokSp s st t] ++ x, by simp [hy]⟩
theorem stAfter_snoc (s : ByteArray) (l : List Tok) (t : Tok) : stAfter s (l ++ [t]) = stepTok s (partnersOf s) (stAfter s l) t := by simp [stAfter]
theorem spans_from {s : ByteArray} {l m : List Tok} (h : toks s = l ++ m) : ∃ y, spans s = (stAfter s l).out ++ y := by
  unfold spans
  obtain ⟨x, hx⟩ := plainTo_pre s (stAfter s (toks s)) s.size
  rw [hx, h]
  unfold stAfter
  rw [List.foldl_append]
  obtain ⟨z, hz⟩ := fold_pre s (partnersOf s) m (l.foldl (stepTok s (partnersOf s)) ⟨[], 0, 0⟩)
  rw [hz]
  exact ⟨z ++ x, by simp⟩
theorem spans_cut {s : ByteArray} {l m : List Tok} {t : Tok} (h : toks s = l ++ t :: m) (hn : ¬ (t.kind = 5 ∧ (stAfter s l).seen = partnersOf s)) :
    ∃ y, spans s = plainTo s (stAfter s l) t.from_ ++ tokSp s (stAfter s l) t :: y := by
  obtain ⟨y, hy⟩ := spans_from (l := l ++ [t]) (m := m) (by simpa using h)
  rw [stAfter_snoc, stepTok_yes hn] at hy
  exact ⟨y, by simpa using hy⟩
theorem fold_seen (s : ByteArray) (p : Nat) : ∀ (l : List Tok) (st : SpSt), (l.foldl (stepTok s p) st).seen ≤ st.seen + l.length
  | [], st => by simp
  | t :: r, st => by
    have h1 := fold_seen s p r (stepTok s p st t)
    have h2 : (stepTok s p st t).seen ≤ st.seen + 1 := by
      by_cases h : t.kind = 5 ∧ st.seen = p
      · rw [stepTok_no h]; omega
      · rw [stepTok_yes h]; simp only; split <;> omega
    rw [List.foldl_cons, List.length_cons]
    omega
theorem seen_le {s : ByteArray} {l m : List Tok} (h : toks s = l ++ m) : (stAfter s l).seen ≤ s.size := by
  have h1 := fold_seen s (partnersOf s) l ⟨[], 0, 0⟩
  have h2 : (toks s).length ≤ s.size := toksF_len s s.size 0
  rw [h, List.length_append] at h2
  unfold stAfter
  simp only at h1
  omega

/-- The value of plainTo. -/
def plainVal (D V S E : Nat) : Value := .func (Fn.func 18) #[] #[.pointer (some ⟨D, 0, none⟩), .pointer (some ⟨V, 0, none⟩), .pointer (some ⟨S, 0, none⟩), .pointer (some ⟨E, 0, none⟩)]

/-- What holds between two tokens: G names the blocks that it speaks of. -/
structure TokInv (K : Nat) (cap : Array Value) (s : ByteArray) (I : List Sp → (Nat → Prop) → World → Prop) (D V S E Q L : Nat) (done : List Tok) (G : Nat → Prop) (w : World) : Prop where
  foot : ∃ F, (∀ k, G k ↔ F k ∨ k = D ∨ k = V ∨ k = S ∨ k = E ∨ k = Q ∨ k = L) ∧ I (stAfter s done).out F w ∧ Env K cap s D V S E (stAfter s done).seen (stAfter s done).done F w ∧ ¬ F Q ∧ ¬ F L
  q : One w Q (.int .i64 (partnersOf s)) 3
  l : One w L (plainVal D V S E) 48
  apart : D ≠ E ∧ D ≠ Q ∧ E ≠ Q ∧ D ≠ V ∧ D ≠ S ∧ D ≠ L ∧ E ≠ V ∧ E ≠ S ∧ E ≠ L

theorem Env.move {K : Nat} {cap : Array Value} {s : ByteArray} {D V S E seen done : Nat} {F : Nat → Prop} {w w' : World} (h : Env K cap s D V S E seen done F w)
    (hd : w'.heap[D]? = w.heap[D]?) (hv : w'.heap[V]? = w.heap[V]?) (hs : w'.heap[S]? = w.heap[S]?) (he : w'.heap[E]? = w.heap[E]?) : Env K cap s D V S E seen done F w' :=
  ⟨h.d.kept hd, h.v.kept hv, h.s.kept hs, h.e.kept he, h.nd, h.nv, h.ns, h.ne⟩

theorem TokInv.lt {K : Nat} {cap : Array Value} {s : ByteArray} {I : List Sp → (Nat → Prop) → World → Prop} {D V S E Q L : Nat} {done : List Tok} {G : Nat → Prop} {w : World} {all : List Sp} (hV : Visits Tryd.prog K cap spArgs all I) (h : TokInv K cap s I D V S E Q L done G w) :
    ∀ k, G k → k < w.heap.size := by
  obtain ⟨F, hG, hI, hE, _, _⟩ := h.foot
  intro k hk
  rcases (hG k).1 hk with hk | rfl | rfl | rfl | rfl | rfl | rfl
  · exact hV.lt _ _ _ hI k hk
  · exact hE.d.lt
  · exact hE.v.lt
  · exact hE.s.lt
  · exact hE.e.lt
  · exact h.q.lt
  · exact h.l.lt
theorem TokInv.loc {K : Nat} {cap : Array Value} {s : ByteArray} {I : List Sp → (Nat → Prop) → World → Prop} {D V S E Q L : Nat} {done : List Tok} {G : Nat → Prop} {w w' : World} {all : List Sp} (hV : Visits Tryd.prog K cap spArgs all I) (h : TokInv K cap s I D V S E Q L done G w)
    (hk : ∀ k, G k → w'.heap[k]? = w.heap[k]?) (hs : w.heap.size ≤ w'.heap.size) : TokInv K cap s I D V S E Q L done G w' := by
  obtain ⟨F, hG, hI, hE, n1, n2⟩ := h.foot
  have hh : ∀ k, F k ∨ k = D ∨ k = V ∨ k = S ∨ k = E ∨ k = Q ∨ k = L → w'.heap[k]? = w.heap[k]? := fun k h => hk k ((hG k).2 h)
  exact ⟨⟨F, hG, hV.loc _ _ _ _ hI (fun k h => hh k (.inl h)) hs, hE.move (hh _ (by simp)) (hh _ (by simp)) (hh _ (by simp)) (hh _ (by simp)), n1, n2⟩, h.q.kept (hh _ (by simp)), h.l.kept (hh _ (by simp)), h.apart⟩

theorem One.set_other {w : World} {B C : Nat} {v u : Value} {T : TypeId} (h : One w B v T) (hne : B ≠ C) : One (w.setCell ⟨C, 0, none⟩ u) B v T := h.kept (Below.heap_setCell w ⟨C, 0, none⟩ u B hne)

theorem TokInv.finish {K : Nat} {cap : Array Value} {s : ByteArray} {I : List Sp → (Nat → Prop) → World → Prop} {D V S E Q L : Nat} {done : List Tok} {t : Tok} {G F F4 : Nat → Prop} {w w4 : World} {all : List Sp} (hV : Visits Tryd.prog K cap spArgs all I) (h : TokInv K cap s I D V S E Q L done G w)
    (hG : ∀ k, G k ↔ F k ∨ k = D ∨ k = V ∨ k = S ∨ k = E ∨ k = Q ∨ k = L) (hg : Grew F w F4 w4) (hE : Env K cap s D V S E (stAfter s done).seen (stAfter s done).done F4 w4)
    (hI : I (plainTo s (stAfter s done) t.from_ ++ [tokSp s (stAfter s done) t]) F4 w4) (hq : One w4 Q (.int .i64 (partnersOf s)) 3) (hl : One w4 L (plainVal D V S E) 48) (nq : ¬ F4 Q) (nl : ¬ F4 L)
    (hn : ¬ (t.kind = 5 ∧ (stAfter s done).seen = partnersOf s)) (hk : t.kind ≠ 5) :
    ∃ G', TokInv K cap s I D V S E Q L (done ++ [t]) G' (w4.setCell ⟨D, 0, none⟩ (.int .i64 t.to_)) ∧ Grew G w G' (w4.setCell ⟨D, 0, none⟩ (.int .i64 t.to_)) := by
  obtain ⟨a1, a2, a3, a4, a5, a6, a7, a8, a9⟩ := h.apart
  have est : stAfter s (done ++ [t]) = ⟨plainTo s (stAfter s done) t.from_ ++ [tokSp s (stAfter s done) t], (stAfter s done).seen, t.to_⟩ := by rw [stAfter_snoc, stepTok_yes hn, if_neg hk]
  refine ⟨fun k => F4 k ∨ k = D ∨ k = V ∨ k = S ∨ k = E ∨ k = Q ∨ k = L, ⟨⟨F4, fun k => Iff.rfl, ?_, ?_, nq, nl⟩, hq.set_other a2.symm, hl.set_other a6.symm, h.apart⟩, ?_⟩
  · rw [est]
    exact hV.loc _ _ _ _ hI (fun k hk => Below.heap_setCell w4 ⟨D, 0, none⟩ _ k (fun (e : k = D) => hE.nd (e ▸ hk))) (by simp [World.setCell])
  · rw [est]
    exact ⟨hE.d.set_ _, hE.v.set_other a4.symm, hE.s.set_other a5.symm, hE.e.set_other a1.symm, hE.nd, hE.nv, hE.ns, hE.ne⟩
  · refine ⟨(hg.out.mono (G := G) (fun n hn => (hG n).2 (.inl hn))).trans (out_set w4 D _) (fun n _ hn => (hG n).2 (.inr (.inl hn))), fun k hk => ?_⟩
    rcases hk with hk | hk
    · rcases hg.new k hk with h1 | h1
      · exact .inl ((hG k).2 (.inl h1))
      · exact .inr h1
    · exact .inl ((hG k).2 (.inr hk))

theorem TokInv.finish5 {K : Nat} {cap : Array Value} {s : ByteArray} {I : List Sp → (Nat → Prop) → World → Prop} {D V S E Q L : Nat} {done : List Tok} {t : Tok} {G F F4 : Nat → Prop} {w w4 : World} {all : List Sp} (hV : Visits Tryd.prog K cap spArgs all I) (h : TokInv K cap s I D V S E Q L done G w)
    (hG : ∀ k, G k ↔ F k ∨ k = D ∨ k = V ∨ k = S ∨ k = E ∨ k = Q ∨ k = L) (hg : Grew F w F4 w4) (hE : Env K cap s D V S E (stAfter s done).seen (stAfter s done).done F4 w4)
    (hI : I (plainTo s (stAfter s done) t.from_ ++ [tokSp s (stAfter s done) t]) F4 w4) (hq : One w4 Q (.int .i64 (partnersOf s)) 3) (hl : One w4 L (plainVal D V S E) 48) (nq : ¬ F4 Q) (nl : ¬ F4 L)
    (hn : ¬ (t.kind = 5 ∧ (stAfter s done).seen = partnersOf s)) (hk : t.kind = 5) :
    ∃ G', TokInv K cap s I D V S E Q L (done ++ [t]) G' ((w4.setCell ⟨E, 0, none⟩ (.int .i64 ((stAfter s done).seen + 1 : Nat))).setCell ⟨D, 0, none⟩ (.int .i64 t.to_)) ∧ Grew G w G' ((w4.setCell ⟨E, 0, none⟩ (.int .i64 ((stAfter s done).seen + 1 : Nat))).setCell ⟨D, 0, none⟩ (.int .i64 t.to_)) := by
  obtain ⟨a1, a2, a3, a4, a5, a6, a7, a8, a9⟩ := h.apart
  have est : stAfter s (done ++ [t]) = ⟨plainTo s (stAfter s done) t.from_ ++ [tokSp s (stAfter s done) t], (stAfter s done).seen + 1, t.to_⟩ := by rw [stAfter_snoc, stepTok_yes hn, if_pos hk]
  refine ⟨fun k => F4 k ∨ k = D ∨ k = V ∨ k = S ∨ k = E ∨ k = Q ∨ k = L, ⟨⟨F4, fun k => Iff.rfl, ?_, ?_, nq, nl⟩, (hq.set_other a3.symm).set_other a2.symm, (hl.set_other a9.symm).set_other a6.symm, h.apart⟩, ?_⟩
  · rw [est]
    refine hV.loc _ _ _ _ hI (fun k hk => ?_) (by simp [World.setCell])
    rw [Below.heap_setCell _ ⟨D, 0, none⟩ _ k (fun (e : k = D) => hE.nd (e ▸ hk)), Below.heap_setCell w4 ⟨E, 0, none⟩ _ k (fun (e : k = E) => hE.ne (e ▸ hk))]
  · rw [est]
    exact ⟨(hE.d.set_other a1).set_ _, (hE.v.set_other a7.symm).set_other a4.symm, (hE.s.set_other a8.symm).set_other a5.symm, (hE.e.set_ _).set_other a1.symm, hE.nd, hE.nv, hE.ns, hE.ne⟩
  · refine ⟨((hg.out.mono (G := G) (fun n hn => (hG n).2 (.inl hn))).trans (out_set w4 E _) (fun n _ hn => (hG n).2 (.inr (.inr (.inr (.inr (.inl hn))))))).trans (out_set _ D _) (fun n _ hn => (hG n).2 (.inr (.inl hn))), fun k hk => ?_⟩
    rcases hk with hk | hk
    · rcases hg.new k hk with h1 | h1
      · exact .inl ((hG k).2 (.inl h1))
      · exact .inr h1
    · exact .inl ((hG k).2 (.inr hk))

theorem tail_facts {K : Nat} {cap : Array Value} {s : ByteArray} {D V S E Q L seen done p : Nat} {F1 F4 : Nat → Prop} {w3 w4 : World} (hE : Env K cap s D V S E seen done F1 w3) (hq : One w3 Q (.int .i64 p) 3) (hl : One w3 L (plainVal D V S E) 48) (n1 : ¬ F1 Q) (n2 : ¬ F1 L) (hg : Grew F1 w3 F4 w4) :
    Env K cap s D V S E seen done F4 w4 ∧ One w4 Q (.int .i64 p) 3 ∧ One w4 L (plainVal D V S E) 48 ∧ ¬ F4 Q ∧ ¬ F4 L := by
  refine ⟨hE.next hg, hq.kept (hg.out.block Q hq.lt n1), hl.kept (hg.out.block L hl.lt n2), fun hf => ?_, fun hf => ?_⟩
  · rcases hg.new Q hf with h4 | h4
    · exact n1 h4
    · have := hq.lt; omega
  · rcases hg.new L hf with h4 | h4
    · exact n2 h4
    · have := hl.lt; omega

/-- One token has been dealt with. -/
def TokGone (K : Nat) (cap : Array Value) (s : ByteArray) (I : List Sp → (Nat → Prop) → World → Prop) (D V S E Q L : Nat) (done : List Tok) (t : Tok) (G : Nat → Prop) (w : World) (e : Ending) (w' : World) : Prop :=
  e = .returned (.tuple #[]) ∧ ∃ G', TokInv K cap s I D V S E Q L (done ++ [t]) G' w' ∧ Grew G w G' w'

set_option maxRecDepth 100000 in
set_option maxHeartbeats 4000000 in
theorem tok_step {K : Nat} {cap : Array Value} {s : ByteArray} {I : List Sp → (Nat → Prop) → World → Prop} (hV : Visits Tryd.prog K cap spArgs (spans s) I) {D V S E Q L : Nat} {done post : List Tok} {t : Tok} {G : Nat → Prop} {w : World} (hs : s.size ≤ 140737488355328)
    (h : TokInv K cap s I D V S E Q L done G w) (hall : toks s = done ++ t :: post) :
    Calls Tryd.prog 20 #[.int .i64 t.kind, .int .i64 t.from_, .int .i64 t.to_, .pointer (some ⟨E, 0, none⟩), .pointer (some ⟨Q, 0, none⟩), .pointer (some ⟨L, 0, none⟩), .pointer (some ⟨S, 0, none⟩), .pointer (some ⟨V, 0, none⟩), .pointer (some ⟨D, 0, none⟩)] w
      (TokGone K cap s I D V S E Q L done t G w) := by
  obtain ⟨F, hG, hI, hE, nq, nl⟩ := h.foot
  have hok : TokOk s t := toksF_ok s s.size 0 t (by show t ∈ toks s; rw [hall]; simp)
  have hsl := seen_le hall
  have hql : partnersOf s ≤ s.size := by have := stars_le (s := s) (pre := toks s) (post := []) (by simp); unfold partnersOf; omega
  have cd := hE.d.cell
  have cv := hE.v.cell
  have cs := hE.s.cell
  have ce := hE.e.cell
  have cq := h.q.cell
  have cl := h.l.cell
  have HE := Lib.hid hE
  have HI := Lib.hid hI
  have HH := Lib.hid h
  have HV := Lib.hid hV
  have HOK := Lib.hid hok
  have HALL := Lib.hid hall
  have HG := Lib.hid hG
  have HNQ := Lib.hid nq
  have HNL := Lib.hid nl
  have hen := hV.enter
  obtain ⟨seen, hseen⟩ : ∃ n, n = (stAfter s done).seen := ⟨_, rfl⟩
  obtain ⟨dn, hdn⟩ : ∃ n, n = (stAfter s done).done := ⟨_, rfl⟩
  obtain ⟨p, hp⟩ : ∃ n, n = partnersOf s := ⟨_, rfl⟩
  rw [← hseen] at ce hsl
  rw [← hdn] at cd
  rw [← hp] at cq hql
  have HS := Lib.hid hseen
  have HDN := Lib.hid hdn
  have HP := Lib.hid hp
  unfold plainVal at cl
  by_cases hno : t.kind = 5 ∧ (stAfter s done).seen = partnersOf s
  · have d1 : ((t.kind : Int) == 5) = true := by simp; omega
    have d2 : ((seen : Int) == (p : Int)) = true := by simp; omega
    have HNO := Lib.hid (stepTok_no (s := s) hno)
    clear h hV hok hall hG hE hI nq nl hno hseen hdn hp
    go_enter Tryd.func20, Tryd.ntmps20
    go_wp2
    refine bodyPost_ret (results_none rfl _ _ _) rfl ?_
    refine ⟨rfl, G, ⟨⟨F, HG.out, ?_, ?_, HNQ.out, HNL.out⟩, HH.out.q, HH.out.l, HH.out.apart⟩, Grew.refl _ _⟩
    · rw [stAfter_snoc, HNO.out]; exact HI.out
    · rw [stAfter_snoc, HNO.out]; exact HE.out
  · obtain ⟨y, hy⟩ := spans_cut hall hno
    have HY := Lib.hid hy
    have HN := Lib.hid hno
    have HPL := Lib.hid (fun W => plainTo_any hV s D V S E (stAfter s done) t.from_ F W hs)
    have l1 : t.from_ ≤ s.size := by have := hok.lt; have := hok.le; omega
    have l2 : (stAfter s done).seen ≤ s.size := by omega
    have fin : ∀ (F1 : Nat → Prop) (w1 w2 : World) (o : Obj), I (plainTo s (stAfter s done) t.from_) F1 w1 → Grew F w F1 w1 → Below w1.heap.size w1 w2 →
        (Env K cap s D V S E (stAfter s done).seen (stAfter s done).done F1 (w2.alloc o) ∧ I (plainTo s (stAfter s done) t.from_) F1 (w2.alloc o) ∧ One (w2.alloc o) Q (.int .i64 (partnersOf s)) 3 ∧ One (w2.alloc o) L (plainVal D V S E) 48 ∧ ¬ F1 Q ∧ ¬ F1 L ∧ Grew F w F1 (w2.alloc o)) := by
      intro F1 w1 w2 o h1 h2 h3
      have hk : ∀ k, k < w1.heap.size → (w2.alloc o).heap[k]? = w1.heap[k]? := fun k hk => (Below.heap_alloc w2 o k (Nat.lt_of_lt_of_le hk h3.size)).trans (h3.block k hk)
      have hE1 := hE.next h2
      have q1 : One w1 Q (.int .i64 (partnersOf s)) 3 := h.q.kept (h2.out.block Q h.q.lt nq)
      have q2 : One w1 L (plainVal D V S E) 48 := h.l.kept (h2.out.block L h.l.lt nl)
      have n1 : ¬ F1 Q := fun hf => by
        rcases h2.new Q hf with h4 | h4
        · exact nq h4
        · have := h.q.lt; omega
      have n2 : ¬ F1 L := fun hf => by
        rcases h2.new L hf with h4 | h4
        · exact nl h4
        · have := h.l.lt; omega
      refine ⟨hE1.move (hk D hE1.d.lt) (hk V hE1.v.lt) (hk S hE1.s.lt) (hk E hE1.e.lt), hV.loc _ _ _ _ h1 (fun k hf => hk k (hV.lt _ _ _ h1 k hf)) (by have := h3.size; simp; omega), q1.kept (hk Q q1.lt), q2.kept (hk L q2.lt), n1, n2, ?_⟩
      refine h2.trans ⟨?_, fun k hf => .inl hf⟩
      exact (Out.of_below h3).trans (Out.of_below ((Below.refl _ _).alloc (Nat.le_refl _) o)) (fun _ _ h => h)
    have HF := Lib.hid fin
    clear fin
    by_cases h5 : t.kind = 5
    · by_cases hod : seen % 2 = 1
      · have d1 : ((t.kind : Int) == 5) = true := by simp; omega
        have d2 : ((seen : Int) == (p : Int)) = false := by simp; omega
        have em : ((seen : Int).tmod 2 == 1) = true := by rw [mod_odd]; exact decide_eq_true hod
        have em' : ((seen : Int) % 2 == 1) = true := by simp; omega
        have k4 : (0 : Int) ≤ (seen : Int) := by omega
        have hsb : decide ((stAfter s done).seen % 2 = 1 ∨ t.kind = 5) = true := by rw [← hseen]; exact decide_eq_true (.inr h5)
        have HSB := Lib.hid hsb
        clear hsb
        have H5 := Lib.hid h5
        have wr : IntKind.i64.wrap ((seen : Int) + 1) = (seen : Int) + 1 := IntWalk.i64_in _ (by omega)
        clear h hV hok hall hG hE hI nq nl hno hseen hdn hp hy h5
        go_enter Tryd.func20, Tryd.ntmps20
        go_wp2_with fail
        refine (HPL.out w HE.out HI.out l1 l2 ⟨_, HY.out⟩).mono ?_
        rintro e1 w1 ⟨rfl, F1, hI1, hg1⟩
        have HI1 := Lib.hid hI1
        have HG1 := Lib.hid hg1
        have cs1 := (HE.out.next hg1).s.cell
        clear hI1 hg1
        go_wp2_with fail
        refine (spanOf_any s t _ hs HOK.out).mono ?_
        rintro e2 w2 ⟨rfl, hb2⟩
        obtain ⟨kk, ff, ee, tt, ww, ii, bb, hsp⟩ : ∃ (kk ff ee : Nat) (tt ww : ByteArray) (ii : Nat) (bb : Bool), spOf s t = ⟨kk, ff, ee, tt, ww, ii, bb⟩ := ⟨_, _, _, _, _, _, _, rfl⟩
        have HSP := Lib.hid hsp
        rw [hsp]
        clear hsp
        unfold Sp.val
        simp only
        have HF1 := Lib.hid (HF.out F1 w1 w2 (.cells #[.int .i64 kk, .int .i64 ff, .int .i64 ee, .string tt, .string ww, .int .i64 ii, .bool true] 29) HI1.out HG1.out hb2)
        have ce2 : w2.cell? ⟨E, 0, none⟩ = some (.int .i64 seen) := by
          have hEE := HE.out.next HG1.out
          rw [hb2.cell (p := ⟨E, 0, none⟩) hEE.e.lt, HS.out]
          exact hEE.e.cell
        have cv2 : w2.cell? ⟨V, 0, none⟩ = some (.func (Fn.func K) #[] cap) := by
          have hEE := HE.out.next HG1.out
          rw [hb2.cell (p := ⟨V, 0, none⟩) hEE.v.lt]
          exact hEE.v.cell
        have le2 : E < w2.heap.size := World.block_lt_of_cell? w2 _ ce2
        have lv2 : V < w2.heap.size := World.block_lt_of_cell? w2 _ cv2
        clear hb2
        go_wp2_with fail
        have hst := (HV.out.step _ (tokSp s (stAfter s done) t) _ F1 _ HY.out HF1.out.2.1)
        unfold spArgs at hst
        have hts : (tokSp s (stAfter s done) t).val = .agg #[.int .i64 kk, .int .i64 ff, .int .i64 ee, .string tt, .string ww, .int .i64 ii, .bool true] := by unfold tokSp; rw [HSB.out, HSP.out]; rfl
        rw [hts] at hst
        refine hst.mono ?_
        rintro e4 w4 ⟨rfl, F4, hI4, hg4⟩
        obtain ⟨tE, tQ, tL, t1, t2⟩ := tail_facts HF1.out.1 HF1.out.2.2.1 HF1.out.2.2.2.1 HF1.out.2.2.2.2.1 HF1.out.2.2.2.2.2.1 hg4
        have HX := Lib.hid (TokInv.finish5 HV.out HH.out HG.out (HF1.out.2.2.2.2.2.2.trans hg4) tE hI4 tQ tL t1 t2 HN.out H5.out)
        have ce4 : w4.cell? ⟨E, 0, none⟩ = some (.int .i64 seen) := by rw [HS.out]; exact tE.e.cell
        have fe4 := tE.e.frozen
        have cd4 : w4.cell? ⟨D, 0, none⟩ = some (.int .i64 dn) := by rw [HDN.out]; exact tE.d.cell
        have fd4 := tE.d.frozen
        have nDE : D ≠ E := HH.out.apart.1
        have cd5 : (w4.setCell ⟨E, 0, none⟩ (.int .i64 ((seen : Int) + 1))).cell? ⟨D, 0, none⟩ = some (.int .i64 dn) := ((tE.d.set_other nDE).cell).trans (by rw [HDN.out])
        have fd5 : (w4.setCell ⟨E, 0, none⟩ (.int .i64 ((seen : Int) + 1))).frozen? ⟨D, 0, none⟩ = false := (tE.d.set_other nDE).frozen
        clear hI4 hg4 tE tQ tL t1 t2 hst hts
        go_wp2
        go_end0
        refine ⟨rfl, ?_⟩
        have hx := HX.out
        rw [← HS.out] at hx
        exact_mod_cast hx
      · have d1 : ((t.kind : Int) == 5) = true := by simp; omega
        have d2 : ((seen : Int) == (p : Int)) = false := by simp; omega
        have em : ((seen : Int).tmod 2 == 1) = false := by rw [mod_odd]; exact decide_eq_false hod
        have em' : ((seen : Int) % 2 == 1) = false := by simp only [beq_eq_false_iff_ne, ne_eq]; omega
        have k4 : (0 : Int) ≤ (seen : Int) := by omega
        have hsb : decide ((stAfter s done).seen % 2 = 1 ∨ t.kind = 5) = true := by rw [← hseen]; exact decide_eq_true (.inr h5)
        have HSB := Lib.hid hsb
        clear hsb
        have H5 := Lib.hid h5
        have wr : IntKind.i64.wrap ((seen : Int) + 1) = (seen : Int) + 1 := IntWalk.i64_in _ (by omega)
        clear h hV hok hall hG hE hI nq nl hno hseen hdn hp hy h5
        go_enter Tryd.func20, Tryd.ntmps20
        go_wp2_with fail
        refine (HPL.out w HE.out HI.out l1 l2 ⟨_, HY.out⟩).mono ?_
        rintro e1 w1 ⟨rfl, F1, hI1, hg1⟩
        have HI1 := Lib.hid hI1
        have HG1 := Lib.hid hg1
        have cs1 := (HE.out.next hg1).s.cell
        clear hI1 hg1
        go_wp2_with fail
        refine (spanOf_any s t _ hs HOK.out).mono ?_
        rintro e2 w2 ⟨rfl, hb2⟩
        obtain ⟨kk, ff, ee, tt, ww, ii, bb, hsp⟩ : ∃ (kk ff ee : Nat) (tt ww : ByteArray) (ii : Nat) (bb : Bool), spOf s t = ⟨kk, ff, ee, tt, ww, ii, bb⟩ := ⟨_, _, _, _, _, _, _, rfl⟩
        have HSP := Lib.hid hsp
        rw [hsp]
        clear hsp
        unfold Sp.val
        simp only
        have HF1 := Lib.hid (HF.out F1 w1 w2 (.cells #[.int .i64 kk, .int .i64 ff, .int .i64 ee, .string tt, .string ww, .int .i64 ii, .bool true] 29) HI1.out HG1.out hb2)
        have ce2 : w2.cell? ⟨E, 0, none⟩ = some (.int .i64 seen) := by
          have hEE := HE.out.next HG1.out
          rw [hb2.cell (p := ⟨E, 0, none⟩) hEE.e.lt, HS.out]
          exact hEE.e.cell
        have cv2 : w2.cell? ⟨V, 0, none⟩ = some (.func (Fn.func K) #[] cap) := by
          have hEE := HE.out.next HG1.out
          rw [hb2.cell (p := ⟨V, 0, none⟩) hEE.v.lt]
          exact hEE.v.cell
        have le2 : E < w2.heap.size := World.block_lt_of_cell? w2 _ ce2
        have lv2 : V < w2.heap.size := World.block_lt_of_cell? w2 _ cv2
        clear hb2
        go_wp2_with fail
        have hst := (HV.out.step _ (tokSp s (stAfter s done) t) _ F1 _ HY.out HF1.out.2.1)
        unfold spArgs at hst
        have hts : (tokSp s (stAfter s done) t).val = .agg #[.int .i64 kk, .int .i64 ff, .int .i64 ee, .string tt, .string ww, .int .i64 ii, .bool true] := by unfold tokSp; rw [HSB.out, HSP.out]; rfl
        rw [hts] at hst
        refine hst.mono ?_
        rintro e4 w4 ⟨rfl, F4, hI4, hg4⟩
        obtain ⟨tE, tQ, tL, t1, t2⟩ := tail_facts HF1.out.1 HF1.out.2.2.1 HF1.out.2.2.2.1 HF1.out.2.2.2.2.1 HF1.out.2.2.2.2.2.1 hg4
        have HX := Lib.hid (TokInv.finish5 HV.out HH.out HG.out (HF1.out.2.2.2.2.2.2.trans hg4) tE hI4 tQ tL t1 t2 HN.out H5.out)
        have ce4 : w4.cell? ⟨E, 0, none⟩ = some (.int .i64 seen) := by rw [HS.out]; exact tE.e.cell
        have fe4 := tE.e.frozen
        have cd4 : w4.cell? ⟨D, 0, none⟩ = some (.int .i64 dn) := by rw [HDN.out]; exact tE.d.cell
        have fd4 := tE.d.frozen
        have nDE : D ≠ E := HH.out.apart.1
        have cd5 : (w4.setCell ⟨E, 0, none⟩ (.int .i64 ((seen : Int) + 1))).cell? ⟨D, 0, none⟩ = some (.int .i64 dn) := ((tE.d.set_other nDE).cell).trans (by rw [HDN.out])
        have fd5 : (w4.setCell ⟨E, 0, none⟩ (.int .i64 ((seen : Int) + 1))).frozen? ⟨D, 0, none⟩ = false := (tE.d.set_other nDE).frozen
        clear hI4 hg4 tE tQ tL t1 t2 hst hts
        go_wp2
        go_end0
        refine ⟨rfl, ?_⟩
        have hx := HX.out
        rw [← HS.out] at hx
        exact_mod_cast hx
    · by_cases hod : seen % 2 = 1
      · have d1 : ((t.kind : Int) == 5) = false := by simp; omega
        have em : ((seen : Int).tmod 2 == 1) = true := by rw [mod_odd]; exact decide_eq_true hod
        have em' : ((seen : Int) % 2 == 1) = true := by simp; omega
        have k4 : (0 : Int) ≤ (seen : Int) := by omega
        have hsb : decide ((stAfter s done).seen % 2 = 1 ∨ t.kind = 5) = true := by rw [← hseen]; exact decide_eq_true (.inl hod)
        have HSB := Lib.hid hsb
        clear hsb
        have H5 := Lib.hid h5
        clear h hV hok hall hG hE hI nq nl hno hseen hdn hp hy h5
        go_enter Tryd.func20, Tryd.ntmps20
        go_wp2_with fail
        refine (HPL.out w HE.out HI.out l1 l2 ⟨_, HY.out⟩).mono ?_
        rintro e1 w1 ⟨rfl, F1, hI1, hg1⟩
        have HI1 := Lib.hid hI1
        have HG1 := Lib.hid hg1
        have cs1 := (HE.out.next hg1).s.cell
        clear hI1 hg1
        go_wp2_with fail
        refine (spanOf_any s t _ hs HOK.out).mono ?_
        rintro e2 w2 ⟨rfl, hb2⟩
        obtain ⟨kk, ff, ee, tt, ww, ii, bb, hsp⟩ : ∃ (kk ff ee : Nat) (tt ww : ByteArray) (ii : Nat) (bb : Bool), spOf s t = ⟨kk, ff, ee, tt, ww, ii, bb⟩ := ⟨_, _, _, _, _, _, _, rfl⟩
        have HSP := Lib.hid hsp
        rw [hsp]
        clear hsp
        unfold Sp.val
        simp only
        have HF1 := Lib.hid (HF.out F1 w1 w2 (.cells #[.int .i64 kk, .int .i64 ff, .int .i64 ee, .string tt, .string ww, .int .i64 ii, .bool true] 29) HI1.out HG1.out hb2)
        have ce2 : w2.cell? ⟨E, 0, none⟩ = some (.int .i64 seen) := by
          have hEE := HE.out.next HG1.out
          rw [hb2.cell (p := ⟨E, 0, none⟩) hEE.e.lt, HS.out]
          exact hEE.e.cell
        have cv2 : w2.cell? ⟨V, 0, none⟩ = some (.func (Fn.func K) #[] cap) := by
          have hEE := HE.out.next HG1.out
          rw [hb2.cell (p := ⟨V, 0, none⟩) hEE.v.lt]
          exact hEE.v.cell
        have le2 : E < w2.heap.size := World.block_lt_of_cell? w2 _ ce2
        have lv2 : V < w2.heap.size := World.block_lt_of_cell? w2 _ cv2
        clear hb2
        go_wp2_with fail
        have hst := (HV.out.step _ (tokSp s (stAfter s done) t) _ F1 _ HY.out HF1.out.2.1)
        unfold spArgs at hst
        have hts : (tokSp s (stAfter s done) t).val = .agg #[.int .i64 kk, .int .i64 ff, .int .i64 ee, .string tt, .string ww, .int .i64 ii, .bool true] := by unfold tokSp; rw [HSB.out, HSP.out]; rfl
        rw [hts] at hst
        refine hst.mono ?_
        rintro e4 w4 ⟨rfl, F4, hI4, hg4⟩
        obtain ⟨tE, tQ, tL, t1, t2⟩ := tail_facts HF1.out.1 HF1.out.2.2.1 HF1.out.2.2.2.1 HF1.out.2.2.2.2.1 HF1.out.2.2.2.2.2.1 hg4
        have HX := Lib.hid (TokInv.finish HV.out HH.out HG.out (HF1.out.2.2.2.2.2.2.trans hg4) tE hI4 tQ tL t1 t2 HN.out H5.out)
        have ce4 : w4.cell? ⟨E, 0, none⟩ = some (.int .i64 seen) := by rw [HS.out]; exact tE.e.cell
        have fe4 := tE.e.frozen
        have cd4 : w4.cell? ⟨D, 0, none⟩ = some (.int .i64 dn) := by rw [HDN.out]; exact tE.d.cell
        have fd4 := tE.d.frozen
        clear hI4 hg4 tE tQ tL t1 t2 hst hts
        go_wp2
        go_end0
        exact ⟨rfl, HX.out⟩
      · have d1 : ((t.kind : Int) == 5) = false := by simp; omega
        have em : ((seen : Int).tmod 2 == 1) = false := by rw [mod_odd]; exact decide_eq_false hod
        have em' : ((seen : Int) % 2 == 1) = false := by simp only [beq_eq_false_iff_ne, ne_eq]; omega
        have k4 : (0 : Int) ≤ (seen : Int) := by omega
        have hsb : decide ((stAfter s done).seen % 2 = 1 ∨ t.kind = 5) = false := by rw [← hseen]; exact decide_eq_false (by omega)
        have HSB := Lib.hid hsb
        clear hsb
        have H5 := Lib.hid h5
        clear h hV hok hall hG hE hI nq nl hno hseen hdn hp hy h5
        go_enter Tryd.func20, Tryd.ntmps20
        go_wp2_with fail
        refine (HPL.out w HE.out HI.out l1 l2 ⟨_, HY.out⟩).mono ?_
        rintro e1 w1 ⟨rfl, F1, hI1, hg1⟩
        have HI1 := Lib.hid hI1
        have HG1 := Lib.hid hg1
        have cs1 := (HE.out.next hg1).s.cell
        clear hI1 hg1
        go_wp2_with fail
        refine (spanOf_any s t _ hs HOK.out).mono ?_
        rintro e2 w2 ⟨rfl, hb2⟩
        obtain ⟨kk, ff, ee, tt, ww, ii, bb, hsp⟩ : ∃ (kk ff ee : Nat) (tt ww : ByteArray) (ii : Nat) (bb : Bool), spOf s t = ⟨kk, ff, ee, tt, ww, ii, bb⟩ := ⟨_, _, _, _, _, _, _, rfl⟩
        have HSP := Lib.hid hsp
        rw [hsp]
        clear hsp
        unfold Sp.val
        simp only
        have HF1 := Lib.hid (HF.out F1 w1 w2 (.cells #[.int .i64 kk, .int .i64 ff, .int .i64 ee, .string tt, .string ww, .int .i64 ii, .bool false] 29) HI1.out HG1.out hb2)
        have ce2 : w2.cell? ⟨E, 0, none⟩ = some (.int .i64 seen) := by
          have hEE := HE.out.next HG1.out
          rw [hb2.cell (p := ⟨E, 0, none⟩) hEE.e.lt, HS.out]
          exact hEE.e.cell
        have cv2 : w2.cell? ⟨V, 0, none⟩ = some (.func (Fn.func K) #[] cap) := by
          have hEE := HE.out.next HG1.out
          rw [hb2.cell (p := ⟨V, 0, none⟩) hEE.v.lt]
          exact hEE.v.cell
        have le2 : E < w2.heap.size := World.block_lt_of_cell? w2 _ ce2
        have lv2 : V < w2.heap.size := World.block_lt_of_cell? w2 _ cv2
        clear hb2
        go_wp2_with fail
        have hst := (HV.out.step _ (tokSp s (stAfter s done) t) _ F1 _ HY.out HF1.out.2.1)
        unfold spArgs at hst
        have hts : (tokSp s (stAfter s done) t).val = .agg #[.int .i64 kk, .int .i64 ff, .int .i64 ee, .string tt, .string ww, .int .i64 ii, .bool false] := by unfold tokSp; rw [HSB.out, HSP.out]; rfl
        rw [hts] at hst
        refine hst.mono ?_
        rintro e4 w4 ⟨rfl, F4, hI4, hg4⟩
        obtain ⟨tE, tQ, tL, t1, t2⟩ := tail_facts HF1.out.1 HF1.out.2.2.1 HF1.out.2.2.2.1 HF1.out.2.2.2.2.1 HF1.out.2.2.2.2.2.1 hg4
        have HX := Lib.hid (TokInv.finish HV.out HH.out HG.out (HF1.out.2.2.2.2.2.2.trans hg4) tE hI4 tQ tL t1 t2 HN.out H5.out)
        have ce4 : w4.cell? ⟨E, 0, none⟩ = some (.int .i64 seen) := by rw [HS.out]; exact tE.e.cell
        have fe4 := tE.e.frozen
        have cd4 : w4.cell? ⟨D, 0, none⟩ = some (.int .i64 dn) := by rw [HDN.out]; exact tE.d.cell
        have fd4 := tE.d.frozen
        clear hI4 hg4 tE tQ tL t1 t2 hst hts
        go_wp2
        go_end0
        exact ⟨rfl, HX.out⟩
end Go.Proofs.YtdhaanlgijikeaaDoor
