/- Package text: Unmarked: what the program gives. -/
import Derived.Test.YtjfpaahidfhkoaaGreatDoorTyA
import Derived.Test.YtjfpaahidfhkoaaGreatDoorShelf
import Derived.WalkKit
import Derived.Lib.Hide
import Derived.Outline
import Derived.Deep.QuietTactic
import Derived.BigQuiet
import Derived.Deep.RegionHeld3
import Derived.Laws.EntriesVeiled
namespace Go.Proofs.YtjfpaahidfhkoaaGreatDoor
open Go.RowKit

def unmB (s : ByteArray) (x : Sp) : List UInt8 := if x.kind = 7 then [] else (s.extract x.from_ x.to_).data.toList
def unmL (s : ByteArray) (l : List Sp) : List UInt8 := l.flatMap (unmB s)
theorem unmL_snoc (s : ByteArray) (l : List Sp) (x : Sp) : unmL s (l ++ [x]) = unmL s l ++ unmB s x := by
  unfold unmL; rw [List.flatMap_append, List.flatMap_singleton]
theorem unmB_len {s : ByteArray} {x : Sp} (h : x.to_ ≤ s.size) : (unmB s x).length ≤ x.to_ - x.from_ := by
  unfold unmB
  split
  · simp
  · rw [Array.length_toList]
    show (s.extract x.from_ x.to_).size ≤ _
    rw [ByteArray.size_extract]; omega
theorem SpRow.unm {s : ByteArray} : ∀ {a b : Nat} {l : List Sp}, SpRow s a l b → a + (unmL s l).length ≤ b
  | a, b, [], h => by have : a = b := h; simp [unmL, this]
  | a, b, x :: r, h => by
    have h1 := SpRow.unm h.2.2
    have h2 := h.2.1.lt
    have h3 := h.1
    have h4 := unmB_len (x := x) h.2.1.hi
    unfold unmL at h1 ⊢
    rw [List.flatMap_cons, List.length_append]
    omega
theorem unm_le (s : ByteArray) : ∀ pre post, spans s = pre ++ post → (unmL s pre).length ≤ s.size := by
  intro pre post h
  have hr := spans_row s
  rw [h] at hr
  obtain ⟨c, h1, h2⟩ := hr.cut
  have := h1.unm
  have := h2.le
  omega

def UnmI (b S : Nat) (s : ByteArray) (done : List Sp) (F : Nat → Prop) (w : World) : Prop :=
  ∃ Fb, Bld b (Lib.byteCells (unmL s done)) Fb w ∧ One w S (.string s) 9 ∧ ¬ Fb S ∧ F = fun k => Fb k ∨ k = S
/-- One span is written, or left out. -/
def UnmStep (b S : Nat) (s : ByteArray) (done : List Sp) (x : Sp) (F : Nat → Prop) (w : World) (e : Ending) (w' : World) : Prop :=
  e = .returned (.tuple #[]) ∧ ∃ F', UnmI b S s (done ++ [x]) F' w' ∧ Grew F w F' w'

set_option maxRecDepth 100000 in
set_option maxHeartbeats 4000000 in
theorem unm_step (b S : Nat) (s : ByteArray) (done : List Sp) (x : Sp) (F : Nat → Prop) (w : World) (h : UnmI b S s done F w) (hx : SpIn s x) (hl : (unmL s done).length ≤ 4000000000) (hs : s.size ≤ 4000000000) :
    Calls Tryz.prog 49 #[x.val, .pointer (some ⟨b, 0, none⟩), .pointer (some ⟨S, 0, none⟩)] w (UnmStep b S s done x F w) := by
  obtain ⟨Fb, hB, hS, hn, hF⟩ := h
  have l1 := hx.lt
  have l3 := hx.hi
  have HF := Lib.hid hF
  clear hF
  have HS := Lib.hid hS
  have HB := Lib.hid hB
  have HN := Lib.hid hn
  have hlt := HS.out.lt
  obtain ⟨o, ho⟩ : ∃ o, o = (Obj.cells #[.int .i64 x.kind, .int .i64 x.from_, .int .i64 x.to_, .string x.text, .string x.shw, .int .i64 x.id, .bool x.strong] 27) := ⟨_, rfl⟩
  have hk1 : ∀ k, k < w.heap.size → (w.alloc o).heap[k]? = w.heap[k]? := fun k hk => Below.heap_alloc w o k hk
  have hS1 : One (w.alloc o) S (.string s) 9 := hS.kept (hk1 S hlt)
  have cS := hS1.cell
  have ho1 : Out (fun _ => False) w (w.alloc o) := Out.of_below ((Below.refl _ _).alloc (Nat.le_refl _) _)
  have hB1 : Bld b (Lib.byteCells (unmL s done)) Fb (w.alloc o) := hB.loc (fun k hk => hk1 k (hB.lt k hk))
  have HB1 := Lib.hid hB1
  have HO1 := Lib.hid ho1
  have HS1 := Lib.hid hS1
  by_cases h7 : x.kind = 7
  · have q7 : ((x.kind : Int) != 7) = false := by simp; omega
    have HX : Hid (UnmI b S s (done ++ [x]) F (w.alloc o)) := Lib.hid (by
      refine ⟨Fb, ?_, hS1, hn, HF.out⟩
      rw [unmL_snoc, show unmB s x = [] by unfold unmB; rw [if_pos h7], List.append_nil]
      exact hB1)
    obtain ⟨y, hy⟩ : ∃ y, y = x := ⟨_, rfl⟩
    rw [← hy] at HX
    have HY := Lib.hid hy
    clear hy hB hS hn hk1 hS1 ho1 hB1 h7 cS
    obtain ⟨xk, xf, xe, xt, xs, xi, xb⟩ := x
    subst ho
    unfold Sp.val
    simp only at HX HO1 q7 ⊢
    rw [← HY.out]
    go_enter Tryz.func49, Tryz.ntmps49
    go_wp2_with fail
    go_end0
    exact ⟨rfl, F, HX.out, (HO1.out.mono (fun _ h => h.elim)), fun k hk => .inl hk⟩
  · have q7 : ((x.kind : Int) != 7) = true := by simp; omega
    have HBY : Hid (unmB s x = (s.extract x.from_ x.to_).data.toList) := Lib.hid (by unfold unmB; rw [if_neg h7])
    have hcat : Lib.byteCells (unmL s done) ++ Lib.strCells (s.extract x.from_ x.to_) = Lib.byteCells (unmL s (done ++ [x])) := by
      rw [unmL_snoc, HBY.out]
      simp [Lib.byteCells, Lib.strCells]
    have HCAT := Lib.hid hcat
    obtain ⟨y, hy⟩ : ∃ y, y = x := ⟨_, rfl⟩
    rw [← hy] at HCAT
    have HY := Lib.hid hy
    clear hy hB hS hn hk1 hS1 ho1 hB1 h7 hcat HBY
    obtain ⟨xk, xf, xe, xt, xs, xi, xb⟩ := x
    subst ho
    unfold Sp.val
    simp only at HO1 q7 l1 l3 cS HB1 HS1 ⊢
    rw [← HY.out]
    have HCAT2 : Hid (Lib.byteCells (unmL s done) ++ Lib.strCells (s.extract xf xe) = Lib.byteCells (unmL s (done ++ [y]))) := Lib.hid (by have := HCAT.out; rw [HY.out] at this ⊢; exact this)
    clear HCAT
    have i1 : (xf : Int) ≤ xe := by omega
    have i2 : (xe : Int) ≤ s.size := by omega
    have i3 : (0 : Int) ≤ xf := by omega
    go_enter Tryz.func49, Tryz.ntmps49
    go_wp2_with fail
    refine (writeString_any b _ (s.extract xf xe) Fb _ HB1.out ?_).mono ?_
    · have hl1 : (Lib.byteCells (unmL s done)).length = (unmL s done).length := by simp [Lib.byteCells]
      have hl2 : (s.extract xf xe).size ≤ s.size := by rw [ByteArray.size_extract]; omega
      omega
    rintro e2 w2 ⟨rfl, F2, hB2, hg2⟩
    have HB2 := Lib.hid hB2
    have HG2 := Lib.hid hg2
    clear hB2 hg2
    go_wp2
    go_end0
    have hnF2 : ¬ F2 S := fun hf => by
      rcases HG2.out.new S hf with h | h
      · exact HN.out h
      · simp at h; omega
    have hw2 : w2.heap[S]? = w.heap[S]? := by
      rw [HG2.out.out.block S (by simp; omega) HN.out, HO1.out.block S hlt (fun h => h)]
    refine ⟨rfl, fun k => F2 k ∨ k = S, ⟨F2, ?_, HS.out.kept hw2, hnF2, rfl⟩, ⟨?_, ?_⟩⟩
    · rw [← HCAT2.out]; exact HB2.out
    · rw [HF.out]
      exact (HO1.out.mono (fun _ h => h.elim)).trans HG2.out.out (fun _ _ h => .inl h)
    · rw [HF.out]
      rintro k (hk | hk)
      · rcases HG2.out.new k hk with h | h
        · exact .inl (.inl h)
        · exact .inr (by simp at h; omega)
      · exact .inl (.inr hk)

theorem unm_visits (b S : Nat) (s : ByteArray) (hs : s.size ≤ 4000000000) :
    Visits Tryz.prog 49 #[.pointer (some ⟨b, 0, none⟩), .pointer (some ⟨S, 0, none⟩)] spArgs (spans s) (UnmI b S s) where
  enter := enters_of Tryz.func49 (by kernel_rfl) rfl
  lt := by
    rintro done F w ⟨Fb, hB, hS, hn, rfl⟩ k (hk | rfl)
    · exact hB.lt k hk
    · exact hS.lt
  loc := by
    rintro done F w w' ⟨Fb, hB, hS, hn, rfl⟩ hk _
    exact ⟨Fb, hB.loc (fun k h => hk k (.inl h)), hS.kept (hk S (.inr rfl)), hn, rfl⟩
  step := by
    intro done x post F w ha h
    refine (unm_step b S s done x F w h ((spans_row s).mem x (by rw [ha]; simp)) (by have := unm_le s done _ ha; omega) hs).mono ?_
    rintro e w' ⟨rfl, F', h1, h2⟩
    exact ⟨rfl, F', h1, h2⟩

theorem unm_start (s : ByteArray) (w : World) : UnmI (w.heap.size + 1) w.heap.size s [] (fun k => k = w.heap.size + 1 ∨ k = w.heap.size) ((w.alloc (.cells #[.string s] 9)).alloc (.cells #[.pointer none, .slice none 0 0] 50)) := by
  refine ⟨fun k => k = w.heap.size + 1, ⟨.pointer none, .slice none 0 0, .inl rfl, ?_, World.ownsRow_nil _ _ _ _, by simp [Value.ownBlock], ?_⟩, ?_, by omega, rfl⟩
  · have := heap_alloc_new (w.alloc (.cells #[.string s] 9)) (.cells #[.pointer none, .slice none 0 0] 50)
    simpa using this
  · funext k; simp [Value.ownBlock]
  · unfold One
    rw [Below.heap_alloc _ _ _ (by simp)]
    exact heap_alloc_new w _

set_option maxRecDepth 100000 in
set_option maxHeartbeats 4000000 in
theorem unmarked_any (s : ByteArray) (w : World) (hs : s.size ≤ 4000000000) :
    Calls Tryz.prog 21 #[.string s] w (Quiet w (.string ⟨(unmL s (spans s)).toArray⟩)) := by
  have hmf : ∀ (fn : Fn) (first cap : Array Value) (w : World), (Instr.makeFunc fn first cap).run Tryz.prog w = .ok (.func fn first cap) w := fun _ _ _ _ => rfl
  have HE := Lib.hid (eachSpan_any s _ _ _ _ _ hs (unm_visits (w.heap.size + 1) w.heap.size s hs) (unm_start s w))
  go_enter Tryz.func21, Tryz.ntmps21
  go_wp2_with fail
  refine HE.out.mono ?_
  rintro e1 w1 ⟨rfl, F1, ⟨Fb, hB, hS, hn, hF⟩, hg⟩
  have hlo : ∀ k, Fb k → w.heap.size ≤ k := fun k hk => by
    rcases hg.new k (by rw [hF]; exact .inl hk) with (h | h) | h
    · omega
    · omega
    · simp at h; omega
  have hbl : Below w.heap.size w w1 := (((Below.refl _ _).alloc (Nat.le_refl _) (.cells #[.string s] 9)).alloc (by simp) (.cells #[.pointer none, .slice none 0 0] 50)).trans (hg.out.below (by simp; omega) (fun k hk => by omega))
  have HIB := Lib.hid (hB.isBuilder hlo)
  have HBL := Lib.hid hbl
  clear hB hS hn hF hg hlo hbl
  go_wp2_with fail
  refine (Tryz.Builder_String_any w.heap.size (w.heap.size + 1) (unmL s (spans s)) _ HIB.out (HBL.out.size)).mono ?_
  rintro e2 w2 ⟨rfl, hb2⟩
  have HB2 := Lib.hid (HBL.out.trans hb2)
  clear hb2
  go_wp2
  go_ret
  exact ⟨rfl, HB2.out⟩
end Go.Proofs.YtjfpaahidfhkoaaGreatDoor
