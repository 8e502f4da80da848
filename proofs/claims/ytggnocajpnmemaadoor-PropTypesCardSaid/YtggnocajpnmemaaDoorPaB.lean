/- Properties: position. -/
import Derived.Test.YtggnocajpnmemaaDoorPaA
namespace Go.Proofs.YtggnocajpnmemaaDoor
open Go.RowKit Go.Shelf

/-- What position finds. -/
def Found (l : List PV) (q : ByteArray) (w : World) (e : Ending) (w' : World) : Prop :=
  (∃ (r : Nat) (b : Bool), r ≤ l.length ∧ (∀ t (ht : t < l.length), t < r → cmpS l[t].nm q < 0) ∧ (∀ t (ht : t < l.length), r ≤ t → 0 ≤ cmpS l[t].nm q) ∧ (b = true ↔ ∃ hr : r < l.length, cmpS l[r].nm q = 0) ∧ e = .returned (.tuple #[.int .i64 r, .bool b])) ∧ Below w.heap.size w w'

set_option maxRecDepth 100000 in
set_option maxHeartbeats 8000000 in
theorem position_any (l : List PV) (q : ByteArray) (A : Option Addr) (c : Nat) (w : World) (hl : PSl w w.heap.size l (.slice A l.length c)) (hm : Mono l q) :
    Calls Tryd.prog 21 #[.slice A l.length c, .string q] w (Found l q w) := by
  have HC : Hid (Calls Tryd.prog 32 #[.slice A l.length c, .string q, .func (Fn.func 33) #[] #[]] w (Found l q w)) := Lib.hid (search_any l q A c w hl hm)
  have HF : Hid (∀ (r : Nat) (b : Bool) (W : World), Found l q w (.returned (.tuple #[.int .i64 r, .bool b])) W → Found l q w (.returned (.tuple #[.int .i64 r, .bool b])) W) := Lib.hid (fun _ _ _ h => h)
  generalize hn : l.length = n at HC ⊢
  clear hl hm hn
  go_enter Tryd.func21, Tryd.ntmps21
  go_wp2_with fail
  refine HC.out.mono ?_
  intro e w' h
  have HH := Lib.hid h
  obtain ⟨⟨r, b, -, -, -, -, rfl⟩, -⟩ := h
  go_wp2_with fail
  go_ret2
  exact HH.out
end Go.Proofs.YtggnocajpnmemaaDoor
