/- Contracts and plain mathematics, together: ColParts, ColCut, ColCut2, ColRead, ColRead2. -/
import Derived.Test.YtnjpblmplneojaaGreatDoorMaF
import Derived.Lib.OthersKept
import Derived.Deep.LoopGhost
import Derived.Lib.AtoiErrMem
/- pairSizes, Parts, base and Number of package colour: contracts of the calls, over the turned program. -/
namespace Go.Proofs.YtnjpblmplneojaaGreatDoor.Colour
open Go.RowKit Go.Proofs.YtnjpblmplneojaaGreatDoor.Frame Go.Deep
set_option linter.unusedVariables false

/-- where the colour k lies -/
theorem Cols.at {w : World} {a : Option Addr} {len : Nat} {cs : List Col} (h : Cols w a len cs) {k : Nat} (hk : k < len) : ∃ b off, a = some ⟨b, off, none⟩ ∧ b < w.heap.size ∧ ColAt w b (off + k * 7) (cs.getD k nilCol) := by
  rcases h.2 with h0 | ⟨b, off, ha, hc⟩
  · omega
  · exact ⟨b, off, ha, World.block_lt_of_cell? w _ (hc k hk).1.1, hc k hk⟩

theorem ret3 {a a' b b' : Int} {p : Bool} (h : a = a') (h' : b = b') : Ending.returned (.tuple #[.int .i64 a, .int .i64 b, .bool p]) = .returned (.tuple #[.int .i64 a', .int .i64 b', .bool p]) := by rw [h, h']
end Go.Proofs.YtnjpblmplneojaaGreatDoor.Colour
/- cut of package colour, of texts of ASCII: contracts of the calls, over the turned program: the closure, the library's loop that calls it, cut itself. -/
namespace Go.Proofs.YtnjpblmplneojaaGreatDoor.Colour
open Go.RowKit Go.Proofs.YtnjpblmplneojaaGreatDoor.Frame Go.Deep
set_option linter.unusedVariables false

def dstep (d : Int) (r : Nat) : Int := if r = 40 then d + 1 else if r = 41 then d - 1 else d
/-- where the first comma within one bracket stands; -1, if there is none -/
def cutL : List UInt8 → Nat → Int → Int
  | [], _, _ => -1
  | c :: r, pos, d => if c.toNat = 44 ∧ dstep d c.toNat = 1 then pos else cutL r (pos + 1) (dstep d c.toNat)

/-- what the closure leaves -/
def DeepPost (D : Nat) (d' : Int) (W w' : World) : Prop := w' = W ∧ W.cell? ⟨D, 0, none⟩ = some (.int .i64 d') ∨ w' = W.setCell ⟨D, 0, none⟩ (.int .i64 d')

theorem deep_heap {D : Nat} {d' : Int} {W w' : World} (h : DeepPost D d' W w') {j : Nat} (hj : j ≠ D) : w'.heap[j]? = W.heap[j]? := by
  rcases h with ⟨rfl, _⟩ | rfl
  · rfl
  · exact Below.heap_setCell _ _ _ _ hj
theorem deep_cell {D : Nat} {d d' : Int} {W w' : World} (h : DeepPost D d' W w') (hc : W.cell? ⟨D, 0, none⟩ = some (.int .i64 d)) (hf : W.frozen? ⟨D, 0, none⟩ = false) : w'.cell? ⟨D, 0, none⟩ = some (.int .i64 d') ∧ w'.frozen? ⟨D, 0, none⟩ = false := by
  rcases h with ⟨rfl, hc'⟩ | rfl
  · exact ⟨hc', hf⟩
  · refine ⟨set_cell hc, ?_⟩
    rw [World.frozen?_setCell]; exact hf
theorem deep_below {B D : Nat} {d' : Int} {w0 W w' : World} (h : DeepPost D d' W w') (hb : Below B w0 W) (hD : B ≤ D) : Below B w0 w' := by
  rcases h with ⟨rfl, _⟩ | rfl
  · exact hb
  · exact hb.setCell hD _
theorem dstep_bd (d : Int) (r : Nat) : d - 1 ≤ dstep d r ∧ dstep d r ≤ d + 1 := by unfold dstep; split <;> try split
                                                                                   all_goals omega
theorem cutL_at (s : ByteArray) (pos : Nat) (d : Int) (h : pos < s.size) : cutL (s.data.toList.drop pos) pos d = if (s[pos]).toNat = 44 ∧ dstep d (s[pos]).toNat = 1 then (pos : Int) else cutL (s.data.toList.drop (pos + 1)) (pos + 1) (dstep d (s[pos]).toNat) := by
  rw [List.drop_eq_getElem_cons (by simpa using h)]
  rfl
theorem cutL_end (s : ByteArray) (pos : Nat) (d : Int) (h : ¬ pos < s.size) : cutL (s.data.toList.drop pos) pos d = -1 := by
  rw [List.drop_eq_nil_of_le (by simpa using h)]; rfl

/-- what holds between two runes -/
def DInv (B D I : Nat) (s : ByteArray) (w0 : World) (gf : Nat) (wx : World) : Prop :=
  ∃ (pos : Nat) (d : Int), (wx.heap[I]? = some (.stringIter s pos) ∧ wx.cell? ⟨D, 0, none⟩ = some (.int .i64 d) ∧ wx.frozen? ⟨D, 0, none⟩ = false ∧ Below B w0 wx) ∧
    cutL (s.data.toList.drop pos) pos d = cutL s.data.toList 0 0 ∧ s.size ≤ pos + gf ∧ pos ≤ s.size ∧ -(pos : Int) ≤ d ∧ d ≤ pos

end Go.Proofs.YtnjpblmplneojaaGreatDoor.Colour
/- cut of package colour, of a text of ASCII that is a pair's: a contract of the call, over the turned program. -/
namespace Go.Proofs.YtnjpblmplneojaaGreatDoor.Colour
open Go.RowKit Go.Proofs.YtnjpblmplneojaaGreatDoor.Frame Go.Deep
set_option linter.unusedVariables false
end Go.Proofs.YtnjpblmplneojaaGreatDoor.Colour
/- memberOf, readInt, read, readPair and Read of package colour, of texts that are read: contracts of the calls, over the turned program. -/
namespace Go.Proofs.YtnjpblmplneojaaGreatDoor.Colour
open Go.RowKit Go.Proofs.YtnjpblmplneojaaGreatDoor.Frame Go.Deep
set_option linter.unusedVariables false
attribute [local go_sem ↓] Go.wp_at_zero Go.wp_at_succ
theorem ret2b {a b : Int} {p : Bool} (h : a = b) : Ending.returned (.tuple #[.int .i64 a, .bool p]) = .returned (.tuple #[.int .i64 b, .bool p]) := by rw [h]

/-- the numbers of a row -/
def NumsAt (w : World) (g len : Nat) (ns : List Int) : Prop := ∀ j, j < len → w.cell? ⟨g, j, none⟩ = some (.int .i64 (ns.getD j 0))
theorem NumsAt.below {w w' : World} {g len : Nat} {ns : List Int} (h : NumsAt w g len ns) (hb : Below w.heap.size w w') : NumsAt w' g len ns := fun j hj =>
  (hb.cell (p := ⟨g, j, none⟩) (World.block_lt_of_cell? w _ (h j hj))).trans (h j hj)
end Go.Proofs.YtnjpblmplneojaaGreatDoor.Colour
/- read of an enum's and of a pair's text, and Read: contracts of the calls, over the turned program. -/
namespace Go.Proofs.YtnjpblmplneojaaGreatDoor.Colour
open Go.RowKit Go.Proofs.YtnjpblmplneojaaGreatDoor.Frame Go.Deep
set_option linter.unusedVariables false
end Go.Proofs.YtnjpblmplneojaaGreatDoor.Colour
