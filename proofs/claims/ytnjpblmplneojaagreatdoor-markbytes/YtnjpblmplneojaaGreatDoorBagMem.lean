/- How bags lie in memory. -/
import Derived.Test.YtnjpblmplneojaaGreatDoorBagPlain
import Derived.Test.YtnjpblmplneojaaGreatDoorFrame
import Derived.WalkSmall
namespace Go.Proofs.YtnjpblmplneojaaGreatDoor.Bag
open Go.RowKit Go.Proofs.YtnjpblmplneojaaGreatDoor.Frame
set_option linter.unusedVariables false

def In64 (n : Int) : Prop := -9223372036854775808 ≤ n ∧ n ≤ 9223372036854775807
def Wf (rs : List Row) : Prop := ∀ i, i < rs.length → In64 (rs.getD i zr).1 ∧ In64 (rs.getD i zr).2
/-- the rows' cells -/
def At (w : World) (b off : Nat) (rs : List Row) : Prop :=
  ∀ i, i < rs.length → w.cell? ⟨b, off + i * 2, none⟩ = some (.int .i64 (rs.getD i zr).1) ∧ w.cell? ⟨b, off + i * 2 + 1, none⟩ = some (.int .i64 (rs.getD i zr).2)
/-- a bag in memory -/
def Bags (w : World) (a : Option Addr) (len : Nat) (rs : List Row) : Prop :=
  (rs.length = len ∧ Wf rs) ∧ (len = 0 ∨ ∃ b off, a = some ⟨b, off, none⟩ ∧ At w b off rs)
theorem At.below {w w' : World} {b off : Nat} {rs : List Row} (h : At w b off rs) (hb : Below w.heap.size w w') : At w' b off rs := fun i hi => by
  obtain ⟨h0, h1⟩ := h i hi
  have hl : b < w.heap.size := World.block_lt_of_cell? w _ h0
  exact ⟨(hb.cell (p := ⟨b, off + i * 2, none⟩) hl).trans h0, (hb.cell (p := ⟨b, off + i * 2 + 1, none⟩) hl).trans h1⟩
theorem Bags.below {w w' : World} {a : Option Addr} {len : Nat} {rs : List Row} (h : Bags w a len rs) (hb : Below w.heap.size w w') : Bags w' a len rs := by
  refine ⟨h.1, ?_⟩
  rcases h.2 with h0 | ⟨b, off, ha, hc⟩
  · exact .inl h0
  · exact .inr ⟨b, off, ha, hc.below hb⟩
/-- a row of it -/
theorem Bags.row {w : World} {a : Option Addr} {len : Nat} {rs : List Row} (h : Bags w a len rs) {k : Nat} (hk : k < len) : ∃ b off, a = some ⟨b, off, none⟩ ∧ b < w.heap.size ∧ At w b off rs := by
  rcases h.2 with h0 | ⟨b, off, ha, hc⟩
  · omega
  · exact ⟨b, off, ha, World.block_lt_of_cell? w _ (hc k (by rw [h.1.1]; exact hk)).1, hc⟩
theorem retb {a b : Bool} (h : a = b) : Ending.returned (.bool a) = .returned (.bool b) := by rw [h]
theorem reti {a b : Int} (h : a = b) : Ending.returned (.int .i64 a) = .returned (.int .i64 b) := by rw [h]
end Go.Proofs.YtnjpblmplneojaaGreatDoor.Bag
