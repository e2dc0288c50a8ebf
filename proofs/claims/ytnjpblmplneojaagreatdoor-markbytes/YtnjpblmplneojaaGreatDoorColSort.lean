/- A row of strings copied and sorted by the library, in the words of the walks that call it. -/
import Derived.Test.YtnjpblmplneojaaGreatDoorColPlain
import Derived.Test.YtnjpblmplneojaaGreatDoorShelf
import Derived.Sort.OwnSorted
import Derived.WalkKit
namespace Go.Proofs.YtnjpblmplneojaaGreatDoor.Colour
open Go.RowKit Go.Sort
set_option linter.unusedVariables false

/-- a row of strings in memory, nil or not -/
def Strs (w : World) (a : Option Addr) (n : Nat) (zs : List ByteArray) : Prop :=
  zs.length = n ∧ (n = 0 ∨ ∃ b off, a = some ⟨b, off, none⟩ ∧ ∀ j, j < n → w.cell? ⟨b, off + j, none⟩ = some (.string (zs.getD j ByteArray.empty)))

theorem Strs.below {w w' : World} {a : Option Addr} {n : Nat} {zs : List ByteArray} (h : Strs w a n zs) (hb : Below w.heap.size w w') : Strs w' a n zs := by
  refine ⟨h.1, ?_⟩
  rcases h.2 with h0 | ⟨b, off, ha, hc⟩
  · exact .inl h0
  · exact .inr ⟨b, off, ha, fun j hj => (hb.cell (p := ⟨b, off + j, none⟩) (World.block_lt_of_cell? w _ (hc j hj))).trans (hc j hj)⟩
theorem enc_back (zs : List ByteArray) : (zs.map fun s => s.data.toList).map encStr = zs.map Value.string := by
  rw [List.map_map]
  exact List.map_congr_left fun s _ => rfl

/-- Clone of a row that is not nil -/
theorem clone_some (a : Addr) (n c : Nat) (zs : List ByteArray) (w : World) (h : Strs w (some a) n zs) (hn : n ≤ 1024) :
    Calls Tryz.prog 98 #[.slice (some a) n c] w fun e w' => ∃ g cap cur, e = .returned (.slice (some ⟨g, 0, none⟩) n cap) ∧ w.heap.size ≤ g ∧ w'.heap[g]? = some (.cells cur 9 (0, 0)) ∧ n ≤ cap ∧ cap ≤ maxLen ∧ cur.size = cap ∧ cur.toList.take n = zs.map Value.string ∧ Below w.heap.size w w' := by
  obtain ⟨hz, h⟩ := h
  have fin : ∀ v' w', w'.ownsRow w.heap.size 9 1 v' n (zs.map Value.string) → v' ≠ .slice none 0 0 → Below w.heap.size w w' →
      ∃ g cap cur, Ending.returned v' = .returned (.slice (some ⟨g, 0, none⟩) n cap) ∧ w.heap.size ≤ g ∧ w'.heap[g]? = some (.cells cur 9 (0, 0)) ∧ n ≤ cap ∧ cap ≤ maxLen ∧ cur.size = cap ∧ cur.toList.take n = zs.map Value.string ∧ Below w.heap.size w w' := by
    intro v' w' ho hv hb
    rcases ho.2 with ⟨h0, _⟩ | ⟨g, cap, cur, rfl, h1, h2, h3, h4, h5, h6⟩
    · exact absurd h0 hv
    · exact ⟨g, cap, cur, rfl, h1, h2, h3, h4, by simpa using h5, by simpa using h6, hb⟩
  rcases h with h0 | ⟨b, off, ha, hc⟩
  · subst h0
    obtain rfl : zs = [] := List.eq_nil_of_length_eq_zero hz
    refine (Tryz.slices_Clone_string_zero a c w).mono ?_
    rintro e w' ⟨v', rfl, ho, hv, hb⟩
    exact fin v' w' ho hv hb
  · cases ha
    refine (Tryz.slices_Clone_string b off n c zs w (by omega) (by omega) (fun j hj => hc j (by omega))).mono ?_
    rintro e w' ⟨v', rfl, ho, hv, hb⟩
    rw [List.take_of_length_le (by omega)] at ho
    exact fin v' w' ho hv hb

/-- Sort of a row that the call itself made -/
theorem sort_own (B g cap n : Nat) (zs : List ByteArray) (w0 w : World) (cur : Array Value) (hz : zs.length = n) (hn : n ≤ 1024) (hb : w.heap[g]? = some (.cells cur 9 (0, 0))) (hB : B ≤ g)
    (h1 : n ≤ cap) (h2 : cap ≤ maxLen) (h3 : cur.size = cap) (h4 : cur.toList.take n = zs.map Value.string) (hbel : Below B w0 w) :
    Calls Tryz.prog 99 #[.slice (some ⟨g, 0, none⟩) n cap] w fun e w' => e = .returned (.tuple #[]) ∧ (∀ j, j < n → w'.cell? ⟨g, j, none⟩ = some (.string ((sortF zs).getD j ByteArray.empty))) ∧ Below B w0 w' := by
  subst hz
  have hl : (zs.map fun s => s.data.toList).length = zs.length := by simp
  have hH : Holds encStr w g 0 (zs.map fun s => s.data.toList).toArray := holds_of_block hb (by rw [hl, h4, enc_back])
  have hc := Tryz.slices_Sort_string g 0 cap (zs.map fun s => s.data.toList) w hH (Array.getElem?_eq_some_iff.1 hb).1 (by rw [hl]; omega)
  rw [hl] at hc
  refine hc.mono ?_
  rintro e w' ⟨rfl, nn, os, rfl⟩
  have hrow := ownsRow_sorted (n := nn) (os := os) (ss := zs.map fun s => s.data.toList) (ts := (zs.map fun s => s.data.toList).mergeSort fun x y => decide (x ≤ y)) (by simp) hB hb (by rw [hl]; exact h1) h2 (by omega)
  refine ⟨rfl, fun j hj => ?_, hbel.grown (grownBy_sorted _) (Nat.le_of_lt (Nat.lt_of_le_of_lt hB (Array.getElem?_eq_some_iff.1 hb).1)) (fun j hj => by cases hj; exact hB)⟩
  have := hrow.cellAt j (by rw [hl]; omega)
  rw [this]
  unfold sortF
  rw [List.getD_eq_getElem?_getD, List.getElem?_map, List.getElem?_map, List.getElem?_eq_getElem (by simp; omega)]
  rfl
end Go.Proofs.YtnjpblmplneojaaGreatDoor.Colour
