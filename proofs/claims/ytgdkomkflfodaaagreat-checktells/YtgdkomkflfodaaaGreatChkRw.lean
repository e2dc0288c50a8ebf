/- The document's own Word (out of layer 5's texts), letter, digit and Name: contracts of the calls, over the turned program. -/
import Derived.Test.YtgdkomkflfodaaaGreatMaK
import Derived.Test.YtgdkomkflfodaaaGreatMaL
namespace Go.Proofs.YtgdkomkflfodaaaGreat.Token
open Go.RowKit Go.Proofs.YtgdkomkflfodaaaGreat.Colour Go.Proofs.YtgdkomkflfodaaaGreat.Frame
set_option linter.unusedVariables false
set_option linter.unusedSimpArgs false

def str (l : List UInt8) : ByteArray := ⟨l.toArray⟩
theorem str_list (s : ByteArray) : str s.data.toList = s := by unfold str; rw [Array.toArray_toList]
theorem str_data (l : List UInt8) : (str l).data.toList = l := by unfold str; simp
theorem box_cell {C : Nat} {w : World} {cs : Array Value} {t : TypeId} {fz : Nat × Nat} (h : w.heap[C]? = some (.cells cs t fz)) (j : Nat) : w.cell? ⟨C, j, none⟩ = cs[j]? := by
  simp [World.cell?, h]
theorem cells_strs {w : World} {g : Nat} {t : TypeId} (zs : List (List UInt8)) (h : w.heap[g]? = some (.cells (zs.map fun l => Value.string (str l)).toArray t)) (j : Nat) (hj : j < zs.length) : w.cell? ⟨g, j, none⟩ = some (.string (str (zs.getD j []))) := by
  rw [box_cell h, List.getElem?_toArray, List.getElem?_map, List.getD_eq_getElem?_getD, List.getElem?_eq_getElem hj]; rfl

set_option maxRecDepth 100000 in
set_option maxHeartbeats 2000000 in
theorem r_word (s : ByteArray) (w : World) :
    Calls Tryz.prog 105 #[.string s] w fun e w' => e = .returned (.bool (wordB s.data.toList)) ∧ Below w.heap.size w w' := by
  go_enter Tryz.func105, Tryz.ntmps105
  go_wp2
  generalize hW0 : w.alloc _ = W
  have hW : W = w.alloc (.cells (wordsL.map fun l => Value.string (str l)).toArray 9) := by rw [← hW0]; rfl
  have hb : Below w.heap.size w W := by rw [hW]; exact (Below.refl _ _).alloc (Nat.le_refl _) _
  have hc : ∀ j, j < 21 → W.cell? ⟨w.heap.size, j, none⟩ = some (.string (str (wordsL.getD j []))) := fun j hj => cells_strs wordsL (by rw [hW]; exact heap_alloc_new w _) j hj
  have HB : Hid (Below w.heap.size w W) := hb
  have HC : Hid (∀ j, j < 21 → W.cell? ⟨w.heap.size, j, none⟩ = some (.string (str (wordsL.getD j [])))) := hc
  clear hb hc hW hW0
  go_loop [4] (fun i => ∃ k : Nat, k ≤ 21 ∧ i = .int .i64 k ∧ Hid (∀ j, j < k → s.data.toList ≠ wordsL.getD j [])) (fun i => 21 - (intOf i).toNat)
  case atStart => exact ⟨0, by omega, rfl, fun j h => by omega⟩
  case round =>
    obtain ⟨k, hk, rfl, hN⟩ := hrel
    by_cases hlt : k < 21
    · have hlt' : (k : Int) < 21 := by omega
      have c0 := HC.out k hlt
      have hbl := World.block_lt_of_cell? W _ c0
      by_cases he : s.data.toList = wordsL.getD k []
      · have hT : str (wordsL.getD k []) = s := by rw [← he, str_list]
        have E : Hid (wordB s.data.toList = true) := decide_eq_true (by rw [he, List.getD_eq_getElem?_getD, List.getElem?_eq_getElem (show k < wordsL.length from hlt)]; exact List.getElem_mem _)
        rw [hT] at c0
        clear he hT
        go_wp2
        go_ret
        exact ⟨by rw [E.out]; rfl, HB.out⟩
      · have hne : ((str (wordsL.getD k [])).toList == s.toList) = false := by
          rw [Go.ByteArray.toList_eq, Go.ByteArray.toList_eq, str_data]
          exact beq_eq_false_iff_ne.2 (fun e => he e.symm)
        have hN2 : Hid (∀ j, j < k + 1 → s.data.toList ≠ wordsL.getD j []) := fun j hj => by
          rcases Nat.lt_or_ge j k with h | h
          · exact hN.out j h
          · obtain rfl : j = k := by omega
            exact he
        generalize str (wordsL.getD k []) = T at *
        clear he
        go_wp2
        go_round
        case rel => exact ⟨k + 1, by omega, by go_num, hN2⟩
        case measure => simp [intOf]; omega
    · have hlt' : ¬ (k : Int) < 21 := by omega
      have E : Hid (wordB s.data.toList = false) := decide_eq_false fun hm => by
        obtain ⟨j, hj, he⟩ := List.getElem_of_mem hm
        have hj' : j < 21 := hj
        refine hN.out j (by omega) ?_
        rw [List.getD_eq_getElem?_getD, List.getElem?_eq_getElem hj]; exact he.symm
      go_wp2
      go_ret
      exact ⟨by rw [E.out]; rfl, HB.out⟩

end Go.Proofs.YtgdkomkflfodaaaGreat.Token
