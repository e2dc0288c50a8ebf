/- The small case of the laws of layer 4: what its expressions tell. -/
import Derived.Test.YtnhhajbfohjlbaaGreatDoorExSmallA
import Derived.Test.YtnhhajbfohjlbaaGreatDoorExReck
import Derived.Test.YtnhhajbfohjlbaaGreatDoorExVars2
import Derived.Test.YtnhhajbfohjlbaaGreatDoorExText7
import Derived.Test.YtnhhajbfohjlbaaGreatDoorExPut
namespace Go.Proofs.YtnhhajbfohjlbaaGreatDoor.Expr
open Go.RowKit Go.Proofs.YtnhhajbfohjlbaaGreatDoor.Frame Go.Proofs.YtnhhajbfohjlbaaGreatDoor.Calc
set_option linter.unusedVariables false
set_option linter.unusedSimpArgs false

def smP : Ex := putF 0 (leafE 1 9) smE
theorem smP_eq : smP = ⟨6, 0, [binE 6 (leafE 1 9) (leafE 1 0), binE 4 (leafE 1 1) (leafE 1 9), binE 2 (leafE 1 9) (leafE 1 7)]⟩ := by
  simp [smP, smE, binE, leafE, put_eq]
theorem depth_smE : depthF smE = 3 := by simp [smE, binE, leafE, depth_eq, mx]
theorem size_smE : sizeF smE = 10 := by simp [smE, binE, leafE, size_eq, sm]
theorem size_smT : sizeF smT = 5 := by simp [smT, binE, leafE, size_eq, sm]
theorem right_smE1 : rightB 1 smE = true := by simp [rightB, depth_smE, size_smE]; simp [smE, binE, leafE, parts_eq, nodeB, knownB]
theorem right_smE0 : rightB 0 smE = false := by simp [rightB, depth_smE, size_smE]; simp [smE, binE, leafE, parts_eq, nodeB, knownB]
theorem right_smP : rightB 0 smP = true := by
  have h1 : depthF smP = 3 := by simp [smP_eq, binE, leafE, depth_eq, mx]
  have h2 : sizeF smP = 10 := by simp [smP_eq, binE, leafE, size_eq, sm]
  simp [rightB, h1, h2]; simp [smP_eq, binE, leafE, parts_eq, nodeB, knownB]
theorem eval_5 : evalF [5] smE = (-2, 0) := by
  unfold evalF
  rw [show ((List.length [(5 : Int)] : Nat) : Int) = 1 from rfl, right_smE1]
  simp [smE, binE, leafE, val_eq, nodeF]
  decide
theorem eval_0 : evalF [0] smE = (0, 7) := by
  unfold evalF
  rw [show ((List.length [(0 : Int)] : Nat) : Int) = 1 from rfl, right_smE1]
  simp [smE, binE, leafE, val_eq, nodeF]
  decide
theorem eval_n : evalF [] smE = (0, 1) := by
  unfold evalF
  rw [show ((List.length ([] : List Int) : Nat) : Int) = 0 from rfl, right_smE0]; rfl
theorem eval_p : evalF [] smP = (2, 0) := by
  unfold evalF
  rw [show ((List.length ([] : List Int) : Nat) : Int) = 0 from rfl, right_smP]
  simp [smP_eq, binE, leafE, val_eq, nodeF]
  decide
theorem vars_smE : varsS smE = [0] := by
  unfold varsS
  have : varsF smE = [0, 0, 0] := by simp [smE, binE, leafE, vars_eq]
  rw [this]
  have hp : (([0, 0, 0] : List Int).mergeSort (fun x y => decide (x ≤ y))).Perm (List.replicate 3 0) := List.mergeSort_perm ([0, 0, 0] : List Int) _
  have e : ([0, 0, 0] : List Int).mergeSort (fun x y => decide (x ≤ y)) = List.replicate 3 0 := List.perm_replicate.1 hp
  rw [e]
  decide
theorem it0 : Lib.itoa 0 = [48] := by decide +kernel
theorem it1 : Lib.itoa 1 = [49] := by decide +kernel
theorem it2 : Lib.itoa 2 = [50] := by decide +kernel
theorem it7 : Lib.itoa 7 = [55] := by decide +kernel
theorem itm : Lib.itoa (-1) = [45, 49] := by decide +kernel
def xN : List ByteArray := [⟨#[120]⟩]
theorem text_smE : textF xN smE = [105, 102, 40, 120, 32, 61, 61, 32, 48, 44, 32, 49, 32, 47, 32, 120, 44, 32, 120, 32, 45, 32, 55, 41] := by
  simp [smE, binE, leafE, text_eq, textN, xN, it0, it1, it2, it7, itm]
  decide
theorem text_smT : textF xN smT = [40, 120, 32, 43, 32, 40, 45, 49, 41, 41, 32, 42, 32, 50] := by
  simp [smT, binE, leafE, text_eq, textN, xN, it0, it1, it2, it7, itm]
  decide
end Go.Proofs.YtnhhajbfohjlbaaGreatDoor.Expr
