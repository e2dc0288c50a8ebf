/- char's methods, on and run of package token: contracts of the calls, over the turned program. -/
import Derived.Test.YtgdkomkflfodaaaGreatTokPlain
import Derived.Test.YtgdkomkflfodaaaGreatFrame
import Derived.WalkKit
import Derived.WalkSpells
import Derived.WalkLawsBesides
namespace Go.Proofs.YtgdkomkflfodaaaGreat.Token
open Go.RowKit Go.Proofs.YtgdkomkflfodaaaGreat.Colour
set_option linter.unusedVariables false
set_option linter.unusedSimpArgs false
def hash8 (c : UInt8) : Bool := c.toNat == 35
def note8 (c : UInt8) : Bool := c.toNat != 10
/-- such a byte stands there -/
def onB (p : UInt8 → Bool) (l : List UInt8) (i : Nat) : Bool := decide (i < l.length) && p (l.getD i 0)
/-- where such bytes end -/
def runF (p : UInt8 → Bool) (l : List UInt8) (i : Nat) : Nat := i + runL p (l.drop i)
theorem at_list {s : ByteArray} {i : Nat} (h : i < s.size) : s.data.toList.getD i 0 = s[i] := by
  rw [List.getD_eq_getElem?_getD, List.getElem?_eq_getElem (by simpa using h)]; rfl
theorem size_list (s : ByteArray) : s.data.toList.length = s.size := by simp
theorem onB_in {p : UInt8 → Bool} {s : ByteArray} {i : Nat} (h : i < s.size) : onB p s.data.toList i = p s[i] := by
  unfold onB; rw [at_list h, size_list]; simp [h]
theorem onB_out {p : UInt8 → Bool} {l : List UInt8} {i : Nat} (h : l.length ≤ i) : onB p l i = false := by
  unfold onB; rw [decide_eq_false (by omega)]; rfl
theorem runF_on {p : UInt8 → Bool} {l : List UInt8} {i : Nat} (h : onB p l i = true) : i < l.length ∧ runF p l i = runF p l (i + 1) := by
  unfold onB at h
  simp only [Bool.and_eq_true, decide_eq_true_eq] at h
  refine ⟨h.1, ?_⟩
  unfold runF runL
  rw [List.drop_eq_getElem_cons h.1, List.takeWhile_cons, if_pos (by have h2 := h.2; rwa [List.getD_eq_getElem?_getD, List.getElem?_eq_getElem h.1] at h2)]
  simp; omega
theorem runF_off {p : UInt8 → Bool} {l : List UInt8} {i : Nat} (h : onB p l i = false) : runF p l i = i := by
  unfold runF runL
  rcases Nat.lt_or_ge i l.length with hi | hi
  · have hp : p l[i] = false := by
      unfold onB at h
      rw [decide_eq_true hi, Bool.true_and, List.getD_eq_getElem?_getD, List.getElem?_eq_getElem hi] at h
      exact h
    rw [List.drop_eq_getElem_cons hi, List.takeWhile_cons, if_neg (by rw [hp]; decide)]; rfl
  · rw [List.drop_of_length_le hi]; rfl
theorem runF_le {p : UInt8 → Bool} {l : List UInt8} {i : Nat} (h : i ≤ l.length) : runF p l i ≤ l.length := by
  unfold runF
  have := run_le (p := p) (r := l.drop i)
  rw [List.length_drop] at this
  omega
theorem runF_ge {p : UInt8 → Bool} {l : List UInt8} {i : Nat} : i ≤ runF p l i := by unfold runF; omega

end Go.Proofs.YtgdkomkflfodaaaGreat.Token
