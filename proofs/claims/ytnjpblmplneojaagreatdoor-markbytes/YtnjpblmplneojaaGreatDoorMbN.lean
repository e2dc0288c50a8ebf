/- The end of MarkMore's walk, by the ways it may go; and what orders of markings are. -/
import Derived.Test.YtnjpblmplneojaaGreatDoorMbL
import Derived.Test.YtnjpblmplneojaaGreatDoorMbM
namespace Go.Proofs.YtnjpblmplneojaaGreatDoor.Mark
open Go.RowKit Go.Proofs.YtnjpblmplneojaaGreatDoor.Frame Go.Proofs.YtnjpblmplneojaaGreatDoor.Bag
set_option linter.unusedVariables false
set_option linter.unusedSimpArgs false

theorem compareM_three {a b : Mk} (ha : RightM a) (hb : RightM b) : compareM a b = 1 ∨ compareM a b = -1 ∨ compareM a b = 0 := by
  by_cases h1 : b.length < a.length
  · left; unfold compareM; rw [if_pos h1]
  by_cases h2 : a.length < b.length
  · right; left; unfold compareM; rw [if_neg h1, if_pos h2]
  have hl : a.length = b.length := by omega
  rcases part_at a b hl with h | ⟨i, hi, h0, hc⟩
  · right; right; exact compareM_none hl h
  · rw [compareM_at hl hi h0 hc]
    have hib : i < b.length := by omega
    rcases compareB_cmp (ha _ (at_mem hi)) (hb _ (at_mem hib)) with ⟨e, _⟩ | ⟨e, _⟩ | ⟨e, _⟩
    · exact .inl e
    · exact .inr (.inl e)
    · exact .inr (.inr e)
end Go.Proofs.YtnjpblmplneojaaGreatDoor.Mark
