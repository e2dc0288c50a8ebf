/- The numbers of an expression's variables: strictly rising, and so told by their members. -/
import Derived.Test.YtnhhajbfohjlbaaGreatDoorExVars2
namespace Go.Proofs.YtnhhajbfohjlbaaGreatDoor.Expr
open Go.RowKit Go.Proofs.YtnhhajbfohjlbaaGreatDoor.Frame Go.Sort
set_option linter.unusedVariables false
set_option linter.unusedSimpArgs false

/-- strictly rising -/
def Srt (l : List Int) : Prop := l.Pairwise (· < ·)
theorem compact_srt (zs : List Int) (h : zs.Pairwise (· ≤ ·)) : Srt (Lib.compact zs) := by
  have hle : ∀ i j, i ≤ j → j < zs.length → zs.toArray[i]! ≤ zs.toArray[j]! := fun i j hij hj => by
    rcases Nat.lt_or_ge i j with h1 | h1
    · have := (List.pairwise_iff_getElem.1 h) i j (by omega) hj h1
      simpa [show i < zs.length by omega, hj] using this
    · obtain rfl : i = j := by omega
      exact Int.le_refl _
  have key : ∀ m, m ≤ zs.length → Srt (Lib.compactUpTo zs.toArray m) ∧ ∀ z, z ∈ Lib.compactUpTo zs.toArray m → 0 < m ∧ z ≤ zs.toArray[m - 1]! := by
    intro m
    induction m with
    | zero => intro _; exact ⟨List.Pairwise.nil, fun z hz => by simp [Lib.compactUpTo] at hz⟩
    | succ m ih =>
      intro hm
      obtain ⟨h1, h2⟩ := ih (by omega)
      rw [Lib.compactUpTo_succ]
      by_cases hk : Lib.keeps zs.toArray m = true
      · rw [if_pos hk]
        refine ⟨List.pairwise_append.2 ⟨h1, by simp, fun x hx y hy => ?_⟩, fun z hz => ⟨by omega, ?_⟩⟩
        · simp at hy
          obtain ⟨hm0, hxm⟩ := h2 x hx
          have hl := hle (m - 1) m (by omega) (by omega)
          have hne : zs.toArray[m]! ≠ zs.toArray[m - 1]! := by
            unfold Lib.keeps at hk
            have := of_decide_eq_true hk
            rcases this with h | h
            · omega
            · exact h
          have hy' : y = zs.toArray[m]! := by simpa using hy
          rw [hy']
          omega
        · rcases List.mem_append.1 hz with hz | hz
          · obtain ⟨hm0, hzm⟩ := h2 z hz
            have hl := hle (m - 1) m (by omega) (by omega)
            show z ≤ zs.toArray[m]!
            omega
          · have hz' : z = zs.toArray[m]! := by simpa using hz
            rw [hz']; exact Int.le_refl _
      · rw [if_neg hk, List.append_nil]
        refine ⟨h1, fun z hz => ⟨by omega, ?_⟩⟩
        obtain ⟨hm0, hzm⟩ := h2 z hz
        have hl := hle (m - 1) m (by omega) (by omega)
        show z ≤ zs.toArray[m]!
        omega
  exact (key zs.length (Nat.le_refl _)).1
theorem srt_varsS (t : Ex) : Srt (varsS t) := by
  refine compact_srt _ ?_
  have h := List.pairwise_mergeSort (le := fun (x y : Int) => decide (x ≤ y)) (fun a b c h1 h2 => by simp at h1 h2 ⊢; omega) (fun a b => by simp; omega) (varsF t)
  exact h.imp fun h => by simpa using h
/-- told by their members -/
theorem srt_uniq : ∀ {l m : List Int}, Srt l → Srt m → (∀ z, z ∈ l ↔ z ∈ m) → l = m := by
  intro l
  induction l with
  | nil =>
    intro m _ _ h
    cases m with
    | nil => rfl
    | cons y m => exact absurd ((h y).2 (by simp)) (by simp)
  | cons x l ih =>
    intro m hl hm h
    cases m with
    | nil => exact absurd ((h x).1 (by simp)) (by simp)
    | cons y m =>
      obtain ⟨l1, l2⟩ := List.pairwise_cons.1 hl
      obtain ⟨m1, m2⟩ := List.pairwise_cons.1 hm
      have hxy : x = y := by
        have hx := (h x).1 (by simp)
        have hy := (h y).2 (by simp)
        rcases List.mem_cons.1 hx with e | hx
        · exact e
        · rcases List.mem_cons.1 hy with e | hy
          · exact e.symm
          · have a1 := m1 x hx
            have a2 := l1 y hy
            omega
      subst hxy
      congr 1
      refine ih l2 m2 fun z => ⟨fun hz => ?_, fun hz => ?_⟩
      · rcases List.mem_cons.1 ((h z).1 (by simp [hz])) with e | e
        · have := l1 z hz; omega
        · exact e
      · rcases List.mem_cons.1 ((h z).2 (by simp [hz])) with e | e
        · have := m1 z hz; omega
        · exact e
/-- one more, at its place -/
theorem srt_ins {l : List Int} {k : Nat} {n : Int} (h : Srt l) (hk : k ≤ l.length) (h1 : ∀ i, i < k → l.getD i 0 < n) (h2 : k < l.length → n < l.getD k 0) : Srt (l.take k ++ [n] ++ l.drop k) ∧ ∀ z, z ∈ l.take k ++ [n] ++ l.drop k ↔ z ∈ l ∨ z = n := by
  have hg : ∀ i (hi : i < l.length), l.getD i 0 = l[i] := fun i hi => by rw [List.getD_eq_getElem?_getD, List.getElem?_eq_getElem hi]; rfl
  have ht : ∀ z, z ∈ l.take k → z < n := fun z hz => by
    obtain ⟨i, hi, rfl⟩ := List.mem_iff_getElem.1 hz
    have hi' : i < k := by simp at hi; omega
    have := h1 i hi'
    rw [hg i (by simp at hi; omega)] at this
    simpa using this
  have hd : ∀ z, z ∈ l.drop k → n < z := fun z hz => by
    obtain ⟨i, hi, rfl⟩ := List.mem_iff_getElem.1 hz
    have hi' : k + i < l.length := by simp at hi; omega
    have h3 := h2 (by omega)
    rw [hg k (by omega)] at h3
    rw [List.getElem_drop]
    rcases Nat.eq_zero_or_pos i with e | e
    · subst e; simpa using h3
    · have := (List.pairwise_iff_getElem.1 h) k (k + i) (by omega) hi' (by omega)
      omega
  constructor
  · refine List.pairwise_append.2 ⟨List.pairwise_append.2 ⟨h.sublist (List.take_sublist _ _), by simp, fun x hx y hy => ?_⟩, h.sublist (List.drop_sublist _ _), fun x hx y hy => ?_⟩
    · simp at hy; subst hy; exact ht x hx
    · rcases List.mem_append.1 hx with hx | hx
      · have := ht x hx; have := hd y hy; omega
      · simp at hx; subst hx; exact hd y hy
  · intro z
    have e : z ∈ l ↔ z ∈ l.take k ∨ z ∈ l.drop k := by rw [← List.mem_append, List.take_append_drop]
    rw [e]
    simp only [List.mem_append, List.mem_singleton]
    constructor
    · rintro ((h | h) | h)
      · exact .inl (.inl h)
      · exact .inr h
      · exact .inl (.inr h)
    · rintro ((h | h) | h)
      · exact .inl (.inl h)
      · exact .inr h
      · exact .inl (.inr h)
end Go.Proofs.YtnhhajbfohjlbaaGreatDoor.Expr
