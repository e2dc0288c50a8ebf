/- What ExprFree leans on, in plain Lean; and rows of numbers that grow. -/
import Derived.Test.YtnhhajbfohjlbaaGreatDoorExLaw
namespace Go.Proofs.YtnhhajbfohjlbaaGreatDoor.Expr
open Go.RowKit Go.Proofs.YtnhhajbfohjlbaaGreatDoor.Frame Go.Proofs.YtnhhajbfohjlbaaGreatDoor.Calc
set_option linter.unusedVariables false
set_option linter.unusedSimpArgs false

theorem compact_mem {zs : List Int} {z : Int} (h : z ∈ zs) : z ∈ Lib.compact zs := by
  obtain ⟨i, hi, rfl⟩ := List.mem_iff_getElem.1 h
  have key : ∀ i, i < zs.length → zs.toArray[i]! ∈ Lib.compact zs := by
    intro i
    induction i with
    | zero =>
      intro hi
      unfold Lib.compact Lib.compactUpTo
      exact List.mem_map.2 ⟨0, List.mem_filter.2 ⟨by simpa using hi, by simp [Lib.keeps]⟩, rfl⟩
    | succ i ih =>
      intro hi
      by_cases hk : Lib.keeps zs.toArray (i + 1) = true
      · unfold Lib.compact Lib.compactUpTo
        exact List.mem_map.2 ⟨i + 1, List.mem_filter.2 ⟨by simpa using hi, hk⟩, rfl⟩
      · have : zs.toArray[i + 1]! = zs.toArray[i]! := by
          simp [Lib.keeps] at hk
          simpa using hk
        rw [this]
        exact ih (by omega)
  have := key i hi
  simpa [hi] using this
theorem mem_varsS {t : Ex} {z : Int} : z ∈ varsS t ↔ z ∈ varsF t :=
  ⟨fun h => (List.mergeSort_perm (varsF t) _).mem_iff.1 (mem_compact h), fun h => compact_mem ((List.mergeSort_perm (varsF t) _).mem_iff.2 h)⟩
theorem varsS_len (t : Ex) : (varsS t).length ≤ sizeF t := by
  have h1 := Lib.compact_length_le ((varsF t).mergeSort fun x y => decide (x ≤ y))
  have h2 : ((varsF t).mergeSort fun x y => decide (x ≤ y)).length = (varsF t).length := List.length_mergeSort _
  have h3 := vars_len t
  unfold varsS
  omega
theorem free_set (zs : List Int) (t : Ex) (k : Nat) (v : Int) (hk : k < zs.length) (h : (k : Int) ∉ varsF t) : evalF (zs.set k v) t = evalF zs t := by
  unfold evalF
  rw [List.length_set]
  cases hr : rightB zs.length t with
  | false => rfl
  | true =>
    refine val_free _ _ t fun n hn => ?_
    have hr2 := vars_range _ t (rightB_parts hr) n hn
    rw [getD_set _ _ _ _ hk, if_neg]
    intro e
    apply h
    have : n = k := by omega
    rw [← this]; exact hn
theorem node_mono {vars vars' k n : Int} {len : Nat} (h : vars ≤ vars') (hn : nodeB vars k n len = true) : nodeB vars' k n len = true := by
  unfold nodeB at hn ⊢
  repeat' split at hn
  all_goals simp_all
  all_goals omega
theorem parts_mono {vars vars' : Int} (h : vars ≤ vars') : ∀ t, partsB vars t = true → partsB vars' t = true := by
  refine Ex.ind fun k n ks ih hp => ?_
  rw [parts_eq, Bool.and_eq_true, List.all_eq_true] at hp ⊢
  exact ⟨node_mono h hp.1, fun x hx => ih x hx (hp.2 x hx)⟩
theorem free_snoc (zs : List Int) (t : Ex) (v : Int) : (evalF zs t).2 = 1 ∨ evalF (zs ++ [v]) t = evalF zs t := by
  cases hr : rightB zs.length t with
  | false => left; unfold evalF; rw [hr]; rfl
  | true =>
    right
    have hr' : rightB ((zs ++ [v]).length : Nat) t = true := by
      unfold rightB at hr ⊢
      rw [Bool.and_eq_true] at hr ⊢
      exact ⟨hr.1, parts_mono (by simp; omega) t hr.2⟩
    unfold evalF
    rw [hr, hr']
    refine val_free _ _ t fun n hn => ?_
    have hr2 := vars_range _ t (rightB_parts hr) n hn
    rw [List.getD_eq_getElem?_getD, List.getElem?_append_left (by omega), ← List.getD_eq_getElem?_getD]
theorem snoc_own {B g len c : Nat} {w : World} {zs : List Int} (h : w.ownsRow B 3 1 (.slice (some ⟨g, 0, none⟩) len c) len (zs.map (Value.int .i64))) (hB : B ≤ w.heap.size) (v : Int) (hl : len ≤ 1000000) (ty : TypeId) :
    ∃ g' c' w3, (Builtin.append_ #[32, 32] ty #[.slice (some ⟨g, 0, none⟩) len c, .slice (some ⟨w.heap.size, 0, none⟩) 1 1]).run Tryz.prog (w.alloc (.cells #[.int .i64 v] 3)) = .ok (.slice (some ⟨g', 0, none⟩) (len + 1) c') w3 ∧
      w3.ownsRow B 3 1 (.slice (some ⟨g', 0, none⟩) (len + 1) c') (len + 1) ((zs ++ [v]).map (Value.int .i64)) ∧ Below B w w3 := by
  obtain ⟨i0, hi, hz0, hz1, hz2⟩ := info_parts intInfo
  have hml : (2000000 : Nat) ≤ maxLen := by decide
  obtain ⟨v', w2, hr, ho, hg, hnil⟩ := run_append_own (P := Tryz.prog) (w.alloc (.cells #[.int .i64 v] 3)) B 32 ty 3 i0 (.int .i64 0) 1 8 Tryz.underlying32 hi hz0 hz1 hz2 rfl (by decide)
    (.slice (some ⟨g, 0, none⟩) len c) len (zs.map (Value.int .i64)) (h.alloc _) ⟨w.heap.size, 0, none⟩ 1 1 [.int .i64 v] rfl
    (fun j u hu => by
      match j, hu with
      | 0, hu => simp at hu; subst hu; rw [Go.WideShapes.add_plain]; simp
      | j + 1, hu => simp at hu) (fun u hu => by simp at hu; subst hu; rfl) (by omega) (by omega) (by simp; omega)
  rw [show zs.map (Value.int .i64) ++ [.int .i64 v] = (zs ++ [v]).map (Value.int .i64) by simp] at ho
  have ho' := ho
  rcases ho.2 with ⟨_, h0⟩ | ⟨g', c', cur, rfl, hb, hh, hcap, hm, hcs, htk⟩
  · omega
  exact ⟨g', c', w2, hr, ho', ((Below.refl _ w).alloc hB _).grown hg (by simp; omega) (fun k hk => (h.lt k hk).1)⟩
theorem nm_own {B g len c : Nat} {w : World} {zs : List Int} (h : w.ownsRow B 3 1 (.slice (some ⟨g, 0, none⟩) len c) len (zs.map (Value.int .i64))) (hz : ∀ i, i < len → In64 (zs.getD i 0)) : Nm w (some ⟨g, 0, none⟩) len zs := by
  obtain ⟨_, _, hl, hc, _, _⟩ := own_facts h
  exact ⟨⟨hl, hz⟩, .inr ⟨g, 0, rfl, fun i hi => by rw [Nat.zero_add]; exact hc i hi⟩⟩
theorem in_snoc {zs : List Int} {len : Nat} {v : Int} (hl : zs.length = len) (hz : ∀ i, i < len → In64 (zs.getD i 0)) (hv : In64 v) : ∀ i, i < len + 1 → In64 ((zs ++ [v]).getD i 0) := fun i hi => by
  by_cases h : i < len
  · rw [List.getD_eq_getElem?_getD, List.getElem?_append_left (by omega), ← List.getD_eq_getElem?_getD]; exact hz i h
  · obtain rfl : i = zs.length := by omega
    rw [List.getD_eq_getElem?_getD, List.getElem?_append_right (Nat.le_refl _)]; simpa using hv
/-- is one of the first j this one? -/
def anyK (k : Int) (L : List Int) (j : Nat) : Bool := (L.take j).any (· == k)
theorem anyK_step {k : Int} {L : List Int} {j : Nat} (h : j < L.length) : anyK k L (j + 1) = (anyK k L j || (L.getD j 0 == k)) := by
  unfold anyK
  rw [take_snoc 0 h, List.any_append]; simp
theorem anyK_all {k : Int} {L : List Int} {j : Nat} (h : L.length ≤ j) : anyK k L j = decide (k ∈ L) := by
  unfold anyK
  rw [List.take_of_length_le h, Bool.eq_iff_iff, List.any_eq_true]
  simp
end Go.Proofs.YtnhhajbfohjlbaaGreatDoor.Expr
