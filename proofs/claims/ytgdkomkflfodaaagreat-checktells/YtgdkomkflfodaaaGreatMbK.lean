/- What follows of a net that is well formed: in plain Lean. -/
import Derived.Test.YtgdkomkflfodaaaGreatMbJ
namespace Go.Proofs.YtgdkomkflfodaaaGreat.Check
open Go.RowKit Go.Proofs.YtgdkomkflfodaaaGreat.Frame Go.Proofs.YtgdkomkflfodaaaGreat.Colour Go.Proofs.YtgdkomkflfodaaaGreat.Expr
set_option linter.unusedVariables false
set_option linter.unusedSimpArgs false

/-- no part is wrong -/
def OkN (n : Ne) : Prop := wholeF n = 0 ∧ wrongF n.cols = n.cols.length ∧ (∀ k, k < n.places.length → placeF n k = 0) ∧ ∀ k, k < n.tasks.length → taskF n k = 0
theorem wrong_le (cs : List Col) : wrongF cs ≤ rightN cs ∧ rightN cs ≤ cs.length := ⟨(firstF_at _ _).1, (firstF_at _ _).1⟩
theorem wrong_all {cs : List Col} (h : ∀ k, k < cs.length → colF (wrongF cs) k = 0) : wrongF cs = cs.length := by
  have h1 := wrong_le cs
  rcases Nat.lt_or_ge (wrongF cs) cs.length with hl | hl
  · have := h _ hl
    unfold colF at this
    have := errB_zero (by omega) this
    simp at this
  · omega
theorem okN_of {n : Ne} (h : ∀ i, i < 4 → ∀ k, k < partN n i → partF n i k = 0) : OkN n :=
  ⟨h 0 (by omega) 0 (by show 0 < 1; omega), wrong_all (fun k hk => h 1 (by omega) k hk), fun k hk => h 2 (by omega) k hk, fun k hk => h 3 (by omega) k hk⟩
theorem net_ok {n : Ne} {kd at_ : Int} (h : NetIs n kd at_ 0) : kd = 0 ∧ at_ = 0 ∧ OkN n := by
  rcases h with ⟨h1, h2, _, h4⟩ | ⟨i, k, _, _, _, _, _, h, _⟩
  · exact ⟨h1, h2, okN_of h4⟩
  · exact absurd rfl h
/-- right colours -/
theorem right_of_wrong {cs : List Col} (h : wrongF cs = cs.length) : ∃ ns, sizesF cs = some ns := by
  have h1 := wrong_le cs
  have hr : rightN cs = cs.length := by omega
  rcases Nat.eq_zero_or_pos cs.length with h0 | h0
  · obtain rfl : cs = [] := List.length_eq_zero_iff.1 h0
    exact ⟨[], by kernel_rfl⟩
  · have h2 : cutB cs (cs.length - 1) = false := (firstF_at (cutB cs) cs.length).2.1 _ (by show cs.length - 1 < rightN cs; omega)
    unfold cutB at h2
    rw [List.take_of_length_le (by omega)] at h2
    cases hs : sizesF cs with
    | some ns => exact ⟨ns, rfl⟩
    | none => rw [hs] at h2; cases h2
theorem bad_none {cs : List Col} (h : wrongF cs = cs.length) {k : Nat} (hk : k < cs.length) : colBad (cs.getD k nilCol) = false := by
  have h1 := wrong_le cs
  exact (firstF_at (badAt cs) (rightN cs)).2.1 k (by show k < wrongF cs; omega)
theorem whole_ok {n : Ne} (h : wholeF n = 0) : longB n = false ∧ endsB n = false ∧ n.frm ≠ n.too := by
  have hh := firstNZ_eq h
  have a := errB_zero (by omega) (hh _ (List.mem_cons_self))
  have b := errB_zero (by omega) (hh _ (List.mem_cons_of_mem _ (List.mem_cons_self)))
  have c := errB_zero (by omega) (hh _ (List.mem_cons_of_mem _ (List.mem_cons_of_mem _ (List.mem_cons_self))))
  exact ⟨a, b, by simpa using c⟩
theorem whole_len {n : Ne} (h : wholeF n = 0) : 2 ≤ n.places.length ∧ n.places.length ≤ 64 ∧ n.tasks.length ≤ 64 := by
  obtain ⟨a, b, c⟩ := whole_ok h
  unfold longB at a
  unfold endsB at b
  simp only [Bool.or_eq_false_iff, decide_eq_false_iff_not, Bool.not_eq_false'] at a b
  obtain ⟨k, hk, hk'⟩ := inB_yes b.1
  obtain ⟨j, hj, hj'⟩ := inB_yes b.2
  omega
theorem named_ok {i : Nat} {nm : Nat → ByteArray} (h : namedF i nm = 0) : freeB (nm i) = true ∧ ∀ j, j < i → eqS (nm j) (nm i) = false := by
  have hh := firstNZ_eq h
  have a := errB_zero (by omega) (hh _ (List.mem_cons_self))
  have b := errB_zero (by omega) (hh _ (List.mem_cons_of_mem _ (List.mem_cons_self)))
  exact ⟨by simpa using a, twiceB_all b⟩
theorem place_ok {n : Ne} {k : Nat} (h : placeF n k = 0) : freeB (placeNm n k) = true ∧ ∀ j, j < k → eqS (placeNm n j) (placeNm n k) = false :=
  named_ok (firstNZ_eq h _ (List.mem_cons_self))
theorem getD_in {l : List Int} {j : Nat} (hj : j < l.length) (d : Int) : l.getD j d ∈ l := by
  rw [List.getD_eq_getElem?_getD, List.getElem?_eq_getElem hj]
  exact List.getElem_mem hj
theorem task_at {n : Ne} {k : Nat} (h : taskF n k = 0) (j : Nat) (hj : j < 11) : (taskL n k (n.tasks.getD k nilTa)).getD j 0 = 0 := by
  exact firstNZ_eq h _ (getD_in (show j < (taskL n k (n.tasks.getD k nilTa)).length from hj) 0)
theorem task_named {n : Ne} {k : Nat} (h : taskF n k = 0) : freeB (taskNm n k) = true ∧ ∀ j, j < k → eqS (taskNm n j) (taskNm n k) = false := named_ok (task_at h 0 (by omega))
theorem task_var {n : Ne} {k : Nat} (h : taskF n k = 0) {i : Nat} (hi : i < (n.tasks.getD k nilTa).vars.length) : varF n (n.tasks.getD k nilTa).vars i = 0 := eachF_all (task_at h 2 (by omega)) i hi
theorem task_binds {n : Ne} {k : Nat} (h : taskF n k = 0) : bindsF n.cols (n.tasks.getD k nilTa).vars ≤ 1024 := by
  have := errB_zero (by omega) (task_at h 3 (by omega))
  simpa using this
theorem task_right {n : Ne} {k : Nat} (h : taskF n k = 0) : Expr.rightB (n.tasks.getD k nilTa).vars.length (n.tasks.getD k nilTa).guard = true := by
  have := errB_zero (by omega) (task_at h 4 (by omega))
  simpa using this
theorem task_none {n : Ne} {k : Nat} (h : taskF n k = 0) : 0 < (n.tasks.getD k nilTa).ins.length ∧ 0 < (n.tasks.getD k nilTa).outs.length := by
  have := errB_zero (by omega) (task_at h 5 (by omega))
  unfold noneB at this
  simp only [Bool.or_eq_false_iff, decide_eq_false_iff_not] at this
  omega
theorem var_ok {n : Ne} {l : List Va} {i : Nat} (h : varF n l i = 0) : (∀ j, j < i → eqS (l.getD j nilVa).name (l.getD i nilVa).name = false) ∧ inB (l.getD i nilVa).colour n.cols.length = true := by
  have hh := firstNZ_eq h
  refine ⟨(named_ok (hh _ (List.mem_cons_self))).2, ?_⟩
  have := errB_zero (by omega) (hh _ (List.mem_cons_of_mem _ (List.mem_cons_self)))
  simpa using this
theorem goB_pos {cs : List Col} {ns : List Int} (hs : sizesF cs = some ns) : ∀ (l : List Va) (ways : Int), 1 ≤ ways → (∀ v, v ∈ l → inB v.colour cs.length = true) → 1 ≤ goB cs l ways
  | [], ways, hw, _ => hw
  | v :: r, ways, hw, h => by
    unfold goB
    have hv := h v List.mem_cons_self
    rw [if_pos hv]
    obtain ⟨k, hk, hkl⟩ := inB_yes hv
    obtain ⟨_, hl, ha⟩ := sizesF_out hs
    have hsz : 1 ≤ Colour.sizeF cs v.colour := by
      rw [hk, sizeF_in hs (by omega)]
      exact (ha k hkl).2.1
    refine goB_pos hs r _ ?_ (fun x hx => h x (List.mem_cons_of_mem _ hx))
    have : 1 * 1 ≤ ways * Colour.sizeF cs v.colour := Int.mul_le_mul hw hsz (by omega) (by omega)
    omega
theorem binds_pos {n : Ne} (h : OkN n) {k : Nat} (hk : k < n.tasks.length) : 1 ≤ bindsF n.cols (n.tasks.getD k nilTa).vars := by
  obtain ⟨ns, hs⟩ := right_of_wrong h.2.1
  refine goB_pos hs _ 1 (by omega) fun v hv => ?_
  obtain ⟨i, hi, rfl⟩ := mem_getD hv nilVa
  exact (var_ok (task_var (h.2.2.2 k hk) hi)).2
theorem placeT_ok {n : Ne} (h : OkN n) {k : Nat} (hk : k < n.places.length) : placeT n (k : Int) = 0 := by
  unfold placeT
  rw [if_pos (inB_nat hk), Int.toNat_natCast]
  exact h.2.2.1 k hk
theorem taskT_ok {n : Ne} (h : OkN n) {k : Nat} (hk : k < n.tasks.length) : taskT n (k : Int) = 0 := by
  unfold taskT
  rw [if_pos (inB_nat hk), if_neg (by rw [h.2.1]; omega), Int.toNat_natCast]
  exact h.2.2.2 k hk
/-- what is told of a net that is not well formed -/
theorem net_bad {n : Ne} {kd at_ er : Int} (h : NetIs n kd at_ er) (he : er ≠ 0) : kd = 1 ∨ (kd = 2 ∧ er = 8) ∨ (kd = 3 ∧ placeT n at_ = er) ∨ (kd = 4 ∧ taskT n at_ = er) := by
  rcases h with ⟨_, _, h, _⟩ | ⟨i, k, hi, hk, h1, h2, h3, h4, h5, h6⟩
  · exact absurd h he
  · match i, hi with
    | 0, _ => exact .inl (by omega)
    | 1, _ =>
      refine .inr (.inl ⟨by omega, ?_⟩)
      have : er = errB (decide (k = wrongF n.cols)) 8 := h3
      unfold errB at this
      split at this <;> omega
    | 2, _ =>
      refine .inr (.inr (.inl ⟨by omega, ?_⟩))
      have hk : k < n.places.length := hk
      unfold placeT
      rw [h2, if_pos (inB_nat hk), Int.toNat_natCast]
      exact h3.symm
    | 3, _ =>
      refine .inr (.inr (.inr ⟨by omega, ?_⟩))
      have hw : wrongF n.cols = n.cols.length := wrong_all fun j hj => h6 1 (by omega) j hj
      have hk : k < n.tasks.length := hk
      unfold taskT
      rw [h2, if_pos (inB_nat hk), if_neg (by rw [hw]; omega), Int.toNat_natCast]
      exact h3.symm
/-- what stands while a law goes on: the net in its box -/
def La (w W : World) (q : Nat) (n : Ne) : Prop := Below w.heap.size w W ∧ NBox W q n ∧ NeOk W n
theorem La.on {w W W' : World} {q : Nat} {n : Ne} (h : La w W q n) (hb : Below W.heap.size W W') : La w W' q n := ⟨then_ h.1 hb, h.2.1.below hb, h.2.2.below hb⟩
end Go.Proofs.YtgdkomkflfodaaaGreat.Check
