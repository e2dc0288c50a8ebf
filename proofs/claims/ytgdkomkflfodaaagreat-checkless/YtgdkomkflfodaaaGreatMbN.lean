/- Contracts and plain mathematics, together: ChkLeP, ChkLeM. -/
import Derived.Test.YtgdkomkflfodaaaGreatMbK
import Derived.Maps.AppendAt
/- A net without one of its tasks: in plain Lean, and as it lies in memory. -/
namespace Go.Proofs.YtgdkomkflfodaaaGreat.Check
open Go.Proofs.YtgdkomkflfodaaaGreat.Dag Go.RowKit Go.Proofs.YtgdkomkflfodaaaGreat.Frame Go.Proofs.YtgdkomkflfodaaaGreat.Colour Go.Proofs.YtgdkomkflfodaaaGreat.Expr
set_option linter.unusedVariables false
set_option linter.unusedSimpArgs false

/-- the tasks but one -/
def cutT (l : List Ta) (k : Nat) : List Ta := l.take k ++ l.drop (k + 1)
def lessN (n : Ne) (k : Nat) (a : Option Addr) (c : Nat) : Ne := { n with tasks := cutT n.tasks k, ta := a, tc := c }
def old (k j : Nat) : Nat := if j < k then j else j + 1
theorem cutT_len {l : List Ta} {k : Nat} (hk : k < l.length) : (cutT l k).length + 1 = l.length := by
  unfold cutT
  rw [List.length_append, List.length_take, List.length_drop]
  omega
theorem cutT_at {l : List Ta} {k : Nat} (hk : k < l.length) (j : Nat) : (cutT l k).getD j nilTa = l.getD (old k j) nilTa := by
  unfold cutT old
  rw [List.getD_eq_getElem?_getD, List.getD_eq_getElem?_getD]
  have ht : (l.take k).length = k := by rw [List.length_take]; omega
  split
  · rename_i h
    rw [List.getElem?_append_left (by omega), List.getElem?_take_of_lt h]
  · rename_i h
    rw [List.getElem?_append_right (by omega), List.getElem?_drop, ht]
    congr 2
    omega
theorem old_lt {l k j : Nat} (hk : k < l) (hj : j + 1 < l) : old k j < l := by unfold old; split <;> omega
theorem old_mono {k i j : Nat} (h : i < j) : old k i < old k j := by unfold old; split <;> split <;> omega
section
variable {n : Ne} {k : Nat} {a : Option Addr} {c : Nat}
theorem less_len (hk : k < n.tasks.length) : (lessN n k a c).tasks.length + 1 = n.tasks.length := cutT_len hk
theorem less_at (hk : k < n.tasks.length) (j : Nat) : (lessN n k a c).tasks.getD j nilTa = n.tasks.getD (old k j) nilTa := cutT_at hk j
theorem less_task (hk : k < n.tasks.length) (h : OkN n) {j : Nat} (hj : j < (lessN n k a c).tasks.length) : taskF (lessN n k a c) j = 0 := by
  have hl := less_len (a := a) (c := c) hk
  have ho := h.2.2.2 (old k j) (old_lt hk (by omega))
  obtain ⟨hf, hd⟩ := task_named ho
  unfold taskF
  rw [less_at hk]
  refine firstNZ_none fun i hi => ?_
  have e : ∀ j, taskNm (lessN n k a c) j = taskNm n (old k j) := fun j => by unfold taskNm; rw [less_at hk]
  match i, hi with
  | 0, _ =>
    show namedF j (taskNm (lessN n k a c)) = 0
    unfold namedF
    rw [e, hf, twiceB_no (fun i hi => by rw [e, e]; exact hd _ (old_mono hi))]
    rfl
  | i + 1, hi =>
    have := task_at ho (i + 1) hi
    exact this
theorem less_ok (hk : k < n.tasks.length) (h : OkN n) : OkN (lessN n k a c) := by
  have hl := less_len (a := a) (c := c) hk
  refine ⟨?_, h.2.1, h.2.2.1, fun j hj => less_task hk h hj⟩
  obtain ⟨h1, h2, h3⟩ := whole_ok h.1
  unfold longB at h1
  simp only [Bool.or_eq_false_iff, decide_eq_false_iff_not] at h1
  have e1 : longB (lessN n k a c) = false := by
    unfold longB
    simp only [Bool.or_eq_false_iff, decide_eq_false_iff_not]
    refine ⟨h1.1, ?_⟩
    have := h1.2
    omega
  have e2 : endsB (lessN n k a c) = false := h2
  have e3 : ((lessN n k a c).frm == (lessN n k a c).too) = false := beq_eq_false_iff_ne.2 h3
  unfold wholeF
  rw [e1, e2, e3]
  rfl
theorem okN_net {kd at_ er : Int} (h : OkN n) (hn : NetIs n kd at_ er) : er = 0 := by
  rcases hn with ⟨_, _, h, _⟩ | ⟨i, k, hi, hk, h1, h2, h3, h4, h5, h6⟩
  · exact h
  · refine absurd ?_ h4
    rw [h3]
    match i, hi with
    | 0, _ => exact h.1
    | 1, _ =>
      have hk : k < n.cols.length := hk
      show colF (wrongF n.cols) k = 0
      unfold colF errB
      rw [h.2.1, if_neg (by simp; omega)]
    | 2, _ => exact h.2.2.1 k hk
    | 3, _ => exact h.2.2.2 k hk
theorem less_clo (hk : k < n.tasks.length) {S : Nat → Prop} (h : Clo n S) : Clo (lessN n k a c) S := by
  have hl := less_len (a := a) (c := c) hk
  refine ⟨h.1, fun t ht p hp hi hs j hj ho => ?_⟩
  unfold TI at hi
  unfold TO at ho
  rw [less_at hk] at hi ho
  exact h.2 (old k t) (old_lt hk (by omega)) p hp hi hs j hj ho
theorem less_rp (hk : k < n.tasks.length) {p : Nat} (h : Rp (lessN n k a c) p) : Rp n p := fun S hS => h S (less_clo hk hS)
theorem less_rt (hk : k < n.tasks.length) {t : Nat} (h : Rt (lessN n k a c) t) : Rt n (old k t) := by
  obtain ⟨p, hp, hr, hi⟩ := h
  unfold TI at hi
  rw [less_at hk] at hi
  exact ⟨p, hp, less_rp hk hr, hi⟩
end
/-- how many numbers below n there are at which f holds -/
theorem true_succ (f : Nat → Bool) (n : Nat) : (trueL (n + 1) f).length = (trueL n f).length + if f n = true then 1 else 0 := by
  cases h : f n with
  | true => rw [trueL_yes h]; simp
  | false => rw [trueL_no h]; simp
theorem true_mono {f g : Nat → Bool} : ∀ n, (∀ k, k < n → f k = true → g k = true) → (trueL n f).length ≤ (trueL n g).length
  | 0, _ => Nat.le_refl _
  | n + 1, h => by
    have := true_mono (f := f) (g := g) n (fun k hk => h k (by omega))
    rw [true_succ, true_succ]
    have hn := h n (by omega)
    split
    · rename_i hf; rw [if_pos (hn hf)]; omega
    · omega
theorem true_less {f g : Nat → Bool} {k : Nat} : ∀ n, (∀ j, j < n → f j = true → g (old k j) = true) → (trueL n f).length ≤ (trueL (n + 1) g).length
  | 0, _ => Nat.zero_le _
  | n + 1, h => by
    rcases Nat.lt_or_ge n k with hn | hn
    · have h1 := true_mono (f := f) (g := g) (n + 1) (fun j hj hf => by
        have := h j hj hf
        unfold old at this
        rw [if_pos (by omega)] at this
        exact this)
      rw [true_succ g (n + 1)]
      omega
    · have := true_less (k := k) (f := f) (g := g) n (fun j hj => h j (by omega))
      rw [true_succ f n, true_succ g (n + 1)]
      have hn' := h n (by omega)
      unfold old at hn'
      rw [if_neg (by omega)] at hn'
      split
      · rename_i hf; rw [if_pos (hn' hf)]; omega
      · omega
/-- no more can be come to -/
def NoMore (n : Ne) (k : Nat) (P T P' T' : Nat → Bool) : Prop := (trueL n.places.length P').length ≤ (trueL n.places.length P).length ∧ (trueL (n.tasks.length - 1) T').length ≤ (trueL n.tasks.length T).length ∧ ∀ z, z ∈ trueL n.places.length P' → z ∈ trueL n.places.length P
theorem no_more {n : Ne} {k : Nat} {a : Option Addr} {c : Nat} (hk : k < n.tasks.length) {P T P' T' : Nat → Bool} (h : Told n P T) (h' : Told (lessN n k a c) P' T') : NoMore n k P T P' T' := by
  have hl := less_len (a := a) (c := c) hk
  have hp : ∀ j, j < n.places.length → P' j = true → P j = true := fun j hj hj' => (h.1 j hj).2 (less_rp hk ((h'.1 j hj).1 hj'))
  refine ⟨true_mono _ hp, ?_, fun z hz => ?_⟩
  · have e : n.tasks.length = (n.tasks.length - 1) + 1 := by omega
    have := true_less (f := T') (g := T) (k := k) (n.tasks.length - 1) (fun j hj hj' => (h.2 (old k j) (old_lt hk (by omega))).2 (less_rt hk ((h'.2 j (by omega)).1 hj')))
    rw [← e] at this
    exact this
  · obtain ⟨j, rfl, hj, hj'⟩ := trueL_mem.1 hz
    exact trueL_mem.2 ⟨j, rfl, hj, hp j hj hj'⟩
theorem less_few {n : Ne} {k : Nat} {a : Option Addr} {c : Nat} (hk : k < n.tasks.length) (h : FewN n) : FewN (lessN n k a c) := by
  have hl := less_len (a := a) (c := c) hk
  refine ⟨⟨h.1.1, h.1.2.1, by have := h.1.2.2; omega⟩, h.2.1, h.2.2.1, fun j hj => ?_⟩
  rw [less_at hk]
  exact h.2.2.2 _ (old_lt hk (by omega))
theorem few_ins {n : Ne} (h : FewN n) : ∀ m, m ≤ n.tasks.length → sumIns n m ≤ m * 200
  | 0, _ => Nat.le_refl _
  | m + 1, hm => by
    have h1 := few_ins h m (by omega)
    have h2 := (h.2.2.2 m (by omega)).1.2.1
    show sumIns n m + (n.tasks.getD m nilTa).ins.length ≤ _
    omega
theorem few_sum {n : Ne} (h : FewN n) : sumIns n n.tasks.length ≤ 1000000 := by
  have h1 := few_ins h n.tasks.length (Nat.le_refl _)
  have h2 := h.1.2.2
  omega
/-- cells of tasks, one behind the other -/
def flatT (l : List Ta) : List Value := l.flatMap Ta.cells
theorem flatT_len (l : List Ta) : (flatT l).length = l.length * 14 := by
  unfold flatT
  induction l with
  | nil => rfl
  | cons t r ih => rw [List.flatMap_cons, List.length_append, ih, List.length_cons]; show 14 + _ = _; omega
theorem flatT_at : ∀ (l : List Ta) (i j : Nat), i < l.length → j < 14 → (flatT l)[i * 14 + j]? = (l.getD i nilTa).cells[j]?
  | [], i, j, hi, _ => absurd hi (Nat.not_lt_zero _)
  | t :: r, 0, j, _, hj => by
    unfold flatT
    rw [List.flatMap_cons, List.getElem?_append_left (by show _ < 14; omega)]
    simp
  | t :: r, i + 1, j, hi, hj => by
    unfold flatT
    have h14 : t.cells.length = 14 := rfl
    rw [List.flatMap_cons, List.getElem?_append_right (by omega)]
    have := flatT_at r i j (by simpa using hi) hj
    unfold flatT at this
    rw [show (i + 1) * 14 + j - t.cells.length = i * 14 + j by omega, this]
    simp
theorem flatT_append (l r : List Ta) : flatT (l ++ r) = flatT l ++ flatT r := by unfold flatT; rw [List.flatMap_append]
theorem flatT_one (l : List Ta) : ∀ u, u ∈ flatT l → u.oneCell' = true := fun u hu => by
  unfold flatT at hu
  obtain ⟨t, _, ht⟩ := List.mem_flatMap.1 hu
  simp only [Ta.cells, List.mem_cons, List.not_mem_nil, or_false] at ht
  rcases ht with rfl | rfl | rfl | rfl | rfl | rfl | rfl | rfl | rfl | rfl | rfl | rfl | rfl | rfl <;> rfl
/-- tasks that lie in memory, as cells -/
theorem flatT_lies {w : World} {b off : Nat} {l : List Ta} (h : ∀ i, i < l.length → Run w b (off + i * 14) (l.getD i nilTa).cells) : ∀ j u, (flatT l)[j]? = some u → w.cell? ⟨b, off + j, none⟩ = some u := fun j u hu => by
  have hj : j < l.length * 14 := by rw [← flatT_len]; exact (List.getElem?_eq_some_iff.1 hu).1
  have e : j = j / 14 * 14 + j % 14 := by omega
  have hi : j / 14 < l.length := by omega
  have h2 : j % 14 < 14 := by omega
  rw [e, flatT_at l _ _ hi h2] at hu
  have := h _ hi _ u hu
  rw [Nat.add_assoc] at this
  rw [e]
  exact this
end Go.Proofs.YtgdkomkflfodaaaGreat.Check
/- Appends of tasks: over the turned program. -/
namespace Go.Proofs.YtgdkomkflfodaaaGreat.Check
open Go.Proofs.YtgdkomkflfodaaaGreat.Dag Go.RowKit Go.Proofs.YtgdkomkflfodaaaGreat.Frame Go.Proofs.YtgdkomkflfodaaaGreat.Colour Go.Proofs.YtgdkomkflfodaaaGreat.Expr
set_option linter.unusedVariables false
set_option linter.unusedSimpArgs false

theorem infoTask0 : ((Tryz.prog.info? 53).bind fun i => i.zero.map fun z => (i.size, z.cells.size, decide (i.bytes ≤ 1000))) = some (14, 14, true) := by kernel_rfl
theorem infoTask : ∃ i z, Tryz.prog.info? 53 = some i ∧ i.zero = some z ∧ i.size = 14 ∧ z.cells.size = 14 ∧ i.bytes ≤ 1000 := by
  have h := infoTask0
  cases hi : Tryz.prog.info? 53 with
  | none => rw [hi] at h; cases h
  | some i =>
    rw [hi] at h
    cases hz : i.zero with
    | none => simp [hz] at h
    | some z =>
      simp [hz] at h
      exact ⟨i, z, rfl, hz, h.1, h.2.1, h.2.2⟩
/-- an append of tasks, as a step of a region that draws -/
theorem step_tasks {ops : Array Oper} {o : Oper} {ac : Act} {Q : Exit → Act → World → Prop} {K : Act → World → Prop} {W : World} {B : Nat} {v : Value} {n m N c : Nat} {xs news : List Value} {q : Addr} (hgd : o.guard = none) (s y : Operand)
    (ho : o.op = .call { callee := .builtin .append, args := #[s, y], argTypes := #[24, 24] }) (hs : ac.eval s = v) (hx : ac.eval y = .slice (some q) m c)
    (hown : W.ownsRow B 53 14 v n xs) (hB : B ≤ W.heap.size) (hl : news.length = m * 14) (hnews : ∀ j u, news[j]? = some u → W.cell? (q.add j) = some u) (h1 : ∀ u ∈ news, u.oneCell' = true) (hn : n + m ≤ 100000) (hN : n + m = N)
    (h : ∀ a' c' w', w'.ownsRow B 53 14 (.slice a' N c') N (xs ++ news) → W.grownBy w' v.ownBlock → K (ac.put o.dst (.slice a' N c')) w') :
    if Region.wanted o (yielded ops ac.tmps) = true then Oper.wp Tryz.prog o ac W K Q else K (ac.put o.dst undef) W := by
  rw [if_pos (by simp [Region.wanted, hgd])]
  obtain ⟨i, z, hi, hz, hsz, hzs, hby⟩ := infoTask
  have hbytes : (n + m) * i.bytes ≤ 140737488355328 := Nat.le_trans (Nat.mul_le_mul hn hby) (by decide)
  obtain ⟨v', w', hr, h2, h3, h4, h5⟩ := run_append_own_at (P := Tryz.prog) W B 24 o.type 53 i z 14 i.bytes Tryz.underlying24 hi hz hsz rfl hzs (by decide) v n xs hown q m c news hl hnews h1 (by unfold maxLen; omega) hbytes hB
  obtain ⟨a', c', rfl⟩ := own_slice h2
  unfold Oper.wp execOp
  simp only [ho, resolve, invoke, builtin, Sem.run_bind, Sem.run_pure, Result.andThen_ok, List.map_toArray, List.map_cons, List.map_nil, hs, hx, hr]
  subst hN
  exact h a' c' w' h2 h3
/-- an empty row that was made -/
theorem own_empty (W : World) : (W.alloc (.cells #[] 53)).ownsRow W.heap.size 53 14 (.slice (some ⟨W.heap.size, 0, none⟩) 0 0) 0 (flatT []) :=
  ⟨rfl, .inr ⟨W.heap.size, 0, #[], rfl, Nat.le_refl _, by unfold World.alloc; simp, Nat.le_refl _, Nat.zero_le _, rfl, rfl⟩⟩
/-- tasks that the call made, in memory -/
theorem own_runs {w : World} {B : Nat} {a : Option Addr} {c : Nat} {l : List Ta} (h : w.ownsRow B 53 14 (.slice a l.length c) l.length (flatT l)) : l.length = 0 ∨ ∃ g, a = some ⟨g, 0, none⟩ ∧ B ≤ g ∧ ∀ i, i < l.length → Run w g (0 + i * 14) (l.getD i nilTa).cells := by
  have h' := h
  rcases h.2 with ⟨_, h0⟩ | ⟨g, cap, cur, hv, hg, hc, hle, hcm, hcs, ht⟩
  · exact .inl h0
  · right
    simp only [Value.slice.injEq, true_and] at hv
    obtain ⟨rfl, rfl⟩ := hv
    refine ⟨g, rfl, hg, fun i hi j v hv => ?_⟩
    have hj : j < 14 := (List.getElem?_eq_some_iff.1 hv).1
    have hlt : i * 14 + j < l.length * 14 := by omega
    have := h'.cellAt (i * 14 + j) hlt
    rw [flatT_at l i j hi hj, hv] at this
    rw [Nat.zero_add]
    exact this
theorem own_le {w : World} {B : Nat} {a : Option Addr} {c : Nat} {l : List Ta} (h : w.ownsRow B 53 14 (.slice a l.length c) l.length (flatT l)) : l.length ≤ c := by
  rcases h.2 with ⟨hv, h0⟩ | ⟨g, cap, cur, hv, hg, hc, hle, hcm, hcs, ht⟩
  · omega
  · simp only [Value.slice.injEq, true_and] at hv
    omega
/-- where the tasks behind one begin -/
def behind (off k tc : Nat) : Nat := if tc = k + 1 then off else off + (k + 1) * 14
theorem slice_behind (b off len tc k : Nat) (hk : k < len) (hc : len ≤ tc) (W : World) : Sem.run Tryz.prog (Instr.slice 24 (.slice (some ⟨b, off, none⟩) len tc) (some (.int .i64 ((k : Int) + 1))) none none) W = .ok (.slice (some ⟨b, behind off k tc, none⟩) (len - (k + 1)) (tc - (k + 1))) W := by
  have h1 : (0 : Int) ≤ (k : Int) + 1 := by omega
  have h2 : (k : Int) + 1 ≤ len := by omega
  have h3 : ((k : Int) + 1).toNat = k + 1 := by omega
  unfold behind
  split <;> simp_all [Instr.slice, Instr.sliceBounds, Instr.sliceBound, asIntOf, Tryz.underlying24, Tryz.sizeOf53, go_sem, Addr.add]
theorem setCell_ne {W : World} {p r : Addr} {v : Value} (h : p ≠ r) : (W.setCell p v).cell? r = W.cell? r := World.cell?_setCell_other _ _ _ _ h
theorem cut_len' {l : List Ta} {k : Nat} (hk : k < l.length) : (cutT l k).length = k + (l.length - (k + 1)) := by
  have := cutT_len hk
  omega
/-- the box of the other net, written into -/
theorem less_fin {n : Ne} {k r B c2 : Nat} {w4 w9 : World} {a2 : Option Addr} (hn : NeOk w4 n) (hk : k < n.tasks.length) (hB : r < B) (hr : w4.heap.size ≤ r) (hb : Below w4.heap.size w4 w9)
    (hq : w9.rowIs r 26 5 (fun j => (netC n).getD j undef))
    (hown : w9.ownsRow B 53 14 (.slice a2 (k + (n.tasks.length - (k + 1))) c2) (k + (n.tasks.length - (k + 1))) (flatT [] ++ flatT (n.tasks.take k) ++ flatT (n.tasks.drop (k + 1)))) :
    NBox (w9.setCell ⟨r, 2, none⟩ (.slice a2 (k + (n.tasks.length - (k + 1))) c2)) r (lessN n k a2 c2) ∧ NeOk (w9.setCell ⟨r, 2, none⟩ (.slice a2 (k + (n.tasks.length - (k + 1))) c2)) (lessN n k a2 c2) ∧ Below w4.heap.size w4 (w9.setCell ⟨r, 2, none⟩ (.slice a2 (k + (n.tasks.length - (k + 1))) c2)) := by
  have hlen : (lessN n k a2 c2).tasks.length = k + (n.tasks.length - (k + 1)) := cut_len' hk
  have hfl : flatT [] ++ flatT (n.tasks.take k) ++ flatT (n.tasks.drop (k + 1)) = flatT (lessN n k a2 c2).tasks := by
    show _ = flatT (n.tasks.take k ++ n.tasks.drop (k + 1))
    rw [flatT_append]
    rfl
  rw [hfl, ← hlen] at hown
  rw [← hlen]
  have hb' : Below w4.heap.size w4 (w9.setCell ⟨r, 2, none⟩ (.slice a2 (lessN n k a2 c2).tasks.length c2)) := hb.setCell (p := ⟨r, 2, none⟩) hr _
  have hrow : (w9.setCell ⟨r, 2, none⟩ (.slice a2 (lessN n k a2 c2).tasks.length c2)).rowIs r 26 5 (fun j => (netC (lessN n k a2 c2)).getD j undef) := by
    refine (hq.set 2 _).congr fun j hj => ?_
    match j, hj with
    | 0, _ => rfl
    | 1, _ => rfl
    | 2, _ => rfl
    | 3, _ => rfl
    | 4, _ => rfl
    | j + 5, hj => omega
  have hn' := hn.below hb'
  refine ⟨⟨hrow.cell (i := 0) (by decide), hrow.cell (i := 1) (by decide), hrow.cell (i := 2) (by decide), hrow.cell (i := 3) (by decide), hrow.cell (i := 4) (by decide)⟩, ⟨⟨hn'.1.1, hn'.1.2.1, own_le hown⟩, hn'.2.1, hn'.2.2.1, ?_⟩, hb'⟩
  rcases own_runs hown with h0 | ⟨g, hg, hBg, hr'⟩
  · exact .inl h0
  · refine .inr ⟨g, 0, hg, fun i hi => ⟨fun j v hv => ?_, ?_⟩⟩
    · rw [setCell_ne (by intro e; simp only [Addr.mk.injEq] at e; omega)]
      exact hr' i hi j v hv
    · have hi' : i < (lessN n k a2 c2).tasks.length := hi
      rw [less_at hk]
      obtain ⟨_, _, _, _, ho⟩ := hn'.2.2.2.at (old_lt (k := k) (j := i) hk (by have := less_len (n := n) (a := a2) (c := c2) hk; omega))
      exact ho
/-- the tasks ahead of one, and those behind it, as they lie -/
theorem ahead_lies {W : World} {b off k : Nat} {l : List Ta} (hk : k < l.length) (h : ∀ i, i < l.length → Run W b (off + i * 14) (l.getD i nilTa).cells) : ∀ j u, (flatT (l.take k))[j]? = some u → W.cell? ((⟨b, off, none⟩ : Addr).add j) = some u := fun j u hu => by
  rw [Go.WideShapes.add_plain]
  refine flatT_lies (l := l.take k) (fun i hi => ?_) j u hu
  rw [List.length_take] at hi
  rw [List.getD_eq_getElem?_getD, List.getElem?_take_of_lt (by omega), ← List.getD_eq_getElem?_getD]
  exact h i (by omega)
theorem behind_lies {W : World} {b off k tc : Nat} {l : List Ta} (hk : k < l.length) (hc : l.length ≤ tc) (h : ∀ i, i < l.length → Run W b (off + i * 14) (l.getD i nilTa).cells) : ∀ j u, (flatT (l.drop (k + 1)))[j]? = some u → W.cell? ((⟨b, behind off k tc, none⟩ : Addr).add j) = some u := fun j u hu => by
  rw [Go.WideShapes.add_plain]
  refine flatT_lies (l := l.drop (k + 1)) (fun i hi => ?_) j u hu
  rw [List.length_drop] at hi
  have e : (l.drop (k + 1)).getD i nilTa = l.getD (k + 1 + i) nilTa := by
    rw [List.getD_eq_getElem?_getD, List.getElem?_drop, ← List.getD_eq_getElem?_getD]
  rw [e]
  have := h (k + 1 + i) (by omega)
  unfold behind
  rw [if_neg (by omega)]
  have e2 : off + (k + 1) * 14 + i * 14 = off + (k + 1 + i) * 14 := by omega
  rw [e2]
  exact this
end Go.Proofs.YtgdkomkflfodaaaGreat.Check
