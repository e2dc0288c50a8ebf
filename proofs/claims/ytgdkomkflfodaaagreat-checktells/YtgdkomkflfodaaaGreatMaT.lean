/- Contracts and plain mathematics, together: ChkBin, ChkTas. -/
import Derived.Test.YtgdkomkflfodaaaGreatMaP
import Derived.ChangeKeysEq
/- In how many ways variables have members, and how many instances a task may have: contracts of the calls, over the turned program. -/
namespace Go.Proofs.YtgdkomkflfodaaaGreat.Check
open Go.RowKit Go.Proofs.YtgdkomkflfodaaaGreat.Frame Go.Proofs.YtgdkomkflfodaaaGreat.Colour Go.Proofs.YtgdkomkflfodaaaGreat.Expr
set_option linter.unusedVariables false
set_option linter.unusedSimpArgs false

theorem sizeF_le (cs : List Col) (k : Int) : 0 ≤ Colour.sizeF cs k ∧ Colour.sizeF cs k ≤ 1024 := by
  unfold Colour.sizeF
  cases h : sizesF cs with
  | none => exact ⟨Int.le_refl 0, (by decide : (0 : Int) ≤ 1024)⟩
  | some ns =>
    obtain ⟨_, hl, ha⟩ := sizesF_out h
    dsimp only
    split
    · rename_i hw
      have hw := of_decide_eq_true (show decide _ = true from hw)
      have := ha k.toNat (by omega)
      omega
    · exact ⟨Int.le_refl 0, (by decide : (0 : Int) ≤ 1024)⟩
def goB (cs : List Col) : List Va → Int → Int
  | [], ways => ways
  | v :: r, ways => if inB v.colour cs.length then goB cs r (min (ways * Colour.sizeF cs v.colour) 1025) else 0
def bindsF (cs : List Col) (l : List Va) : Int := goB cs l 1
theorem drop_va (l : List Va) (k : Nat) (h : k < l.length) : l.drop k = l.getD k nilVa :: l.drop (k + 1) := by
  rw [List.drop_eq_getElem_cons h, List.getD_eq_getElem?_getD, List.getElem?_eq_getElem h]; rfl

set_option maxHeartbeats 1000000 in
theorem binds_any (n : Ne) (g cp : Nat) (a : Option Addr) (l : List Va) (w : World) (h : Su w n g) (hs : Vas w a l) (hm : l.length ≤ 1000000) :
    Calls Tryz.prog 59 #[.agg (subC n g), .slice a l.length cp] w fun e w' => e = .returned (.int .i64 (bindsF n.cols l)) ∧ Below w.heap.size w w' := by
  have H0 : Hid (Su w n g ∧ Vas w a l) := ⟨h, hs⟩
  have IC : Hid (∀ c W, Calls Tryz.prog 82 #[.agg (subC n g), .int .i64 c] W fun e w' => e = .returned (.bool (inB c n.cols.length)) ∧ Below W.heap.size W w') := fun c W => isColour_any n g c W
  obtain ⟨wz, hwz⟩ : ∃ wz, wz = w.alloc (.cells (subC n g) 67) := ⟨_, rfl⟩
  have HZ : Hid (Below w.heap.size w wz ∧ SBox wz w.heap.size n g) := by rw [hwz]; exact ⟨(Below.refl _ _).alloc (Nat.le_refl _) _, SBox.new w n g _⟩
  clear h hs
  unfold subC at hwz IC ⊢
  go_enter Tryz.func59, Tryz.ntmps59
  go_wp2_with fail
  rw [← hwz]
  go_loopw [10, 5] (fun v u wr => ∃ (i : Nat) (ways : Int), v = .int .i64 (i : Int) ∧ u = .int .i64 ways ∧ i ≤ l.length ∧ (0 ≤ ways ∧ ways ≤ 1025) ∧ Hid (Below wz.heap.size wz wr ∧ goB n.cols (l.drop i) ways = bindsF n.cols l)) (fun v u _ => match v with | .int _ z => l.length - z.toNat | _ => 0)
  case atStart => exact ⟨0, 1, rfl, rfl, by omega, ⟨by decide, by decide⟩, ⟨Below.refl _ _, rfl⟩⟩
  case round =>
    obtain ⟨i, ways, rfl, rfl, hi, hw, HI⟩ := hrel
    by_cases hlt : i < l.length
    · have hlt' : (i : Int) < l.length := by omega
      obtain ⟨b, off, ha, d0, d1⟩ := (H0.out.2.below (then_ HZ.out.1 HI.out.1)).cell hlt
      have hbl : b < wr.heap.size := World.block_lt_of_cell? _ _ d0
      subst ha
      obtain ⟨v, hv⟩ : ∃ v, v = l.getD i nilVa := ⟨_, rfl⟩
      rw [← hv] at d0 d1
      have HV : Hid (goB n.cols (l.drop i) ways = if inB v.colour n.cols.length then goB n.cols (l.drop (i + 1)) (min (ways * Colour.sizeF n.cols v.colour) 1025) else 0) := by
        rw [drop_va l i hlt, ← hv]; rfl
      clear hv
      obtain ⟨c0, c1, c2, c3, c4, c5⟩ := HZ.out.2.below HI.out.1
      have hql : w.heap.size < wr.heap.size := World.block_lt_of_cell? _ _ c0
      go_wp2_with fail
      refine (IC.out _ _).mono ?_
      rintro e w1 ⟨he, hb⟩
      subst he
      have hbb : Below wr.heap.size wr (wr.alloc (.cells #[.string v.name, .int .i64 v.colour] 56)) := (Below.refl _ _).alloc (Nat.le_refl _) _
      have hbx : w1.cell? ⟨wr.heap.size, 1, none⟩ = some (.int .i64 v.colour) := box_below (World.cell?_alloc_at _ _ _ _ rfl) hb
      have B1 : Hid (Below wz.heap.size wz w1) := then_ HI.out.1 (then_ hbb hb)
      clear c0 c1 c2 c3 c4 c5 d0 d1 hbb hb
      obtain ⟨c0, c1, c2, c3, c4, c5⟩ := HZ.out.2.below B1.out
      cases hc : inB v.colour n.cols.length with
      | false =>
        have R : Hid (bindsF n.cols l = 0) := by rw [← HI.out.2, HV.out, hc]; rfl
        go_wp2_with fail
        go_ret
        exact ⟨by rw [R.out]; rfl, then_ HZ.out.1 B1.out⟩
      | true =>
        obtain ⟨c, hcc, hcl⟩ := inB_yes hc
        have hcl' : (c : Int) < n.cols.length := by omega
        have s1 := (H0.out.1.below (then_ HZ.out.1 B1.out)).2.1 c hcl
        have hle := sizeF_le n.cols c
        obtain ⟨sz, hsz⟩ : ∃ sz, sz = Colour.sizeF n.cols c := ⟨_, rfl⟩
        rw [← hsz] at s1 hle
        have NX : Hid (Below wz.heap.size wz w1 ∧ goB n.cols (l.drop (i + 1)) (min (ways * sz) 1025) = bindsF n.cols l) := ⟨B1.out, by rw [← HI.out.2, HV.out, hc, if_pos rfl, hcc, hsz]⟩
        rw [hcc] at hbx
        have hp : 0 ≤ ways * sz ∧ ways * sz ≤ 1025 * 1024 := ⟨Int.mul_nonneg hw.1 hle.1, Int.mul_le_mul hw.2 hle.2 hle.1 (by decide)⟩
        have hwr : IntKind.i64.wrap (ways * sz) = ways * sz := wrap_id (by omega) (by omega)
        clear hsz HV IC hcc
        go_wp2_with fail
        go_roundw
        case rel => exact ⟨i + 1, min (ways * sz) 1025, by simp, by simp, by omega, ⟨by omega, by omega⟩, NX⟩
        case measure => simp; omega
    · have hlt' : ¬ (i : Int) < l.length := by omega
      have R : Hid (bindsF n.cols l = ways) := by rw [← HI.out.2, List.drop_eq_nil_of_le (by omega)]; rfl
      go_wp2_with fail
      go_ret
      exact ⟨by rw [R.out]; rfl, then_ HZ.out.1 HI.out.1⟩

/- instances -/
def severalB (a b c : Int) : Bool := ((a == 0 && b == 0) && c == 0) || (decide (1 ≤ a) && decide (a ≤ b) && decide (b ≤ 16) && decide (1 ≤ c) && decide (c ≤ b))
def eq3 (x c e y d f : Int) : Bool := (x == y && c == d) && e == f
theorem intInfo3 : ∃ i, Tryz.prog.info? 3 = some i := Option.isSome_iff_exists.1 (by kernel_rfl)
theorem intCells3 : Tryz.prog.cellsOf 3 = 1 := by kernel_rfl
theorem eq3_run (x c e y d f : Int) (w : World) : (Op.equalIn 10000 51 (.agg #[.int .i64 x, .int .i64 c, .int .i64 e]) (.agg #[.int .i64 y, .int .i64 d, .int .i64 f])).run Tryz.prog w = .ok (eq3 x c e y d f) w := by
  obtain ⟨i, hi⟩ := intInfo3
  rw [run_equalIn_array w 9999 _ _ Tryz.underlying51 hi, intCells3]
  have p : ∀ (a b z : Int) (j : Nat) (v : Value), (#[.int .i64 a, .int .i64 b, .int .i64 z] : Array Value)[j]? = some v → (part 3 #[.int .i64 a, .int .i64 b, .int .i64 z] j).run Tryz.prog w = .ok v w := fun a b z j v h => by
    simp [part, isAgg, run_underlying Tryz.underlying3, h]
  have q : ∀ a b : Int, (Op.equalIn 9999 3 (.int .i64 a) (.int .i64 b)).run Tryz.prog w = .ok (a == b) w := fun a b => run_equalIn_int w 9998 3 .i64 .i64 a b Tryz.underlying3
  show (Op.eqItems 9999 3 1 _ _ [0, 1, 2]).run Tryz.prog w = _
  have e1 := q x y
  have e2 := q c d
  have e3 := q e f
  have p1 := p x c e 0 (.int .i64 x) rfl
  have p2 := p x c e 1 (.int .i64 c) rfl
  have p5 := p x c e 2 (.int .i64 e) rfl
  have p3 := p y d f 0 (.int .i64 y) rfl
  have p4 := p y d f 1 (.int .i64 d) rfl
  have p6 := p y d f 2 (.int .i64 f) rfl
  clear q p
  unfold eq3
  cases h1 : (x == y) <;> rw [h1] at e1 <;> cases h2 : (c == d) <;> rw [h2] at e2 <;> cases h3 : (e == f) <;> rw [h3] at e3 <;> simp [Op.eqItems, p1, p2, p3, p4, p5, p6, e1, e2, e3]

set_option maxHeartbeats 1000000 in
set_option maxRecDepth 10000 in
theorem several_any (a b c : Int) (w : World) : Calls Tryz.prog 102 #[.agg #[.int .i64 a, .int .i64 b, .int .i64 c]] w fun e w' => e = .returned (.bool (severalB a b c)) ∧ Below w.heap.size w w' := by
  have he := eq3_run a b c 0 0 0
  obtain ⟨wz, hwz⟩ : ∃ wz, wz = w.alloc (.cells #[.int .i64 a, .int .i64 b, .int .i64 c] 51) := ⟨_, rfl⟩
  have hz : Below w.heap.size w wz := by rw [hwz]; exact (Below.refl _ _).alloc (Nat.le_refl _) _
  have k0 : wz.cell? ⟨w.heap.size, 0, none⟩ = some (.int .i64 a) := by rw [hwz]; exact World.cell?_alloc_at _ _ _ _ rfl
  have k1 : wz.cell? ⟨w.heap.size, 1, none⟩ = some (.int .i64 b) := by rw [hwz]; exact World.cell?_alloc_at _ _ _ _ rfl
  have k2 : wz.cell? ⟨w.heap.size, 2, none⟩ = some (.int .i64 c) := by rw [hwz]; exact World.cell?_alloc_at _ _ _ _ rfl
  have HZ : Hid (Below w.heap.size w wz) := hz
  clear hz
  have hR : severalB a b c = (eq3 a b c 0 0 0 || (decide (1 ≤ a) && decide (a ≤ b) && decide (b ≤ 16) && decide (1 ≤ c) && decide (c ≤ b))) := rfl
  cases hq : eq3 a b c 0 0 0 with
  | true =>
    rw [hq] at he hR
    rw [hR]
    clear hR hq
    go_enter Tryz.func102, Tryz.ntmps102
    go_wp2_with fail
    rw [← hwz]
    go_quiet (fail)
    generalize hwq : wz.drewN _ = wq
    have HQ : Hid (Below w.heap.size w wq ∧ wq.cell? ⟨w.heap.size, 0, none⟩ = some (.int .i64 a)) := by rw [← hwq]; exact ⟨below_drewN HZ.out _, k0⟩
    have l0 : wq.cell? ⟨w.heap.size, 0, none⟩ = some (.int .i64 a) := by rw [← hwq]; exact k0
    have l1 : wq.cell? ⟨w.heap.size, 1, none⟩ = some (.int .i64 b) := by rw [← hwq]; exact k1
    have l2 : wq.cell? ⟨w.heap.size, 2, none⟩ = some (.int .i64 c) := by rw [← hwq]; exact k2
    clear hwq hwz k0 k1 k2
    go_wp2_with fail
    go_ret
    exact ⟨rfl, HQ.out.1⟩
  | false =>
    rw [hq] at he hR
    rw [hR]
    clear hR hq
    rw [Bool.false_or]
    generalize ht1 : decide (1 ≤ a) = t1
    generalize ht2 : decide (a ≤ b) = t2
    generalize ht3 : decide (b ≤ 16) = t3
    generalize ht4 : decide (1 ≤ c) = t4
    generalize ht5 : decide (c ≤ b) = t5
    go_enter Tryz.func102, Tryz.ntmps102
    go_wp2_with fail
    rw [← hwz]
    go_quiet (fail)
    generalize hwq : wz.drewN _ = wq
    have HQ : Hid (Below w.heap.size w wq ∧ wq.cell? ⟨w.heap.size, 0, none⟩ = some (.int .i64 a)) := by rw [← hwq]; exact ⟨below_drewN HZ.out _, k0⟩
    have l0 : wq.cell? ⟨w.heap.size, 0, none⟩ = some (.int .i64 a) := by rw [← hwq]; exact k0
    have l1 : wq.cell? ⟨w.heap.size, 1, none⟩ = some (.int .i64 b) := by rw [← hwq]; exact k1
    have l2 : wq.cell? ⟨w.heap.size, 2, none⟩ = some (.int .i64 c) := by rw [← hwq]; exact k2
    clear hwq hwz k0 k1 k2
    cases t1 with
    | false => go_wp2_with fail; go_ret; exact ⟨rfl, HQ.out.1⟩
    | true =>
      cases t2 with
      | false => go_wp2_with fail; go_ret; exact ⟨rfl, HQ.out.1⟩
      | true =>
        cases t3 with
        | false => go_wp2_with fail; go_ret; exact ⟨rfl, HQ.out.1⟩
        | true =>
          cases t4 with
          | false => go_wp2_with fail; go_ret; exact ⟨rfl, HQ.out.1⟩
          | true =>
            cases t5 with
            | false => go_wp2_with fail; go_ret; exact ⟨rfl, HQ.out.1⟩
            | true => go_wp2_with fail; go_ret; exact ⟨rfl, HQ.out.1⟩
end Go.Proofs.YtgdkomkflfodaaaGreat.Check
/- What is asked of a task: contracts of the closures, over the turned program. -/
namespace Go.Proofs.YtgdkomkflfodaaaGreat.Check
open Go.RowKit Go.Proofs.YtgdkomkflfodaaaGreat.Frame Go.Proofs.YtgdkomkflfodaaaGreat.Colour Go.Proofs.YtgdkomkflfodaaaGreat.Expr
set_option linter.unusedVariables false
set_option linter.unusedSimpArgs false

/-- a task in a box -/
def TBox (w : World) (q : Nat) (t : Ta) : Prop := Run w q 0 t.cells
theorem TBox.below {w w' : World} {q : Nat} {t : Ta} (h : TBox w q t) (hb : Below w.heap.size w w') : TBox w' q t := Run.below h hb
theorem TBox.cells {w : World} {q : Nat} {t : Ta} (h : TBox w q t) : w.cell? ⟨q, 0, none⟩ = some (.string t.name) ∧ w.cell? ⟨q, 1, none⟩ = some (.slice t.va t.vars.length t.vc) ∧ w.cell? ⟨q, 2, none⟩ = some (.int .i64 t.guard.kind) ∧ w.cell? ⟨q, 3, none⟩ = some (.int .i64 t.guard.num) ∧ w.cell? ⟨q, 4, none⟩ = some (.slice t.ga t.guard.kids.length t.gc) ∧ w.cell? ⟨q, 5, none⟩ = some (.int .i64 t.join) ∧ w.cell? ⟨q, 6, none⟩ = some (.int .i64 t.split) ∧ w.cell? ⟨q, 7, none⟩ = some (.slice t.ia t.ins.length t.ic) ∧ w.cell? ⟨q, 8, none⟩ = some (.slice t.oa t.outs.length t.oc) ∧ w.cell? ⟨q, 9, none⟩ = some (.slice t.ca t.cancel.length t.cc) ∧ w.cell? ⟨q, 10, none⟩ = some (.int .i64 t.after) ∧ w.cell? ⟨q, 11, none⟩ = some (.int .i64 t.m0) ∧ w.cell? ⟨q, 12, none⟩ = some (.int .i64 t.m1) ∧ w.cell? ⟨q, 13, none⟩ = some (.int .i64 t.m2) := by
  unfold TBox Run at h
  simp only [Nat.zero_add] at h
  exact ⟨h 0 _ rfl, h 1 _ rfl, h 2 _ rfl, h 3 _ rfl, h 4 _ rfl, h 5 _ rfl, h 6 _ rfl, h 7 _ rfl, h 8 _ rfl, h 9 _ rfl, h 10 _ rfl, h 11 _ rfl, h 12 _ rfl, h 13 _ rfl⟩
theorem Su.task {w : World} {n : Ne} {g k : Nat} (h : Su w n g) (hk : k < n.tasks.length) : ∃ b off, n.ta = some ⟨b, off, none⟩ ∧ Run w b (off + k * 14) (n.tasks.getD k nilTa).cells ∧ TaOk w (n.tasks.getD k nilTa) := h.1.2.2.2.at hk
theorem task_mem {n : Ne} {k : Nat} (hk : k < n.tasks.length) : n.tasks.getD k nilTa ∈ n.tasks := by
  rw [List.getD_eq_getElem?_getD, List.getElem?_eq_getElem hk]; exact List.getElem_mem hk
/-- few parts in a task -/
def SmT (t : Ta) : Prop := t.vars.length ≤ 1000000 ∧ t.ins.length ≤ 1000000 ∧ t.outs.length ≤ 1000000 ∧ t.cancel.length ≤ 1000000
def taskNm (n : Ne) (i : Nat) : ByteArray := (n.tasks.getD i nilTa).name

theorem task1_any (q g j : Nat) (n : Ne) (w : World) (h : SBox w q n g) (hs : Su w n g) (hj : j < n.tasks.length) :
    Calls Tryz.prog 86 #[.int .i64 (j : Int), .pointer (some ⟨q, 0, none⟩)] w fun e w' => e = .returned (.string (taskNm n j)) ∧ w' = w := by
  obtain ⟨c0, c1, c2, c3, c4, c5⟩ := h
  obtain ⟨b, off, ha, hr, ho⟩ := hs.task hj
  have d0 : w.cell? ⟨b, off + j * 14, none⟩ = some (.string (n.tasks.getD j nilTa).name) := hr 0 _ rfl
  have hj' : (j : Int) < n.tasks.length := by omega
  rw [ha] at c2
  unfold taskNm
  obtain ⟨nm, hnm⟩ : ∃ x, x = (n.tasks.getD j nilTa).name := ⟨_, rfl⟩
  rw [← hnm] at d0 ⊢
  clear c0 c1 c3 c4 c5 hr ho hs ha hnm
  go_enter Tryz.func86, Tryz.ntmps86
  go_wp2_with fail
  go_ret
  exact ⟨rfl, rfl⟩

def wideB (t : Ta) : Bool := decide (16 < t.vars.length) || decide (16 < max (max t.ins.length t.outs.length) t.cancel.length)
theorem task2_any (p q : Nat) (t : Ta) (w : World) (h : TBox w q t) (hp : w.cell? ⟨p, 0, none⟩ = some (.int .i64 (t.vars.length : Int))) (hm : SmT t) :
    Calls Tryz.prog 87 #[.pointer (some ⟨p, 0, none⟩), .pointer (some ⟨q, 0, none⟩)] w fun e w' => e = .returned (.bool (wideB t)) ∧ Below w.heap.size w w' := by
  obtain ⟨c0, c1, c2, c3, c4, c5, c6, c7, c8, c9, c10, c11, c12, c13⟩ := h.cells
  clear h
  by_cases h1 : 16 < t.vars.length
  · have h1' : (16 : Int) < t.vars.length := by omega
    have R : Hid (wideB t = true) := by unfold wideB; rw [decide_eq_true h1]; exact rfl
    go_enter Tryz.func87, Tryz.ntmps87
    go_wp2_with fail
    go_ret
    exact ⟨by rw [R.out]; rfl, Below.refl _ _⟩
  · have h1' : ¬ (16 : Int) < t.vars.length := by omega
    have R : Hid (wideB t = decide (16 < max (max t.ins.length t.outs.length) t.cancel.length)) := by unfold wideB; rw [decide_eq_false h1]; exact rfl
    go_enter Tryz.func87, Tryz.ntmps87
    go_wp2_with fail
    all_goals
      go_ret
      exact ⟨by rw [R.out]; exact Colour.retb (by rw [Bool.eq_iff_iff]; simp; omega), Below.refl _ _⟩

theorem task3_any (q r g j : Nat) (n : Ne) (t : Ta) (w : World) (h : SBox w q n g) (ht : TBox w r t) (ho : TaOk w t) (hm : SmT t) (hj : j < t.vars.length) :
    Calls Tryz.prog 89 #[.int .i64 (j : Int), .pointer (some ⟨q, 0, none⟩), .pointer (some ⟨r, 0, none⟩)] w fun e w' => e = .returned (.int .i64 (varF n t.vars j)) ∧ Below w.heap.size w w' := by
  obtain ⟨c0, c1, c2, c3, c4, c5⟩ := h
  have d1 := ht.cells.2.1
  have I1 : Hid (Calls Tryz.prog 90 #[.agg (subC n g), .slice t.va t.vars.length t.vc, .int .i64 (j : Int)] w fun e w' => e = .returned (.int .i64 (varF n t.vars j)) ∧ Below w.heap.size w w') := variable_any n g j t.vc t.va t.vars w ho.2.2.1 hm.1 hj
  unfold subC at I1
  clear ht ho hm
  go_enter Tryz.func89, Tryz.ntmps89
  go_wp2_with fail
  refine I1.out.mono ?_
  rintro e w1 ⟨he, hb⟩
  subst he
  have B1 : Hid (Below w.heap.size w w1) := hb
  clear hb
  go_wp2_with fail
  go_ret
  exact ⟨rfl, B1.out⟩

theorem task4_any (q r g : Nat) (n : Ne) (t : Ta) (w : World) (h : SBox w q n g) (hs : Su w n g) (ht : TBox w r t) (ho : TaOk w t) (hm : SmT t) :
    Calls Tryz.prog 91 #[.pointer (some ⟨q, 0, none⟩), .pointer (some ⟨r, 0, none⟩)] w fun e w' => e = .returned (.bool (decide (1024 < bindsF n.cols t.vars))) ∧ Below w.heap.size w w' := by
  obtain ⟨c0, c1, c2, c3, c4, c5⟩ := h
  have d1 := ht.cells.2.1
  have I1 : Hid (Calls Tryz.prog 59 #[.agg (subC n g), .slice t.va t.vars.length t.vc] w fun e w' => e = .returned (.int .i64 (bindsF n.cols t.vars)) ∧ Below w.heap.size w w') := binds_any n g t.vc t.va t.vars w hs ho.2.2.1 hm.1
  unfold subC at I1
  generalize bindsF n.cols t.vars = z at *
  clear ht ho hm hs
  go_enter Tryz.func91, Tryz.ntmps91
  go_wp2_with fail
  refine I1.out.mono ?_
  rintro e w1 ⟨he, hb⟩
  subst he
  have B1 : Hid (Below w.heap.size w w1) := hb
  clear hb
  go_wp2_with fail
  go_ret
  exact ⟨rfl, B1.out⟩

theorem task5_any (r p : Nat) (t : Ta) (w : World) (ht : TBox w r t) (ho : TaOk w t) (hp : w.cell? ⟨p, 0, none⟩ = some (.int .i64 (t.vars.length : Int))) :
    Calls Tryz.prog 92 #[.pointer (some ⟨r, 0, none⟩), .pointer (some ⟨p, 0, none⟩)] w fun e w' => e = .returned (.bool (!Expr.rightB t.vars.length t.guard)) ∧ Below w.heap.size w w' := by
  obtain ⟨c0, c1, c2, c3, c4, c5, c6, c7, c8, c9, c10, c11, c12, c13⟩ := ht.cells
  have I1 : Hid (Calls Tryz.prog 20 #[.agg #[.int .i64 t.guard.kind, .int .i64 t.guard.num, .slice t.ga t.guard.kids.length t.gc], .int .i64 (t.vars.length : Int)] w fun e w' => e = .returned (.bool (Expr.rightB t.vars.length t.guard)) ∧ Below w.heap.size w w') := Expr.right_any _ _ _ _ _ ho.2.1
  clear ht ho
  go_enter Tryz.func92, Tryz.ntmps92
  go_wp2_with fail
  refine I1.out.mono ?_
  rintro e w1 ⟨he, hb⟩
  subst he
  have B1 : Hid (Below w.heap.size w w1) := hb
  clear hb
  go_wp2_with fail
  go_ret
  exact ⟨rfl, B1.out⟩

def noneB (t : Ta) : Bool := decide (t.ins.length = 0) || decide (t.outs.length = 0)
theorem task6_any (r : Nat) (t : Ta) (w : World) (ht : TBox w r t) : Calls Tryz.prog 93 #[.pointer (some ⟨r, 0, none⟩)] w fun e w' => e = .returned (.bool (noneB t)) ∧ Below w.heap.size w w' := by
  obtain ⟨c0, c1, c2, c3, c4, c5, c6, c7, c8, c9, c10, c11, c12, c13⟩ := ht.cells
  clear ht
  by_cases h1 : t.ins.length = 0
  · have R : Hid (noneB t = true) := by unfold noneB; rw [decide_eq_true h1]; exact rfl
    rw [h1] at c7
    go_enter Tryz.func93, Tryz.ntmps93
    go_wp2_with fail
    go_ret
    exact ⟨by rw [R.out]; rfl, Below.refl _ _⟩
  · have h1' : ((t.ins.length : Int) == 0) = false := beq_eq_false_iff_ne.2 (by omega)
    have R : Hid (noneB t = ((t.outs.length : Int) == 0)) := by unfold noneB; rw [decide_eq_false h1, Bool.false_or, Bool.eq_iff_iff]; simp; exact trivial
    go_enter Tryz.func93, Tryz.ntmps93
    go_wp2_with fail
    go_ret
    exact ⟨by rw [R.out]; rfl, Below.refl _ _⟩

theorem arcs_at {w : World} {a : Option Addr} {l : List Ar} (h : RowM 4 Ar.cells ArOk nilAr w a l) {k : Nat} (hk : k < l.length) : ∃ b off, a = some ⟨b, off, none⟩ ∧ (w.cell? ⟨b, off + k * 4, none⟩ = some (.int .i64 (l.getD k nilAr).place) ∧ w.cell? ⟨b, off + k * 4 + 1, none⟩ = some (.int .i64 (l.getD k nilAr).ex.kind) ∧ w.cell? ⟨b, off + k * 4 + 2, none⟩ = some (.int .i64 (l.getD k nilAr).ex.num) ∧ w.cell? ⟨b, off + k * 4 + 3, none⟩ = some (.slice (l.getD k nilAr).ka (l.getD k nilAr).ex.kids.length (l.getD k nilAr).kc)) ∧ ArOk w (l.getD k nilAr) := by
  obtain ⟨b, off, ha, hr, ho⟩ := RowM.at h hk
  exact ⟨b, off, ha, ⟨hr 0 _ rfl, hr 1 _ rfl, hr 2 _ rfl, hr 3 _ rfl⟩, ho⟩
set_option maxRecDepth 10000 in
theorem task7_any (q r p g j : Nat) (n : Ne) (t : Ta) (w : World) (h : SBox w q n g) (ht : TBox w r t) (ho : TaOk w t) (hp : w.cell? ⟨p, 0, none⟩ = some (.int .i64 (t.vars.length : Int))) (hj : j < t.ins.length) :
    Calls Tryz.prog 94 #[.int .i64 (j : Int), .pointer (some ⟨q, 0, none⟩), .pointer (some ⟨r, 0, none⟩), .pointer (some ⟨p, 0, none⟩)] w fun e w' => e = .returned (.int .i64 (arcF n (t.ins.getD j nilAr) t.vars.length)) ∧ Below w.heap.size w w' := by
  obtain ⟨c0, c1, c2, c3, c4, c5⟩ := h
  have d1 := ht.cells.2.2.2.2.2.2.2.1
  obtain ⟨b, off, ha, ⟨a0, a1, a2, a3⟩, hok⟩ := arcs_at ho.2.2.2.1 hj
  have hj' : (j : Int) < t.ins.length := by omega
  rw [ha] at d1
  obtain ⟨x, hx⟩ : ∃ x, x = t.ins.getD j nilAr := ⟨_, rfl⟩
  rw [← hx] at a0 a1 a2 a3 hok ⊢
  have I1 : Hid (Calls Tryz.prog 95 #[.agg (subC n g), .agg #[.int .i64 x.place, .int .i64 x.ex.kind, .int .i64 x.ex.num, .slice x.ka x.ex.kids.length x.kc], .int .i64 (t.vars.length : Int)] w.drew fun e w' => e = .returned (.int .i64 (arcF n x t.vars.length)) ∧ Below w.drew.heap.size w.drew w') := arc_any n g t.vars.length x w.drew (hok.below (Below.refl _ _).drew)
  unfold subC at I1
  have HD : Hid (Below w.heap.size w w.drew) := (Below.refl _ _).drew
  clear ht ho hok hx ha
  go_enter Tryz.func94, Tryz.ntmps94
  go_wp2_with fail
  go_still_tail 7, follows
  go_wp2_with fail
  refine I1.out.mono ?_
  rintro e w1 ⟨he, hb⟩
  subst he
  have B1 : Hid (Below w.heap.size w w1) := then_ HD.out hb
  clear hb
  go_wp2_with fail
  go_ret
  exact ⟨rfl, B1.out⟩
set_option maxRecDepth 10000 in
theorem task8_any (q r p g j : Nat) (n : Ne) (t : Ta) (w : World) (h : SBox w q n g) (ht : TBox w r t) (ho : TaOk w t) (hp : w.cell? ⟨p, 0, none⟩ = some (.int .i64 (t.vars.length : Int))) (hj : j < t.outs.length) :
    Calls Tryz.prog 96 #[.int .i64 (j : Int), .pointer (some ⟨q, 0, none⟩), .pointer (some ⟨r, 0, none⟩), .pointer (some ⟨p, 0, none⟩)] w fun e w' => e = .returned (.int .i64 (arcF n (t.outs.getD j nilAr) t.vars.length)) ∧ Below w.heap.size w w' := by
  obtain ⟨c0, c1, c2, c3, c4, c5⟩ := h
  have d1 := ht.cells.2.2.2.2.2.2.2.2.1
  obtain ⟨b, off, ha, ⟨a0, a1, a2, a3⟩, hok⟩ := arcs_at ho.2.2.2.2.1 hj
  have hj' : (j : Int) < t.outs.length := by omega
  rw [ha] at d1
  obtain ⟨x, hx⟩ : ∃ x, x = t.outs.getD j nilAr := ⟨_, rfl⟩
  rw [← hx] at a0 a1 a2 a3 hok ⊢
  have I1 : Hid (Calls Tryz.prog 95 #[.agg (subC n g), .agg #[.int .i64 x.place, .int .i64 x.ex.kind, .int .i64 x.ex.num, .slice x.ka x.ex.kids.length x.kc], .int .i64 (t.vars.length : Int)] w.drew fun e w' => e = .returned (.int .i64 (arcF n x t.vars.length)) ∧ Below w.drew.heap.size w.drew w') := arc_any n g t.vars.length x w.drew (hok.below (Below.refl _ _).drew)
  unfold subC at I1
  have HD : Hid (Below w.heap.size w w.drew) := (Below.refl _ _).drew
  clear ht ho hok hx ha
  go_enter Tryz.func96, Tryz.ntmps96
  go_wp2_with fail
  go_still_tail 7, follows
  go_wp2_with fail
  refine I1.out.mono ?_
  rintro e w1 ⟨he, hb⟩
  subst he
  have B1 : Hid (Below w.heap.size w w1) := then_ HD.out hb
  clear hb
  go_wp2_with fail
  go_ret
  exact ⟨rfl, B1.out⟩

theorem task9_any (q r g j : Nat) (n : Ne) (t : Ta) (w : World) (h : SBox w q n g) (ht : TBox w r t) (ho : TaOk w t) (hm : SmT t) (hj : j < t.cancel.length) :
    Calls Tryz.prog 97 #[.int .i64 (j : Int), .pointer (some ⟨q, 0, none⟩), .pointer (some ⟨r, 0, none⟩)] w fun e w' => e = .returned (.int .i64 (cancelF n t.cancel j)) ∧ Below w.heap.size w w' := by
  obtain ⟨c0, c1, c2, c3, c4, c5⟩ := h
  have d1 := ht.cells.2.2.2.2.2.2.2.2.2.1
  have I1 : Hid (Calls Tryz.prog 98 #[.agg (subC n g), .slice t.ca t.cancel.length t.cc, .int .i64 (j : Int)] w fun e w' => e = .returned (.int .i64 (cancelF n t.cancel j)) ∧ Below w.heap.size w w') := cancel_any n g j t.cc t.ca t.cancel w ho.2.2.2.2.2 hm.2.2.2 ho.1.2 hj
  unfold subC at I1
  clear ht ho hm
  go_enter Tryz.func97, Tryz.ntmps97
  go_wp2_with fail
  refine I1.out.mono ?_
  rintro e w1 ⟨he, hb⟩
  subst he
  have B1 : Hid (Below w.heap.size w w1) := hb
  clear hb
  go_wp2_with fail
  go_ret
  exact ⟨rfl, B1.out⟩

def kindsB (t : Ta) : Bool := !chosenB t.join t.ins.length || !chosenB t.split t.outs.length
theorem task10_any (r : Nat) (t : Ta) (w : World) (ht : TBox w r t) : Calls Tryz.prog 99 #[.pointer (some ⟨r, 0, none⟩)] w fun e w' => e = .returned (.bool (kindsB t)) ∧ Below w.heap.size w w' := by
  obtain ⟨c0, c1, c2, c3, c4, c5, c6, c7, c8, c9, c10, c11, c12, c13⟩ := ht.cells
  have I1 : Hid (∀ W, Calls Tryz.prog 100 #[.int .i64 t.join, .int .i64 (t.ins.length : Int)] W fun e w' => e = .returned (.bool (chosenB t.join t.ins.length)) ∧ w' = W) := fun W => chosen_any _ _ W
  have I2 : Hid (∀ W, Calls Tryz.prog 100 #[.int .i64 t.split, .int .i64 (t.outs.length : Int)] W fun e w' => e = .returned (.bool (chosenB t.split t.outs.length)) ∧ w' = W) := fun W => chosen_any _ _ W
  unfold kindsB
  generalize chosenB t.join t.ins.length = b1 at *
  generalize chosenB t.split t.outs.length = b2 at *
  clear ht
  cases b1 with
  | true =>
    go_enter Tryz.func99, Tryz.ntmps99
    go_wp2_with fail
    refine (I1.out _).mono ?_
    rintro e w1 ⟨he, hw⟩
    subst he
    subst hw
    go_wp2_with fail
    refine (I2.out _).mono ?_
    rintro e w1 ⟨he, hw⟩
    subst he
    subst hw
    go_wp2_with fail
    go_ret
    exact ⟨rfl, Below.refl _ _⟩
  | false =>
    go_enter Tryz.func99, Tryz.ntmps99
    go_wp2_with fail
    refine (I1.out _).mono ?_
    rintro e w1 ⟨he, hw⟩
    subst he
    subst hw
    go_wp2_with fail
    go_ret
    exact ⟨rfl, Below.refl _ _⟩

def manyB (t : Ta) : Bool := (decide (t.after < 0) || decide (65536 < t.after)) || !severalB t.m0 t.m1 t.m2
theorem task11_any (r : Nat) (t : Ta) (w : World) (ht : TBox w r t) : Calls Tryz.prog 101 #[.pointer (some ⟨r, 0, none⟩)] w fun e w' => e = .returned (.bool (manyB t)) ∧ Below w.heap.size w w' := by
  obtain ⟨c0, c1, c2, c3, c4, c5, c6, c7, c8, c9, c10, c11, c12, c13⟩ := ht.cells
  have I1 : Hid (∀ W, Calls Tryz.prog 102 #[.agg #[.int .i64 t.m0, .int .i64 t.m1, .int .i64 t.m2]] W fun e w' => e = .returned (.bool (severalB t.m0 t.m1 t.m2)) ∧ Below W.heap.size W w') := fun W => several_any _ _ _ W
  unfold manyB
  generalize severalB t.m0 t.m1 t.m2 = b1 at *
  generalize ht1 : decide (t.after < 0) = t1
  generalize ht2 : decide (65536 < t.after) = t2
  clear ht
  cases t1 with
  | true =>
    go_enter Tryz.func101, Tryz.ntmps101
    go_wp2_with fail
    go_ret
    exact ⟨rfl, Below.refl _ _⟩
  | false =>
    cases t2 with
    | true =>
      go_enter Tryz.func101, Tryz.ntmps101
      go_wp2_with fail
      go_ret
      exact ⟨rfl, Below.refl _ _⟩
    | false =>
      go_enter Tryz.func101, Tryz.ntmps101
      go_wp2_with fail
      refine (I1.out _).mono ?_
      rintro e w1 ⟨he, hb⟩
      subst he
      have B1 : Hid (Below w.heap.size w w1) := hb
      clear hb
      go_wp2_with fail
      go_ret
      exact ⟨rfl, B1.out⟩
end Go.Proofs.YtgdkomkflfodaaaGreat.Check
