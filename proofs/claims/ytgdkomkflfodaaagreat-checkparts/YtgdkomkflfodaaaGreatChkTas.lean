/- What is asked of a task: contracts of the closures, over the turned program. -/
import Derived.Test.YtgdkomkflfodaaaGreatChkBin
namespace Go.Proofs.YtgdkomkflfodaaaGreat.Check
open Go.RowKit Go.Proofs.YtgdkomkflfodaaaGreat.Frame Go.Proofs.YtgdkomkflfodaaaGreat.Colour Go.Proofs.YtgdkomkflfodaaaGreat.Expr
set_option linter.unusedVariables false
set_option linter.unusedSimpArgs false

/-- a task in a box -/
def TBox (w : World) (q : Nat) (t : Ta) : Prop := Run w q 0 t.cells
theorem TBox.below {w w' : World} {q : Nat} {t : Ta} (h : TBox w q t) (hb : Below w.heap.size w w') : TBox w' q t := Run.below h hb
theorem TBox.cells {w : World} {q : Nat} {t : Ta} (h : TBox w q t) : w.cell? ⟨q, 0, none⟩ = some (.string t.name) ∧ w.cell? ⟨q, 1, none⟩ = some (.slice t.va t.vars.length t.vc) ∧ w.cell? ⟨q, 2, none⟩ = some (.int .i64 t.guard.kind) ∧ w.cell? ⟨q, 3, none⟩ = some (.int .i64 t.guard.num) ∧ w.cell? ⟨q, 4, none⟩ = some (.slice t.ga t.guard.kids.length t.gc) ∧ w.cell? ⟨q, 5, none⟩ = some (.int .i64 t.join) ∧ w.cell? ⟨q, 6, none⟩ = some (.int .i64 t.split) ∧ w.cell? ⟨q, 7, none⟩ = some (.slice t.ia t.ins.length t.ic) ∧ w.cell? ⟨q, 8, none⟩ = some (.slice t.oa t.outs.length t.oc) ∧ w.cell? ⟨q, 9, none⟩ = some (.slice t.ca t.cancel.length t.cc) ∧ w.cell? ⟨q, 10, none⟩ = some (.int .i64 t.after) ∧ w.cell? ⟨q, 11, none⟩ = some (.int .i64 t.m0) ∧ w.cell? ⟨q, 12, none⟩ = some (.int .i64 t.m1) ∧ w.cell? ⟨q, 13, none⟩ = some (.int .i64 t.m2) := by
  unfold TBox Run at h
  simp only [Nat.zero_add] at h
  exact ⟨h 0 _ rfl, h 1 _ rfl, h 2 _ rfl, h 3 _ rfl, h 4 _ rfl, h 5 _ rfl, h 6 _ rfl, h 7 _ rfl, h 8 _ rfl, h 9 _ rfl, h 10 _ rfl, h 11 _ rfl, h 12 _ rfl, h 13 _ rfl⟩
theorem Su.task {w : World} {n : Ne} {g k : Nat} (h : Su w n g) (hk : k < n.tasks.length) : ∃ b off, n.ta = some ⟨b, off, none⟩ ∧ Run w b (off + k * 14) (n.tasks.getD k nilTa).cells ∧ TaOk w (n.tasks.getD k nilTa) := h.1.2.2.2.at hk
theorem task_mem {n : Ne} {k : Nat} (hk : k < n.tasks.length) : n.tasks.getD k nilTa ∈ n.tasks := by
  rw [List.getD_eq_getElem?_getD, List.getElem?_eq_getElem hk]; exact List.getElem_mem hk
/-- few parts in a task -/
def SmT (t : Ta) : Prop := t.vars.length ≤ 1000000 ∧ t.ins.length ≤ 1000000 ∧ t.outs.length ≤ 1000000 ∧ t.cancel.length ≤ 1000000
def taskNm (n : Ne) (i : Nat) : ByteArray := (n.tasks.getD i nilTa).name

theorem task1_any (q g j : Nat) (n : Ne) (w : World) (h : SBox w q n g) (hs : Su w n g) (hj : j < n.tasks.length) :
    Calls Tryz.prog 86 #[.int .i64 (j : Int), .pointer (some ⟨q, 0, none⟩)] w fun e w' => e = .returned (.string (taskNm n j)) ∧ w' = w := by
  obtain ⟨c0, c1, c2, c3, c4, c5⟩ := h
  obtain ⟨b, off, ha, hr, ho⟩ := hs.task hj
  have d0 : w.cell? ⟨b, off + j * 14, none⟩ = some (.string (n.tasks.getD j nilTa).name) := hr 0 _ rfl
  have hj' : (j : Int) < n.tasks.length := by omega
  rw [ha] at c2
  unfold taskNm
  obtain ⟨nm, hnm⟩ : ∃ x, x = (n.tasks.getD j nilTa).name := ⟨_, rfl⟩
  rw [← hnm] at d0 ⊢
  clear c0 c1 c3 c4 c5 hr ho hs ha hnm
  go_enter Tryz.func86, Tryz.ntmps86
  go_wp2_with fail
  go_ret
  exact ⟨rfl, rfl⟩

def wideB (t : Ta) : Bool := decide (16 < t.vars.length) || decide (16 < max (max t.ins.length t.outs.length) t.cancel.length)
theorem task2_any (p q : Nat) (t : Ta) (w : World) (h : TBox w q t) (hp : w.cell? ⟨p, 0, none⟩ = some (.int .i64 (t.vars.length : Int))) (hm : SmT t) :
    Calls Tryz.prog 87 #[.pointer (some ⟨p, 0, none⟩), .pointer (some ⟨q, 0, none⟩)] w fun e w' => e = .returned (.bool (wideB t)) ∧ Below w.heap.size w w' := by
  obtain ⟨c0, c1, c2, c3, c4, c5, c6, c7, c8, c9, c10, c11, c12, c13⟩ := h.cells
  clear h
  by_cases h1 : 16 < t.vars.length
  · have h1' : (16 : Int) < t.vars.length := by omega
    have R : Hid (wideB t = true) := by unfold wideB; rw [decide_eq_true h1]; exact rfl
    go_enter Tryz.func87, Tryz.ntmps87
    go_wp2_with fail
    go_ret
    exact ⟨by rw [R.out]; rfl, Below.refl _ _⟩
  · have h1' : ¬ (16 : Int) < t.vars.length := by omega
    have R : Hid (wideB t = decide (16 < max (max t.ins.length t.outs.length) t.cancel.length)) := by unfold wideB; rw [decide_eq_false h1]; exact rfl
    go_enter Tryz.func87, Tryz.ntmps87
    go_wp2_with fail
    all_goals
      go_ret
      exact ⟨by rw [R.out]; exact Colour.retb (by rw [Bool.eq_iff_iff]; simp; omega), Below.refl _ _⟩

theorem task3_any (q r g j : Nat) (n : Ne) (t : Ta) (w : World) (h : SBox w q n g) (ht : TBox w r t) (ho : TaOk w t) (hm : SmT t) (hj : j < t.vars.length) :
    Calls Tryz.prog 89 #[.int .i64 (j : Int), .pointer (some ⟨q, 0, none⟩), .pointer (some ⟨r, 0, none⟩)] w fun e w' => e = .returned (.int .i64 (varF n t.vars j)) ∧ Below w.heap.size w w' := by
  obtain ⟨c0, c1, c2, c3, c4, c5⟩ := h
  have d1 := ht.cells.2.1
  have I1 : Hid (Calls Tryz.prog 90 #[.agg (subC n g), .slice t.va t.vars.length t.vc, .int .i64 (j : Int)] w fun e w' => e = .returned (.int .i64 (varF n t.vars j)) ∧ Below w.heap.size w w') := variable_any n g j t.vc t.va t.vars w ho.2.2.1 hm.1 hj
  unfold subC at I1
  clear ht ho hm
  go_enter Tryz.func89, Tryz.ntmps89
  go_wp2_with fail
  refine I1.out.mono ?_
  rintro e w1 ⟨he, hb⟩
  subst he
  have B1 : Hid (Below w.heap.size w w1) := hb
  clear hb
  go_wp2_with fail
  go_ret
  exact ⟨rfl, B1.out⟩

theorem task4_any (q r g : Nat) (n : Ne) (t : Ta) (w : World) (h : SBox w q n g) (hs : Su w n g) (ht : TBox w r t) (ho : TaOk w t) (hm : SmT t) :
    Calls Tryz.prog 91 #[.pointer (some ⟨q, 0, none⟩), .pointer (some ⟨r, 0, none⟩)] w fun e w' => e = .returned (.bool (decide (1024 < bindsF n.cols t.vars))) ∧ Below w.heap.size w w' := by
  obtain ⟨c0, c1, c2, c3, c4, c5⟩ := h
  have d1 := ht.cells.2.1
  have I1 : Hid (Calls Tryz.prog 59 #[.agg (subC n g), .slice t.va t.vars.length t.vc] w fun e w' => e = .returned (.int .i64 (bindsF n.cols t.vars)) ∧ Below w.heap.size w w') := binds_any n g t.vc t.va t.vars w hs ho.2.2.1 hm.1
  unfold subC at I1
  generalize bindsF n.cols t.vars = z at *
  clear ht ho hm hs
  go_enter Tryz.func91, Tryz.ntmps91
  go_wp2_with fail
  refine I1.out.mono ?_
  rintro e w1 ⟨he, hb⟩
  subst he
  have B1 : Hid (Below w.heap.size w w1) := hb
  clear hb
  go_wp2_with fail
  go_ret
  exact ⟨rfl, B1.out⟩

theorem task5_any (r p : Nat) (t : Ta) (w : World) (ht : TBox w r t) (ho : TaOk w t) (hp : w.cell? ⟨p, 0, none⟩ = some (.int .i64 (t.vars.length : Int))) :
    Calls Tryz.prog 92 #[.pointer (some ⟨r, 0, none⟩), .pointer (some ⟨p, 0, none⟩)] w fun e w' => e = .returned (.bool (!Expr.rightB t.vars.length t.guard)) ∧ Below w.heap.size w w' := by
  obtain ⟨c0, c1, c2, c3, c4, c5, c6, c7, c8, c9, c10, c11, c12, c13⟩ := ht.cells
  have I1 : Hid (Calls Tryz.prog 20 #[.agg #[.int .i64 t.guard.kind, .int .i64 t.guard.num, .slice t.ga t.guard.kids.length t.gc], .int .i64 (t.vars.length : Int)] w fun e w' => e = .returned (.bool (Expr.rightB t.vars.length t.guard)) ∧ Below w.heap.size w w') := Expr.right_any _ _ _ _ _ ho.2.1
  clear ht ho
  go_enter Tryz.func92, Tryz.ntmps92
  go_wp2_with fail
  refine I1.out.mono ?_
  rintro e w1 ⟨he, hb⟩
  subst he
  have B1 : Hid (Below w.heap.size w w1) := hb
  clear hb
  go_wp2_with fail
  go_ret
  exact ⟨rfl, B1.out⟩

def noneB (t : Ta) : Bool := decide (t.ins.length = 0) || decide (t.outs.length = 0)
theorem task6_any (r : Nat) (t : Ta) (w : World) (ht : TBox w r t) : Calls Tryz.prog 93 #[.pointer (some ⟨r, 0, none⟩)] w fun e w' => e = .returned (.bool (noneB t)) ∧ Below w.heap.size w w' := by
  obtain ⟨c0, c1, c2, c3, c4, c5, c6, c7, c8, c9, c10, c11, c12, c13⟩ := ht.cells
  clear ht
  by_cases h1 : t.ins.length = 0
  · have R : Hid (noneB t = true) := by unfold noneB; rw [decide_eq_true h1]; exact rfl
    rw [h1] at c7
    go_enter Tryz.func93, Tryz.ntmps93
    go_wp2_with fail
    go_ret
    exact ⟨by rw [R.out]; rfl, Below.refl _ _⟩
  · have h1' : ((t.ins.length : Int) == 0) = false := beq_eq_false_iff_ne.2 (by omega)
    have R : Hid (noneB t = ((t.outs.length : Int) == 0)) := by unfold noneB; rw [decide_eq_false h1, Bool.false_or, Bool.eq_iff_iff]; simp; exact trivial
    go_enter Tryz.func93, Tryz.ntmps93
    go_wp2_with fail
    go_ret
    exact ⟨by rw [R.out]; rfl, Below.refl _ _⟩

theorem arcs_at {w : World} {a : Option Addr} {l : List Ar} (h : RowM 4 Ar.cells ArOk nilAr w a l) {k : Nat} (hk : k < l.length) : ∃ b off, a = some ⟨b, off, none⟩ ∧ (w.cell? ⟨b, off + k * 4, none⟩ = some (.int .i64 (l.getD k nilAr).place) ∧ w.cell? ⟨b, off + k * 4 + 1, none⟩ = some (.int .i64 (l.getD k nilAr).ex.kind) ∧ w.cell? ⟨b, off + k * 4 + 2, none⟩ = some (.int .i64 (l.getD k nilAr).ex.num) ∧ w.cell? ⟨b, off + k * 4 + 3, none⟩ = some (.slice (l.getD k nilAr).ka (l.getD k nilAr).ex.kids.length (l.getD k nilAr).kc)) ∧ ArOk w (l.getD k nilAr) := by
  obtain ⟨b, off, ha, hr, ho⟩ := RowM.at h hk
  exact ⟨b, off, ha, ⟨hr 0 _ rfl, hr 1 _ rfl, hr 2 _ rfl, hr 3 _ rfl⟩, ho⟩
set_option maxRecDepth 10000 in
theorem task7_any (q r p g j : Nat) (n : Ne) (t : Ta) (w : World) (h : SBox w q n g) (ht : TBox w r t) (ho : TaOk w t) (hp : w.cell? ⟨p, 0, none⟩ = some (.int .i64 (t.vars.length : Int))) (hj : j < t.ins.length) :
    Calls Tryz.prog 94 #[.int .i64 (j : Int), .pointer (some ⟨q, 0, none⟩), .pointer (some ⟨r, 0, none⟩), .pointer (some ⟨p, 0, none⟩)] w fun e w' => e = .returned (.int .i64 (arcF n (t.ins.getD j nilAr) t.vars.length)) ∧ Below w.heap.size w w' := by
  obtain ⟨c0, c1, c2, c3, c4, c5⟩ := h
  have d1 := ht.cells.2.2.2.2.2.2.2.1
  obtain ⟨b, off, ha, ⟨a0, a1, a2, a3⟩, hok⟩ := arcs_at ho.2.2.2.1 hj
  have hj' : (j : Int) < t.ins.length := by omega
  rw [ha] at d1
  obtain ⟨x, hx⟩ : ∃ x, x = t.ins.getD j nilAr := ⟨_, rfl⟩
  rw [← hx] at a0 a1 a2 a3 hok ⊢
  have I1 : Hid (Calls Tryz.prog 95 #[.agg (subC n g), .agg #[.int .i64 x.place, .int .i64 x.ex.kind, .int .i64 x.ex.num, .slice x.ka x.ex.kids.length x.kc], .int .i64 (t.vars.length : Int)] w.drew fun e w' => e = .returned (.int .i64 (arcF n x t.vars.length)) ∧ Below w.drew.heap.size w.drew w') := arc_any n g t.vars.length x w.drew (hok.below (Below.refl _ _).drew)
  unfold subC at I1
  have HD : Hid (Below w.heap.size w w.drew) := (Below.refl _ _).drew
  clear ht ho hok hx ha
  go_enter Tryz.func94, Tryz.ntmps94
  go_wp2_with fail
  go_still_tail 7, follows
  go_wp2_with fail
  refine I1.out.mono ?_
  rintro e w1 ⟨he, hb⟩
  subst he
  have B1 : Hid (Below w.heap.size w w1) := then_ HD.out hb
  clear hb
  go_wp2_with fail
  go_ret
  exact ⟨rfl, B1.out⟩
set_option maxRecDepth 10000 in
theorem task8_any (q r p g j : Nat) (n : Ne) (t : Ta) (w : World) (h : SBox w q n g) (ht : TBox w r t) (ho : TaOk w t) (hp : w.cell? ⟨p, 0, none⟩ = some (.int .i64 (t.vars.length : Int))) (hj : j < t.outs.length) :
    Calls Tryz.prog 96 #[.int .i64 (j : Int), .pointer (some ⟨q, 0, none⟩), .pointer (some ⟨r, 0, none⟩), .pointer (some ⟨p, 0, none⟩)] w fun e w' => e = .returned (.int .i64 (arcF n (t.outs.getD j nilAr) t.vars.length)) ∧ Below w.heap.size w w' := by
  obtain ⟨c0, c1, c2, c3, c4, c5⟩ := h
  have d1 := ht.cells.2.2.2.2.2.2.2.2.1
  obtain ⟨b, off, ha, ⟨a0, a1, a2, a3⟩, hok⟩ := arcs_at ho.2.2.2.2.1 hj
  have hj' : (j : Int) < t.outs.length := by omega
  rw [ha] at d1
  obtain ⟨x, hx⟩ : ∃ x, x = t.outs.getD j nilAr := ⟨_, rfl⟩
  rw [← hx] at a0 a1 a2 a3 hok ⊢
  have I1 : Hid (Calls Tryz.prog 95 #[.agg (subC n g), .agg #[.int .i64 x.place, .int .i64 x.ex.kind, .int .i64 x.ex.num, .slice x.ka x.ex.kids.length x.kc], .int .i64 (t.vars.length : Int)] w.drew fun e w' => e = .returned (.int .i64 (arcF n x t.vars.length)) ∧ Below w.drew.heap.size w.drew w') := arc_any n g t.vars.length x w.drew (hok.below (Below.refl _ _).drew)
  unfold subC at I1
  have HD : Hid (Below w.heap.size w w.drew) := (Below.refl _ _).drew
  clear ht ho hok hx ha
  go_enter Tryz.func96, Tryz.ntmps96
  go_wp2_with fail
  go_still_tail 7, follows
  go_wp2_with fail
  refine I1.out.mono ?_
  rintro e w1 ⟨he, hb⟩
  subst he
  have B1 : Hid (Below w.heap.size w w1) := then_ HD.out hb
  clear hb
  go_wp2_with fail
  go_ret
  exact ⟨rfl, B1.out⟩

theorem task9_any (q r g j : Nat) (n : Ne) (t : Ta) (w : World) (h : SBox w q n g) (ht : TBox w r t) (ho : TaOk w t) (hm : SmT t) (hj : j < t.cancel.length) :
    Calls Tryz.prog 97 #[.int .i64 (j : Int), .pointer (some ⟨q, 0, none⟩), .pointer (some ⟨r, 0, none⟩)] w fun e w' => e = .returned (.int .i64 (cancelF n t.cancel j)) ∧ Below w.heap.size w w' := by
  obtain ⟨c0, c1, c2, c3, c4, c5⟩ := h
  have d1 := ht.cells.2.2.2.2.2.2.2.2.2.1
  have I1 : Hid (Calls Tryz.prog 98 #[.agg (subC n g), .slice t.ca t.cancel.length t.cc, .int .i64 (j : Int)] w fun e w' => e = .returned (.int .i64 (cancelF n t.cancel j)) ∧ Below w.heap.size w w') := cancel_any n g j t.cc t.ca t.cancel w ho.2.2.2.2.2 hm.2.2.2 ho.1.2 hj
  unfold subC at I1
  clear ht ho hm
  go_enter Tryz.func97, Tryz.ntmps97
  go_wp2_with fail
  refine I1.out.mono ?_
  rintro e w1 ⟨he, hb⟩
  subst he
  have B1 : Hid (Below w.heap.size w w1) := hb
  clear hb
  go_wp2_with fail
  go_ret
  exact ⟨rfl, B1.out⟩

def kindsB (t : Ta) : Bool := !chosenB t.join t.ins.length || !chosenB t.split t.outs.length
theorem task10_any (r : Nat) (t : Ta) (w : World) (ht : TBox w r t) : Calls Tryz.prog 99 #[.pointer (some ⟨r, 0, none⟩)] w fun e w' => e = .returned (.bool (kindsB t)) ∧ Below w.heap.size w w' := by
  obtain ⟨c0, c1, c2, c3, c4, c5, c6, c7, c8, c9, c10, c11, c12, c13⟩ := ht.cells
  have I1 : Hid (∀ W, Calls Tryz.prog 100 #[.int .i64 t.join, .int .i64 (t.ins.length : Int)] W fun e w' => e = .returned (.bool (chosenB t.join t.ins.length)) ∧ w' = W) := fun W => chosen_any _ _ W
  have I2 : Hid (∀ W, Calls Tryz.prog 100 #[.int .i64 t.split, .int .i64 (t.outs.length : Int)] W fun e w' => e = .returned (.bool (chosenB t.split t.outs.length)) ∧ w' = W) := fun W => chosen_any _ _ W
  unfold kindsB
  generalize chosenB t.join t.ins.length = b1 at *
  generalize chosenB t.split t.outs.length = b2 at *
  clear ht
  cases b1 with
  | true =>
    go_enter Tryz.func99, Tryz.ntmps99
    go_wp2_with fail
    refine (I1.out _).mono ?_
    rintro e w1 ⟨he, hw⟩
    subst he
    subst hw
    go_wp2_with fail
    refine (I2.out _).mono ?_
    rintro e w1 ⟨he, hw⟩
    subst he
    subst hw
    go_wp2_with fail
    go_ret
    exact ⟨rfl, Below.refl _ _⟩
  | false =>
    go_enter Tryz.func99, Tryz.ntmps99
    go_wp2_with fail
    refine (I1.out _).mono ?_
    rintro e w1 ⟨he, hw⟩
    subst he
    subst hw
    go_wp2_with fail
    go_ret
    exact ⟨rfl, Below.refl _ _⟩

def manyB (t : Ta) : Bool := (decide (t.after < 0) || decide (65536 < t.after)) || !severalB t.m0 t.m1 t.m2
theorem task11_any (r : Nat) (t : Ta) (w : World) (ht : TBox w r t) : Calls Tryz.prog 101 #[.pointer (some ⟨r, 0, none⟩)] w fun e w' => e = .returned (.bool (manyB t)) ∧ Below w.heap.size w w' := by
  obtain ⟨c0, c1, c2, c3, c4, c5, c6, c7, c8, c9, c10, c11, c12, c13⟩ := ht.cells
  have I1 : Hid (∀ W, Calls Tryz.prog 102 #[.agg #[.int .i64 t.m0, .int .i64 t.m1, .int .i64 t.m2]] W fun e w' => e = .returned (.bool (severalB t.m0 t.m1 t.m2)) ∧ Below W.heap.size W w') := fun W => several_any _ _ _ W
  unfold manyB
  generalize severalB t.m0 t.m1 t.m2 = b1 at *
  generalize ht1 : decide (t.after < 0) = t1
  generalize ht2 : decide (65536 < t.after) = t2
  clear ht
  cases t1 with
  | true =>
    go_enter Tryz.func101, Tryz.ntmps101
    go_wp2_with fail
    go_ret
    exact ⟨rfl, Below.refl _ _⟩
  | false =>
    cases t2 with
    | true =>
      go_enter Tryz.func101, Tryz.ntmps101
      go_wp2_with fail
      go_ret
      exact ⟨rfl, Below.refl _ _⟩
    | false =>
      go_enter Tryz.func101, Tryz.ntmps101
      go_wp2_with fail
      refine (I1.out _).mono ?_
      rintro e w1 ⟨he, hb⟩
      subst he
      have B1 : Hid (Below w.heap.size w w1) := hb
      clear hb
      go_wp2_with fail
      go_ret
      exact ⟨rfl, B1.out⟩
end Go.Proofs.YtgdkomkflfodaaaGreat.Check
