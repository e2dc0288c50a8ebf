/- Contracts and plain mathematics, together: ParDag, ParReadT. -/
import Derived.Deep.RegionLaw
import Derived.Test.YtjcanodnlnodpaaGreatDoorMSays
import Derived.Test.YtjcanodnlnodpaaGreatDoorMPlainT
import Derived.Test.YtjcanodnlnodpaaGreatDoorMReadN
/- A region that draws its order, walked state by state (which of its operations are done) in place of order by order. No program stands in it. -/
namespace Go.Proofs.YtjcanodnlnodpaaGreatDoor.Dag
open Go
set_option linter.unusedVariables false
section
variable {P : Program} {ops : Array Oper} {Q : Exit → Act → World → Prop} {md : Region.Mode}
def AllF (P : Program) (ops : Array Oper) (Q : Exit → Act → World → Prop) (F : Nat → Array Bool → Act → World → Prop) (n : Nat) (l : Array Bool) (a : Act) (w : World) (rs : List Nat) : Prop := ∀ i ∈ rs, wpOp P ops Q i (F n (l.setIfInBounds i true)) a w
theorem AllF.nil {F : Nat → Array Bool → Act → World → Prop} {n : Nat} {l : Array Bool} {a : Act} {w : World} : AllF P ops Q F n l a w [] := fun i h => by cases h
theorem AllF.cons {F : Nat → Array Bool → Act → World → Prop} {n : Nat} {l l' : Array Bool} {a : Act} {w : World} {i : Nat} {o : Oper} {rs : List Nat} (ho : ops[i]? = some o) (hl : l.setIfInBounds i true = l')
    (h : ∀ K' : Act → World → Prop, (∀ a w, F n l' a w → K' a w) → if Region.wanted o (yielded ops a.tmps) = true then Oper.wp P o a w K' Q else K' (a.put o.dst undef) w)
    (hs : AllF P ops Q F n l a w rs) : AllF P ops Q F n l a w (i :: rs) := fun j hj => by
  rcases List.mem_cons.1 hj with rfl | hj
  · subst hl; exact wpOp_step ho h
  · exact hs j hj
theorem wpAny_steps {n : Nat} {l l' : Array Bool} {a a' : Act} {w : World} (hl : l = l') (ha : a = a')
    (h : ∀ F : Nat → Array Bool → Act → World → Prop,
      (∀ (n : Nat) (l : Array Bool) (a : Act) (w : World) (rs : List Nat), Region.ready md ops l = rs → rs ≠ [] → AllF P ops Q F n l a w rs → F (n + 1) l a w) →
      (∀ (n : Nat) (l : Array Bool) (a : Act) (w : World), Region.ready md ops l = [] → Q .normal a w → F n l a w) → F n l' a' w) : wpAny P md ops Q n l a w := by
  subst hl ha
  exact h (wpAny P md ops Q) (fun n l a w rs hr hne hs => wpAny_all hr hne hs) (fun n l a w hr hq => wpAny_done hr hq n)
end
end Go.Proofs.YtjcanodnlnodpaaGreatDoor.Dag
/- A task that is read: a contract of the call, over the turned program. -/
namespace Go.Proofs.YtjcanodnlnodpaaGreatDoor.Parse
open Go.RowKit Go.Maps Go.Proofs.YtjcanodnlnodpaaGreatDoor.Dag Go.Proofs.YtjcanodnlnodpaaGreatDoor.Frame Go.Proofs.YtjcanodnlnodpaaGreatDoor.Token Go.Proofs.YtjcanodnlnodpaaGreatDoor.Expr Go.Proofs.YtjcanodnlnodpaaGreatDoor.Calc
set_option linter.unusedVariables false
set_option linter.unusedSimpArgs false

/- what is told, in plain Lean -/
def taskL (n : PNet) (f : Nat) (had : List (List UInt8)) (t : PTask) (r : List KT) : PR PTask := (clausesP n f had t r).bind fun t => (wantL [125] t.2).bind fun r2 => .ok (t.1, r2)
theorem task_res {en : Int} {n : PNet} {s0 s1 s2 s9 : St} {nm : List UInt8} {c : PTask} (h1 : Res en s0 (freshP (n.tasks.map PTask.name)) s1 fun u => u = nm) (h2 : Res en s1 (wantP [123]) s2 fun _ => True) (h3 : Res en s2 (fun r => taskL n (r.length + 1) [] (task0 nm) r) s9 fun u => u = c) : Res en s0 (taskP n) s9 fun u => u = c := by
  refine Res.congr (x := fun r => (freshP (n.tasks.map PTask.name) r).bind fun s => (wantL [123] s.2).bind fun r1 => taskL n (r1.length + 1) [] (task0 s.1) r1) ?_ (fun r => rfl)
  refine Res.bindp h1 ?_
  dsimp only
  exact Res.want h2 h3
theorem taskL_step (n : PNet) (f : Nat) (had : List (List UInt8)) (t : PTask) {i : Nat} (hi : i < 9) (r : List KT) (hr : peekL r = wordN i) : taskL n (f + 1) had t r = (clauseP n had t r).bind fun u => taskL n f (wordN i :: had) u.1 u.2 := by
  unfold taskL
  rw [clausesP.eq_2, if_neg (by rw [hr]; exact word_end hi), hr]
  cases clauseP n had t r <;> rfl
theorem clauses_step {en : Int} {st st2 stf : St} {n : PNet} {f i : Nat} {had : List (List UInt8)} {t t' tf : PTask} (hi : i < 9) (hw : tookB st (wordN i) = true) (R : Res en st (clauseP n had t) st2 fun u => u = t') (h : Res en st2 (taskL n f (wordN i :: had) t') stf fun u => u = tf) : Res en st (taskL n (f + 1) had t) stf fun u => u = tf := by
  refine peek_res (x := fun r => (clauseP n had t r).bind fun u => taskL n f (wordN i :: had) u.1 u.2) (word_ne hi) hw ?_ (fun r hr => taskL_step n f had t hi r hr)
  exact Res.bind (g := fun u r => taskL n f (wordN i :: had) u r) R (fun u hu => by subst hu; exact h) (fun e he => h.dead he)
theorem clauses_end {en : Int} {st s9 : St} {n : PNet} {f : Nat} {had : List (List UInt8)} {t : PTask} (hN : ∀ i, i < 9 → tookB st (wordN i) = false) (hm : Res en st (wantP [125]) s9 fun _ => True) : Res en st (taskL n (f + 1) had t) s9 fun u => u = t := by
  cases b : tookB st [125] with
  | true =>
    refine peek_res (x := fun r => (wantP [125] r).bind fun u => .ok (t, u.2)) (by decide) b (Res.bind (g := fun _ z => .ok (t, z)) hm (fun _ _ => Res.pure rfl) (fun e he => he)) (fun r hr => ?_)
    unfold taskL
    rw [clausesP.eq_2, if_pos hr]
    exact want_bind [125] r fun r2 => .ok (t, r2)
  | false =>
    cases st with
    | error e => exact hm
    | ok r =>
      have hw : wantP [125] (r.map ktI) = .error (r.map ktI, 4) := by
        unfold wantP wantL
        rw [if_neg (fun g => (of_decide_eq_false b) g.1)]; rfl
      obtain ⟨s, h1, h2, rfl⟩ := hm.err hw
      refine Res.of_err (z := r.map ktI) (er := 4) ?_ h1 h2
      unfold taskL
      rw [clausesP.eq_2, if_neg (of_decide_eq_false b), clause_none n had t _ (fun i hi => of_decide_eq_false (hN i hi))]
      rfl
theorem clauses_twice {en : Int} {st s9 : St} {n : PNet} {f i : Nat} {had : List (List UInt8)} {t : PTask} (hi : i < 9) (hw : tookB st (wordN i) = true) (h1 : onceN i = true ∧ wordN i ∈ had) (hm : Res en (failS st (hereF en st).at_ 5) (wantP [125]) s9 fun _ => True) {P : PTask → Prop} : Res en st (taskL n (f + 1) had t) s9 P := by
  refine peek_res (x := fun r => (clauseP n had t r).bind fun u => taskL n f (wordN i :: had) u.1 u.2) (word_ne hi) hw ?_ (fun r hr => taskL_step n f had t hi r hr)
  obtain ⟨e, he⟩ : ∃ e, failS st (hereF en st).at_ 5 = .error e := by cases st <;> exact ⟨_, rfl⟩
  exact Res.bind (P := fun _ => False) (g := fun u r => taskL n f (wordN i :: had) u r) (twice_res hi hw h1) (fun u hu => hu.elim) (fun e he => hm.dead he)

/- boxes and maps that are made in any order -/
theorem Bx.mk {w : World} {q : Nat} {vs : List Value} (cs : Array Value) {t : TypeId} (hq : q = w.heap.size) (hc : cs.toList = vs) : Bx (w.alloc (.cells cs t)) q vs := by subst hq hc; exact Bx.new w cs t
theorem Bx.drew1 {w : World} {q : Nat} {vs : List Value} (h : Bx w q vs) : Bx w.drew q vs := h.below (Below.refl _ _).drew
theorem Bx.al {w : World} {q : Nat} {vs : List Value} (h : Bx w q vs) (ob : Obj) : Bx (w.alloc ob) q vs := h.below ((Below.refl _ _).alloc (Nat.le_refl _) _)
theorem SMp.mk {w : World} {b : Nat} (hb : b = w.heap.size) : SMp (w.alloc (.map #[] 0)) b 0 0 (fun _ => none) := by subst hb; exact SMp.made w
theorem SMp.drew1 {w : World} {b n k : Nat} {f : List UInt8 → Option Nat} (h : SMp w b n k f) : SMp w.drew b n k f := h.below (Below.refl _ _).drew
theorem SMp.al {w : World} {b n k : Nat} {f : List UInt8 → Option Nat} (h : SMp w b n k f) (ob : Obj) : SMp (w.alloc ob) b n k f := h.below ((Below.refl _ _).alloc (Nat.le_refl _) _)
theorem infoTask : (Tryz.prog.info? 63).map (fun i => (i.zero, i.size, i.bytes)) = some (some (.agg #[.string ByteArray.empty, .slice none 0 0, .int .i64 0, .int .i64 0, .slice none 0 0, .int .i64 0, .int .i64 0, .slice none 0 0, .slice none 0 0, .slice none 0 0, .int .i64 0, .int .i64 0, .int .i64 0, .int .i64 0]), 14, 200) := by kernel_rfl
def zero16 : List Value := [.pointer none, .string ⟨#[]⟩, .slice none 0 0, .int .i64 0, .int .i64 0, .slice none 0 0, .int .i64 0, .int .i64 0, .slice none 0 0, .slice none 0 0, .slice none 0 0, .int .i64 0, .int .i64 0, .int .i64 0, .int .i64 0, .map none]
theorem sixteen {w : World} {q : Nat} {x0 x1 x2 x3 x4 x5 x6 x7 x8 x9 x10 x11 x12 x13 x14 x15 : Value} (h : Bx w q [x0, x1, x2, x3, x4, x5, x6, x7, x8, x9, x10, x11, x12, x13, x14, x15]) : (w.cell? ⟨q, 0, none⟩ = some x0 ∧ w.cell? ⟨q, 1, none⟩ = some x1 ∧ w.cell? ⟨q, 2, none⟩ = some x2 ∧ w.cell? ⟨q, 3, none⟩ = some x3 ∧ w.cell? ⟨q, 4, none⟩ = some x4 ∧ w.cell? ⟨q, 5, none⟩ = some x5 ∧ w.cell? ⟨q, 6, none⟩ = some x6 ∧ w.cell? ⟨q, 7, none⟩ = some x7 ∧ w.cell? ⟨q, 8, none⟩ = some x8 ∧ w.cell? ⟨q, 9, none⟩ = some x9 ∧ w.cell? ⟨q, 10, none⟩ = some x10 ∧ w.cell? ⟨q, 11, none⟩ = some x11 ∧ w.cell? ⟨q, 12, none⟩ = some x12 ∧ w.cell? ⟨q, 13, none⟩ = some x13 ∧ w.cell? ⟨q, 14, none⟩ = some x14 ∧ w.cell? ⟨q, 15, none⟩ = some x15 ∧ q < w.heap.size) ∧ (w.frozen? ⟨q, 0, none⟩ = false ∧ w.frozen? ⟨q, 1, none⟩ = false ∧ w.frozen? ⟨q, 2, none⟩ = false ∧ w.frozen? ⟨q, 3, none⟩ = false ∧ w.frozen? ⟨q, 4, none⟩ = false ∧ w.frozen? ⟨q, 5, none⟩ = false ∧ w.frozen? ⟨q, 6, none⟩ = false ∧ w.frozen? ⟨q, 7, none⟩ = false ∧ w.frozen? ⟨q, 8, none⟩ = false ∧ w.frozen? ⟨q, 9, none⟩ = false ∧ w.frozen? ⟨q, 10, none⟩ = false ∧ w.frozen? ⟨q, 11, none⟩ = false ∧ w.frozen? ⟨q, 12, none⟩ = false ∧ w.frozen? ⟨q, 13, none⟩ = false ∧ w.frozen? ⟨q, 14, none⟩ = false ∧ w.frozen? ⟨q, 15, none⟩ = false) :=
  ⟨⟨h.1 0, h.1 1, h.1 2, h.1 3, h.1 4, h.1 5, h.1 6, h.1 7, h.1 8, h.1 9, h.1 10, h.1 11, h.1 12, h.1 13, h.1 14, h.1 15, h.2.2⟩, h.2.1 0, h.2.1 1, h.2.1 2, h.2.1 3, h.2.1 4, h.2.1 5, h.2.1 6, h.2.1 7, h.2.1 8, h.2.1 9, h.2.1 10, h.2.1 11, h.2.1 12, h.2.1 13, h.2.1 14, h.2.1 15⟩
def T0 (B p : Nat) (en : Int) (w : World) (s1 : St) (q mv : Nat) (nm : List UInt8) (W : World) : Prop := RS B W p en s1 ∧ RCh p w W ∧ Bx W q (taskC p (task0 nm) (tm0 mv 0)) ∧ SMp W mv 0 0 (fun _ => none) ∧ w.heap.size ≤ q ∧ w.heap.size ≤ mv ∧ q ≠ mv
theorem T0.fin {B p : Nat} {en : Int} {w : World} {s1 : St} {q mv : Nat} {nm : List UInt8} {W : World} (hR : RS B W p en s1) (hr : RCh p w W) (hb : Bx W q zero16) (hm : SMp W mv 0 0 (fun _ => none)) (hq : w.heap.size ≤ q) (hv : w.heap.size ≤ mv) (hne : q ≠ mv) (hp : p < w.heap.size) :
    T0 B p en w s1 q mv nm ((((((((((((((((W.setCell ⟨q, 0, none⟩ (.pointer (some ⟨p, 0, none⟩))).setCell ⟨q, 1, none⟩ (.string (str nm))).setCell ⟨q, 2, none⟩ (.slice none 0 0)).setCell ⟨q, 3, none⟩ (.int .i64 1)).setCell ⟨q, 4, none⟩ (.int .i64 1)).setCell ⟨q, 5, none⟩ (.slice none 0 0)).setCell ⟨q, 6, none⟩ (.int .i64 1)).setCell ⟨q, 7, none⟩ (.int .i64 1)).setCell ⟨q, 8, none⟩ (.slice none 0 0)).setCell ⟨q, 9, none⟩ (.slice none 0 0)).setCell ⟨q, 10, none⟩ (.slice none 0 0)).setCell ⟨q, 11, none⟩ (.int .i64 0)).setCell ⟨q, 12, none⟩ (.int .i64 0)).setCell ⟨q, 13, none⟩ (.int .i64 0)).setCell ⟨q, 14, none⟩ (.int .i64 0)).setCell ⟨q, 15, none⟩ (.map (some mv))) := by
  have hBp := hR.1.1
  have hc : Ch (fun b => b = q) W ((((((((((((((((W.setCell ⟨q, 0, none⟩ (.pointer (some ⟨p, 0, none⟩))).setCell ⟨q, 1, none⟩ (.string (str nm))).setCell ⟨q, 2, none⟩ (.slice none 0 0)).setCell ⟨q, 3, none⟩ (.int .i64 1)).setCell ⟨q, 4, none⟩ (.int .i64 1)).setCell ⟨q, 5, none⟩ (.slice none 0 0)).setCell ⟨q, 6, none⟩ (.int .i64 1)).setCell ⟨q, 7, none⟩ (.int .i64 1)).setCell ⟨q, 8, none⟩ (.slice none 0 0)).setCell ⟨q, 9, none⟩ (.slice none 0 0)).setCell ⟨q, 10, none⟩ (.slice none 0 0)).setCell ⟨q, 11, none⟩ (.int .i64 0)).setCell ⟨q, 12, none⟩ (.int .i64 0)).setCell ⟨q, 13, none⟩ (.int .i64 0)).setCell ⟨q, 14, none⟩ (.int .i64 0)).setCell ⟨q, 15, none⟩ (.map (some mv))) := (((((((((((((((((Ch.refl (fun b => b = q) W).setCell (b := q) (o := 0) (.inl rfl) _).setCell (b := q) (o := 1) (.inl rfl) _).setCell (b := q) (o := 2) (.inl rfl) _).setCell (b := q) (o := 3) (.inl rfl) _).setCell (b := q) (o := 4) (.inl rfl) _).setCell (b := q) (o := 5) (.inl rfl) _).setCell (b := q) (o := 6) (.inl rfl) _).setCell (b := q) (o := 7) (.inl rfl) _).setCell (b := q) (o := 8) (.inl rfl) _).setCell (b := q) (o := 9) (.inl rfl) _).setCell (b := q) (o := 10) (.inl rfl) _).setCell (b := q) (o := 11) (.inl rfl) _).setCell (b := q) (o := 12) (.inl rfl) _).setCell (b := q) (o := 13) (.inl rfl) _).setCell (b := q) (o := 14) (.inl rfl) _).setCell (b := q) (o := 15) (.inl rfl) _)
  refine ⟨hR.ch hc (fun b hb => by subst hb; omega) (by omega), rch_own (L := w.heap.size) (Nat.le_refl _) hr (hc.mono fun b _ e => by omega) hp, ?_, hm.ch hc (fun e => hne e.symm), hq, hv, hne⟩
  unfold zero16 at hb
  exact ((((((((((((((((hb.put 0 (.pointer (some ⟨p, 0, none⟩)) (by simp)).put 1 (.string (str nm)) (by simp)).put 2 (.slice none 0 0) (by simp)).put 3 (.int .i64 1) (by simp)).put 4 (.int .i64 1) (by simp)).put 5 (.slice none 0 0) (by simp)).put 6 (.int .i64 1) (by simp)).put 7 (.int .i64 1) (by simp)).put 8 (.slice none 0 0) (by simp)).put 9 (.slice none 0 0) (by simp)).put 10 (.slice none 0 0) (by simp)).put 11 (.int .i64 0) (by simp)).put 12 (.int .i64 0) (by simp)).put 13 (.int .i64 0) (by simp)).put 14 (.int .i64 0) (by simp)).put 15 (.map (some mv)) (by simp))
def F1 (B p : Nat) (en : Int) (m : NM) (names : List (List UInt8)) (st : St) (w : World) (ob om : Option Nat) (nm : List UInt8) (s1 : St) (W : World) : Prop :=
  (RS B W p en s1 ∧ RCh p w W ∧ nm.length ≤ 140737488355328 ∧ Res en st (freshP names) s1 (fun u => u = nm) ∧ ∀ r', s1 = .ok r' → m.ft nm = none) ∧
  (∀ q, ob = some q → Bx W q zero16 ∧ w.heap.size ≤ q ∧ q < W.heap.size) ∧ (∀ b, om = some b → SMp W b 0 0 (fun _ => none) ∧ w.heap.size ≤ b ∧ b < W.heap.size) ∧ ∀ q b, ob = some q → om = some b → q ≠ b
theorem F1.below {B p : Nat} {en : Int} {m : NM} {names : List (List UInt8)} {st : St} {w : World} {ob om : Option Nat} {nm : List UInt8} {s1 : St} {W W' : World} (h : F1 B p en m names st w ob om nm s1 W) (hb : Below W.heap.size W W') : F1 B p en m names st w ob om nm s1 W' :=
  ⟨⟨h.1.1.below hb, h.1.2.1.trans (RCh.of_below h.1.1.lt hb), h.1.2.2⟩, fun q e => ⟨(h.2.1 q e).1.below hb, (h.2.1 q e).2.1, Nat.lt_of_lt_of_le (h.2.1 q e).2.2 hb.size⟩, fun b e => ⟨(h.2.2.1 b e).1.below hb, (h.2.2.1 b e).2.1, Nat.lt_of_lt_of_le (h.2.2.1 b e).2.2 hb.size⟩, h.2.2.2⟩
theorem F1.alB {B p : Nat} {en : Int} {m : NM} {names : List (List UInt8)} {st : St} {w : World} {om : Option Nat} {nm : List UInt8} {s1 : St} {W : World} {q : Nat} (h : F1 B p en m names st w none om nm s1 W) (hq : q = W.heap.size) : F1 B p en m names st w (some q) om nm s1 (W.alloc (.cells #[.pointer none, .string ⟨#[]⟩, .slice none 0 0, .int .i64 0, .int .i64 0, .slice none 0 0, .int .i64 0, .int .i64 0, .slice none 0 0, .slice none 0 0, .slice none 0 0, .int .i64 0, .int .i64 0, .int .i64 0, .int .i64 0, .map none] 209)) := by
  subst hq
  have hb : Below W.heap.size W (W.alloc (.cells #[.pointer none, .string ⟨#[]⟩, .slice none 0 0, .int .i64 0, .int .i64 0, .slice none 0 0, .int .i64 0, .int .i64 0, .slice none 0 0, .slice none 0 0, .slice none 0 0, .int .i64 0, .int .i64 0, .int .i64 0, .int .i64 0, .map none] 209)) := (Below.refl _ _).alloc (Nat.le_refl _) _
  have h' := h.below hb
  refine ⟨h'.1, fun q e => ?_, h'.2.2.1, fun q b e1 e2 => ?_⟩
  · injection e with e; subst e
    exact ⟨Bx.mk _ rfl rfl, h.1.2.1.1.size, by simp⟩
  · injection e1 with e1; subst e1
    have := (h.2.2.1 b e2).2.2; omega
theorem F1.alM {B p : Nat} {en : Int} {m : NM} {names : List (List UInt8)} {st : St} {w : World} {ob : Option Nat} {nm : List UInt8} {s1 : St} {W : World} {b : Nat} (h : F1 B p en m names st w ob none nm s1 W) (hq : b = W.heap.size) : F1 B p en m names st w ob (some b) nm s1 (W.alloc (.map #[] 0)) := by
  subst hq
  have hb : Below W.heap.size W (W.alloc (.map #[] 0)) := (Below.refl _ _).alloc (Nat.le_refl _) _
  have h' := h.below hb
  refine ⟨h'.1, h'.2.1, fun b e => ?_, fun q b e1 e2 => ?_⟩
  · injection e with e; subst e
    exact ⟨SMp.made W, h.1.2.1.1.size, by simp⟩
  · injection e2 with e2; subst e2
    have := (h.2.1 q e1).2.2; omega
theorem F1.cells {B p : Nat} {en : Int} {m : NM} {names : List (List UInt8)} {st : St} {w : World} {om : Option Nat} {nm : List UInt8} {s1 : St} {W : World} {q : Nat} (h : F1 B p en m names st w (some q) om nm s1 W) : Bx W q zero16 := (h.2.1 q rfl).1
theorem F1.fin {B p : Nat} {en : Int} {m : NM} {names : List (List UInt8)} {st : St} {w : World} {nm : List UInt8} {s1 : St} {W : World} {q mv : Nat} (h : F1 B p en m names st w (some q) (some mv) nm s1 W) (hp : p < w.heap.size) :
    Hid (T0 B p en w s1 q mv nm ((((((((((((((((W.setCell ⟨q, 0, none⟩ (.pointer (some ⟨p, 0, none⟩))).setCell ⟨q, 1, none⟩ (.string (str nm))).setCell ⟨q, 2, none⟩ (.slice none 0 0)).setCell ⟨q, 3, none⟩ (.int .i64 1)).setCell ⟨q, 4, none⟩ (.int .i64 1)).setCell ⟨q, 5, none⟩ (.slice none 0 0)).setCell ⟨q, 6, none⟩ (.int .i64 1)).setCell ⟨q, 7, none⟩ (.int .i64 1)).setCell ⟨q, 8, none⟩ (.slice none 0 0)).setCell ⟨q, 9, none⟩ (.slice none 0 0)).setCell ⟨q, 10, none⟩ (.slice none 0 0)).setCell ⟨q, 11, none⟩ (.int .i64 0)).setCell ⟨q, 12, none⟩ (.int .i64 0)).setCell ⟨q, 13, none⟩ (.int .i64 0)).setCell ⟨q, 14, none⟩ (.int .i64 0)).setCell ⟨q, 15, none⟩ (.map (some mv))) ∧ nm.length ≤ 140737488355328 ∧ Res en st (freshP names) s1 (fun u => u = nm) ∧ ∀ r', s1 = .ok r' → m.ft nm = none) :=
  ⟨T0.fin h.1.1 h.1.2.1 (h.2.1 q rfl).1 (h.2.2.1 mv rfl).1 (h.2.1 q rfl).2.1 (h.2.2.1 mv rfl).2.1 (h.2.2.2 q mv rfl rfl) hp, h.1.2.2⟩
theorem F1.fin2 {B p : Nat} {en : Int} {m : NM} {names : List (List UInt8)} {st : St} {w : World} {nm : List UInt8} {s1 : St} {W : World} {q mv : Nat} (h : F1 B p en m names st w none (some mv) nm s1 W) (hp : p < w.heap.size) (hq : q = W.heap.size) :
    Hid (T0 B p en w s1 q mv nm (W.alloc (.cells #[.pointer (some ⟨p, 0, none⟩), .string (str nm), .slice none 0 0, .int .i64 1, .int .i64 1, .slice none 0 0, .int .i64 1, .int .i64 1, .slice none 0 0, .slice none 0 0, .slice none 0 0, .int .i64 0, .int .i64 0, .int .i64 0, .int .i64 0, .map (some mv)] 209)) ∧ nm.length ≤ 140737488355328 ∧ Res en st (freshP names) s1 (fun u => u = nm) ∧ ∀ r', s1 = .ok r' → m.ft nm = none) := by
  have h' := h.below (W' := W.alloc (.cells #[.pointer (some ⟨p, 0, none⟩), .string (str nm), .slice none 0 0, .int .i64 1, .int .i64 1, .slice none 0 0, .int .i64 1, .int .i64 1, .slice none 0 0, .slice none 0 0, .slice none 0 0, .int .i64 0, .int .i64 0, .int .i64 0, .int .i64 0, .map (some mv)] 209)) ((Below.refl _ _).alloc (Nat.le_refl _) _)
  have hz := h.1.2.1.1.size
  have hm := (h.2.2.1 mv rfl).2.2
  exact ⟨⟨h'.1.1, h'.1.2.1, Bx.mk _ hq rfl, (h'.2.2.1 mv rfl).1, by omega, (h'.2.2.1 mv rfl).2.1, by omega⟩, h.1.2.2⟩
theorem F1.fin3 {B p : Nat} {en : Int} {m : NM} {names : List (List UInt8)} {st : St} {w : World} {nm : List UInt8} {s1 : St} {W : World} {q mv : Nat} (h : F1 B p en m names st w none none nm s1 W) (hp : p < w.heap.size) (hq : q = W.heap.size) (hv : mv = W.heap.size + 1) :
    Hid (T0 B p en w s1 q mv nm ((W.alloc (.cells #[.pointer (some ⟨p, 0, none⟩), .string (str nm), .slice none 0 0, .int .i64 1, .int .i64 1, .slice none 0 0, .int .i64 1, .int .i64 1, .slice none 0 0, .slice none 0 0, .slice none 0 0, .int .i64 0, .int .i64 0, .int .i64 0, .int .i64 0, .map (some mv)] 209)).alloc (.map #[] 0)) ∧ nm.length ≤ 140737488355328 ∧ Res en st (freshP names) s1 (fun u => u = nm) ∧ ∀ r', s1 = .ok r' → m.ft nm = none) := by
  have h' := h.below (W' := (W.alloc (.cells #[.pointer (some ⟨p, 0, none⟩), .string (str nm), .slice none 0 0, .int .i64 1, .int .i64 1, .slice none 0 0, .int .i64 1, .int .i64 1, .slice none 0 0, .slice none 0 0, .slice none 0 0, .int .i64 0, .int .i64 0, .int .i64 0, .int .i64 0, .map (some mv)] 209)).alloc (.map #[] 0)) (((Below.refl _ _).alloc (Nat.le_refl _) _).alloc (by simp) _)
  have hz := h.1.2.1.1.size
  exact ⟨⟨h'.1.1, h'.1.2.1, (Bx.mk _ hq rfl).al _, SMp.mk (by rw [hv]; simp), by omega, by omega, by omega⟩, h.1.2.2⟩
set_option maxHeartbeats 2000000 in
theorem F1.finM {B p : Nat} {en : Int} {m : NM} {names : List (List UInt8)} {st : St} {w : World} {nm : List UInt8} {s1 : St} {W W9 : World} {q mv : Nat} (h : F1 B p en m names st w (some q) none nm s1 W) (hp : p < w.heap.size) (h9 : W9 = ((((((((((((((((W.setCell ⟨q, 0, none⟩ (.pointer (some ⟨p, 0, none⟩))).setCell ⟨q, 1, none⟩ (.string (str nm))).setCell ⟨q, 2, none⟩ (.slice none 0 0)).setCell ⟨q, 3, none⟩ (.int .i64 1)).setCell ⟨q, 4, none⟩ (.int .i64 1)).setCell ⟨q, 5, none⟩ (.slice none 0 0)).setCell ⟨q, 6, none⟩ (.int .i64 1)).setCell ⟨q, 7, none⟩ (.int .i64 1)).setCell ⟨q, 8, none⟩ (.slice none 0 0)).setCell ⟨q, 9, none⟩ (.slice none 0 0)).setCell ⟨q, 10, none⟩ (.slice none 0 0)).setCell ⟨q, 11, none⟩ (.int .i64 0)).setCell ⟨q, 12, none⟩ (.int .i64 0)).setCell ⟨q, 13, none⟩ (.int .i64 0)).setCell ⟨q, 14, none⟩ (.int .i64 0)).setCell ⟨q, 15, none⟩ (.map (some mv)))) (hv : mv = W9.heap.size) :
    Hid (T0 B p en w s1 q mv nm (W9.alloc (.map #[] 0)) ∧ nm.length ≤ 140737488355328 ∧ Res en st (freshP names) s1 (fun u => u = nm) ∧ ∀ r', s1 = .ok r' → m.ft nm = none) := by
  have hR := h.1.1
  have hBp := hR.1.1
  obtain ⟨hb, hq, hql⟩ := h.2.1 q rfl
  have hc : Ch (fun b => b = q) W W9 := by rw [h9]; exact (((((((((((((((((Ch.refl (fun b => b = q) W).setCell (b := q) (o := 0) (.inl rfl) _).setCell (b := q) (o := 1) (.inl rfl) _).setCell (b := q) (o := 2) (.inl rfl) _).setCell (b := q) (o := 3) (.inl rfl) _).setCell (b := q) (o := 4) (.inl rfl) _).setCell (b := q) (o := 5) (.inl rfl) _).setCell (b := q) (o := 6) (.inl rfl) _).setCell (b := q) (o := 7) (.inl rfl) _).setCell (b := q) (o := 8) (.inl rfl) _).setCell (b := q) (o := 9) (.inl rfl) _).setCell (b := q) (o := 10) (.inl rfl) _).setCell (b := q) (o := 11) (.inl rfl) _).setCell (b := q) (o := 12) (.inl rfl) _).setCell (b := q) (o := 13) (.inl rfl) _).setCell (b := q) (o := 14) (.inl rfl) _).setCell (b := q) (o := 15) (.inl rfl) _)
  have hbx : Bx W9 q (taskC p (task0 nm) (tm0 mv 0)) := by
    rw [h9]
    unfold zero16 at hb
    exact ((((((((((((((((hb.put 0 (.pointer (some ⟨p, 0, none⟩)) (by simp)).put 1 (.string (str nm)) (by simp)).put 2 (.slice none 0 0) (by simp)).put 3 (.int .i64 1) (by simp)).put 4 (.int .i64 1) (by simp)).put 5 (.slice none 0 0) (by simp)).put 6 (.int .i64 1) (by simp)).put 7 (.int .i64 1) (by simp)).put 8 (.slice none 0 0) (by simp)).put 9 (.slice none 0 0) (by simp)).put 10 (.slice none 0 0) (by simp)).put 11 (.int .i64 0) (by simp)).put 12 (.int .i64 0) (by simp)).put 13 (.int .i64 0) (by simp)).put 14 (.int .i64 0) (by simp)).put 15 (.map (some mv)) (by simp))
  clear h9
  have hal : Below W9.heap.size W9 (W9.alloc (.map #[] 0)) := (Below.refl _ _).alloc (Nat.le_refl _) _
  have hr2 := rch_own (L := w.heap.size) (Nat.le_refl _) h.1.2.1 (hc.mono fun b _ e => by omega) hp
  have hR2 := hR.ch hc (fun b hb => by subst hb; omega) (by omega)
  have hz := h.1.2.1.1.size
  have hz2 := hc.size
  have hql2 := hbx.2.2
  exact ⟨⟨hR2.below hal, hr2.trans (RCh.of_below hR2.lt hal), hbx.below hal, SMp.mk hv, hq, by omega, by omega⟩, h.1.2.2⟩
def G0 (w : World) (ob om : Option Nat) (W : World) : Prop :=
  Below w.heap.size w W ∧ (∀ q, ob = some q → Bx W q zero16 ∧ w.heap.size ≤ q ∧ q < W.heap.size) ∧ (∀ b, om = some b → SMp W b 0 0 (fun _ => none) ∧ w.heap.size ≤ b ∧ b < W.heap.size) ∧ ∀ q b, ob = some q → om = some b → q ≠ b
theorem G0.start (w : World) : G0 w none none w.drew := ⟨(Below.refl _ _).drew, fun q e => (by cases e), fun b e => (by cases e), fun q b e => (by cases e)⟩
theorem G0.below {w : World} {ob om : Option Nat} {W W' : World} (h : G0 w ob om W) (hb : Below W.heap.size W W') : G0 w ob om W' :=
  ⟨h.1.trans (hb.mono h.1.size), fun q e => ⟨(h.2.1 q e).1.below hb, (h.2.1 q e).2.1, Nat.lt_of_lt_of_le (h.2.1 q e).2.2 hb.size⟩, fun b e => ⟨(h.2.2.1 b e).1.below hb, (h.2.2.1 b e).2.1, Nat.lt_of_lt_of_le (h.2.2.1 b e).2.2 hb.size⟩, h.2.2.2⟩
theorem G0.alB {w : World} {om : Option Nat} {W : World} {q : Nat} (h : G0 w none om W) (hq : q = W.heap.size) : G0 w (some q) om (W.alloc (.cells #[.pointer none, .string ⟨#[]⟩, .slice none 0 0, .int .i64 0, .int .i64 0, .slice none 0 0, .int .i64 0, .int .i64 0, .slice none 0 0, .slice none 0 0, .slice none 0 0, .int .i64 0, .int .i64 0, .int .i64 0, .int .i64 0, .map none] 209)) := by
  subst hq
  have hb : Below W.heap.size W (W.alloc (.cells #[.pointer none, .string ⟨#[]⟩, .slice none 0 0, .int .i64 0, .int .i64 0, .slice none 0 0, .int .i64 0, .int .i64 0, .slice none 0 0, .slice none 0 0, .slice none 0 0, .int .i64 0, .int .i64 0, .int .i64 0, .int .i64 0, .map none] 209)) := (Below.refl _ _).alloc (Nat.le_refl _) _
  have h' := h.below hb
  refine ⟨h'.1, fun q e => ?_, h'.2.2.1, fun q b e1 e2 => ?_⟩
  · injection e with e; subst e
    exact ⟨Bx.mk _ rfl rfl, h.1.size, by simp⟩
  · injection e1 with e1; subst e1
    have := (h.2.2.1 b e2).2.2; omega
theorem G0.alM {w : World} {ob : Option Nat} {W : World} {b : Nat} (h : G0 w ob none W) (hq : b = W.heap.size) : G0 w ob (some b) (W.alloc (.map #[] 0)) := by
  subst hq
  have hb : Below W.heap.size W (W.alloc (.map #[] 0)) := (Below.refl _ _).alloc (Nat.le_refl _) _
  have h' := h.below hb
  refine ⟨h'.1, h'.2.1, fun b e => ?_, fun q b e1 e2 => ?_⟩
  · injection e with e; subst e
    exact ⟨SMp.made W, h.1.size, by simp⟩
  · injection e2 with e2; subst e2
    have := (h.2.1 q e1).2.2; omega
def FrP (B p : Nat) (en : Int) (m : NM) (names : List (List UInt8)) (st : St) (w : World) (ob om : Option Nat) (e : Ending) (w1 : World) : Prop := ∃ nm s1, e = .returned (.string (str nm)) ∧ Hid (F1 B p en m names st w ob om nm s1 w1)
theorem F1.fresh {B p : Nat} {en : Int} {m : NM} {names : List (List UInt8)} {st : St} {w X : World} {ob om : Option Nat} (hX : Below w.heap.size w X) (hp : p < w.heap.size) (hb : ∀ q, ob = some q → Bx X q zero16 ∧ w.heap.size ≤ q) (hm : ∀ b, om = some b → SMp X b 0 0 (fun _ => none) ∧ w.heap.size ≤ b) (hne : ∀ q b, ob = some q → om = some b → q ≠ b)
    (h : Calls Tryz.prog 190 #[.pointer (some ⟨p, 0, none⟩), .map (some m.mt)] X (FreshPost B p en m.ft names st X)) : Calls Tryz.prog 190 #[.pointer (some ⟨p, 0, none⟩), .map (some m.mt)] X (FrP B p en m names st w ob om) :=
  h.mono fun e w1 ⟨nm, s1, he, h1, hr1, hl1, R1, al1⟩ => ⟨nm, s1, he, ⟨h1, (RCh.of_below hp hX).trans hr1, hl1, R1, al1⟩, fun q e => by
      obtain ⟨g1, g2⟩ := hb q e
      have g3 := g1.ch hr1.1 (by show ¬ q = p; omega)
      exact ⟨g3, g2, g3.2.2⟩, fun b e => by
      obtain ⟨g1, g2⟩ := hm b e
      have g3 := g1.ch hr1.1 (by show ¬ b = p; omega)
      exact ⟨g3, g2, g3.lt⟩, hne⟩
theorem G0.fresh {B p : Nat} {en : Int} {m : NM} {names : List (List UInt8)} {st : St} {w X : World} {ob om : Option Nat} (H : G0 w ob om X) (hp : p < w.heap.size)
    (h : ∀ W, Below w.heap.size w W → Calls Tryz.prog 190 #[.pointer (some ⟨p, 0, none⟩), .map (some m.mt)] W (FreshPost B p en m.ft names st W)) : Calls Tryz.prog 190 #[.pointer (some ⟨p, 0, none⟩), .map (some m.mt)] X (FrP B p en m names st w ob om) :=
  F1.fresh H.1 hp (fun q e => ⟨(H.2.1 q e).1, (H.2.1 q e).2.1⟩) (fun b e => ⟨(H.2.2.1 b e).1, (H.2.2.1 b e).2.1⟩) H.2.2.2 (h X H.1)
theorem F1.plain {B p : Nat} {en : Int} {m : NM} {names : List (List UInt8)} {st : St} {w : World} {ob om : Option Nat} {nm : List UInt8} {s1 : St} {X : World} (h : F1 B p en m names st w ob om nm s1 X) : Calls Tryz.prog 195 #[.string (str nm)] X fun e w2 => e = .returned (.agg (plainC (str nm))) ∧ Hid (F1 B p en m names st w ob om nm s1 w2) :=
  (plain_any (str nm) X).mono fun e w2 ⟨he, hb⟩ => ⟨he, h.below hb⟩
theorem TK.out {L : Nat} {w : World} {q p : Nat} {t : PTask} {m : TM} (h : TK L w q p t m) {M : Nat → Prop} (hM : ∀ b, M b → b < L) (hl : t.vars.length ≤ 1000001 ∧ t.ins.length ≤ 1000001 ∧ t.outs.length ≤ 1000001 ∧ t.cancel.length ≤ 1000001) :
    ∃ (c0 : ByteArray) (a1 : Option Addr) (l1 k1 : Nat) (g0 g1 : Int) (a4 : Option Addr) (l4 k4 : Nat) (j0 j1 : Int) (a7 : Option Addr) (l7 k7 : Nat) (a8 : Option Addr) (l8 k8 : Nat) (a9 : Option Addr) (l9 k9 : Nat) (y0 y1 y2 y3 : Int), c0 = str t.name ∧ Bx w q [.pointer (some ⟨p, 0, none⟩), .string c0, .slice a1 l1 k1, .int .i64 g0, .int .i64 g1, .slice a4 l4 k4, .int .i64 j0, .int .i64 j1, .slice a7 l7 k7, .slice a8 l8 k8, .slice a9 l9 k9, .int .i64 y0, .int .i64 y1, .int .i64 y2, .int .i64 y3, .map (some m.mv)] ∧ Held M w fun W => TaskR W t [.string c0, .slice a1 l1 k1, .int .i64 g0, .int .i64 g1, .slice a4 l4 k4, .int .i64 j0, .int .i64 j1, .slice a7 l7 k7, .slice a8 l8 k8, .slice a9 l9 k9, .int .i64 y0, .int .i64 y1, .int .i64 y2, .int .i64 y3] := by
  obtain ⟨hb, ⟨r1, r2, r3, r4⟩, hs, -, hH, hz⟩ := h
  refine ⟨_, _, _, _, _, _, _, _, _, _, _, _, _, _, _, _, _, _, _, _, _, _, _, _, rfl, hb, ?_⟩
  refine ((((own_held r1 hM).and (own_held r2 hM)).and ((own_held r3 hM).and (own_held r4 hM))).and (hH.less fun b hb => .inr (hM b hb))).mono fun W ⟨⟨⟨e1, e2⟩, e3, e4⟩, x1, x2, x3, x4⟩ => ?_
  exact ⟨_, _, _, _, _, _, _, _, _, _, rfl, ⟨_, e1, x1⟩, x2, ⟨_, e2, x3⟩, ⟨_, e3, x4⟩, e4, hl, hz⟩
def TL (B L p q : Nat) (en : Int) (n : PNet) (m : NM) (nm : List UInt8) (b : Nat) (s2 : St) (N : Nat) (w wr : World) : Prop := ∃ (t' : PTask) (m' : TM) (st' : St) (stood : Nat → Bool) (had : List (List UInt8)) (f : Nat), SP B L wr p q en st' n m t' m' b stood had N ∧ TCh p L w wr ∧ restLen wr p + 1 ≤ f ∧ t'.name = nm ∧
    ∀ stf tf, Res en st' (taskL n f had t') stf (fun u => u = tf) → Res en s2 (fun r => taskL n (r.length + 1) [] (task0 nm) r) stf (fun u => u = tf)
def TE (B L p q : Nat) (en : Int) (n : PNet) (m : NM) (nm : List UInt8) (s2 : St) (w wr : World) : Prop := ∃ (t' : PTask) (m' : TM) (st' : St), RS B wr p en st' ∧ TK L wr q p t' m' ∧ NK B wr p n m ∧ TCh p L w wr ∧ t'.name = nm ∧ (t'.vars.length ≤ 1000001 ∧ t'.ins.length ≤ 1000001 ∧ t'.outs.length ≤ 1000001 ∧ t'.cancel.length ≤ 1000001) ∧
    ∀ s9, Res en st' (wantP [125]) s9 (fun _ => True) → Res en s2 (fun r => taskL n (r.length + 1) [] (task0 nm) r) s9 (fun u => u = t')

set_option maxRecDepth 100000 in
set_option maxHeartbeats 100000000 in
theorem readTask_any : TaskReads := by
  intro B p en r n m w h hK hA hnt hnc hnp hr
  have hp := h.lt
  have H0 : Hid (RS B w p en (.ok r) ∧ NK B w p n m ∧ NA n m) := ⟨h, hK, hA⟩
  have HNE : Hid (m.mt ≠ p) := hK.ne.2.2.1
  have c11 := hK.1.2.2.2.2
  have FR : Hid (∀ W, Below w.heap.size w W → Calls Tryz.prog 190 #[ptr p, .map (some m.mt)] W (FreshPost B p en m.ft (n.tasks.map PTask.name) (.ok r) W)) :=
    fun W hW => fresh_post B p m.mt _ _ m.ft _ hA.2.2.1 en (.ok r) W (h.below hW) (hK.2.2.1.2.2.below hW) hK.ne.2.2.1
  generalize hst : (Except.ok r : St) = st at *
  have HST : Hid (Except.ok r = st) := hst
  clear h hK hA hst
  unfold ptr at *
  have hmk : ∀ W : World, Sem.run Tryz.prog (Instr.makeMap 75 none) W = .ok (.map (some W.heap.size)) (W.alloc (.map #[] 0)) := fun W => makeMap_run W
  go_enter Tryz.func141, Tryz.ntmps141
  go_upto_region 0 with fail
  go_cut [2] from 4 (fun s wr => ∃ q mv nm s1, s = .pointer (some ⟨q, 0, none⟩) ∧ Hid (T0 B p en w s1 q mv nm wr ∧ nm.length ≤ 140737488355328 ∧ Res en st (freshP (n.tasks.map PTask.name)) s1 (fun u => u = nm) ∧ ∀ r', s1 = .ok r' → m.ft nm = none))
  case first =>

    refine wp_region_any (by kernel_rfl) ?_
    try (change wpAny _ _ _ _ _ _ _ (World.drew _))
    refine wpAny_take (i := 0) (oi := { dst := some 4, op := Op.move (Operand.tmp 0), type := 137, pos := "task.go:25", after := #[], guard := none }) (v := ?v) (by kernel_rfl) (by kernel_rfl) (by kernel_rfl) (by kernel_rfl) (fun _ _ _ h => h) (Or.inl ⟨by rfl, ?hy⟩) ?_
    case hy => (intro wy; go_simp; try with_reducible rfl)
    refine wpAny_take (i := 1) (oi := { dst := some 5, op := Op.move (Operand.tmp 0), type := 137, pos := "task.go:25", after := #[], guard := none }) (v := ?v) (by kernel_rfl) (by kernel_rfl) (by kernel_rfl) (by kernel_rfl) (fun _ _ _ h => h) (Or.inl ⟨by rfl, ?hy⟩) ?_
    case hy => (intro wy; go_simp; try with_reducible rfl)
    refine wpAny_take (i := 2) (oi := { dst := some 6, op := Op.nilCheck (Operand.tmp 5), type := 0, pos := "task.go:25", after := #[{ on := 1, ground := Ground.data }], guard := none }) (v := ?v) (by kernel_rfl) (by kernel_rfl) (by kernel_rfl) (by kernel_rfl) (fun _ _ _ h => h) (Or.inl ⟨by rfl, ?hy⟩) ?_
    case hy => (intro wy; go_simp; try with_reducible rfl)
    refine wpAny_take (i := 3) (oi := { dst := some 7, op := Op.fieldAddr 77 (Operand.tmp 6) 0, type := 0, pos := "task.go:25", after := #[{ on := 2, ground := Ground.data }], guard := none }) (v := ?v) (by kernel_rfl) (by kernel_rfl) (by kernel_rfl) (by kernel_rfl) (fun _ _ _ h => h) (Or.inl ⟨by rfl, ?hy⟩) ?_
    case hy => (intro wy; go_simp; try with_reducible rfl)
    refine wpAny_take (i := 4) (oi := { dst := some 8, op := Op.move (Operand.tmp 0), type := 137, pos := "task.go:25", after := #[], guard := none }) (v := ?v) (by kernel_rfl) (by kernel_rfl) (by kernel_rfl) (by kernel_rfl) (fun _ _ _ h => h) (Or.inl ⟨by rfl, ?hy⟩) ?_
    case hy => (intro wy; go_simp; try with_reducible rfl)
    refine wpAny_take (i := 5) (oi := { dst := some 9, op := Op.nilCheck (Operand.tmp 8), type := 0, pos := "task.go:25", after := #[{ on := 4, ground := Ground.data }], guard := none }) (v := ?v) (by kernel_rfl) (by kernel_rfl) (by kernel_rfl) (by kernel_rfl) (fun _ _ _ h => h) (Or.inl ⟨by rfl, ?hy⟩) ?_
    case hy => (intro wy; go_simp; try with_reducible rfl)
    refine wpAny_steps (l' := #[true, true, true, true, true, true, false, false, false, false, false, false, false, false]) (a' := { tmps := #[.pointer (some ⟨p, 0, none⟩), undef, undef, undef, .pointer (some ⟨p, 0, none⟩), .pointer (some ⟨p, 0, none⟩), .pointer (some ⟨p, 0, none⟩), .pointer (some ⟨p, 0, none⟩), .pointer (some ⟨p, 0, none⟩), .pointer (some ⟨p, 0, none⟩), undef, undef, undef, undef, undef, undef, undef, undef, undef, undef, undef, undef, undef, undef, undef, undef, undef, undef, undef, undef, undef, undef, undef, undef, undef, undef, undef, undef, undef, undef, undef, undef, undef, undef, undef, undef, undef, undef], defers := [] }) (by kernel_rfl) (by kernel_rfl) (fun F hstep hdone => ?_)
    have L6_7_8_9_10_11_12_13 : ∀ (q : Nat) (mv : Nat) (nm : List UInt8) (s1 : St) (W : World), Hid (T0 B p en w s1 q mv nm W ∧ nm.length ≤ 140737488355328 ∧ Res en st (freshP (n.tasks.map PTask.name)) s1 (fun u => u = nm) ∧ ∀ r', s1 = .ok r' → m.ft nm = none) → F 0 #[true, true, true, true, true, true, true, true, true, true, true, true, true, true] { tmps := #[.pointer (some ⟨p, 0, none⟩), undef, .pointer (some ⟨q, 0, none⟩), undef, .pointer (some ⟨p, 0, none⟩), .pointer (some ⟨p, 0, none⟩), .pointer (some ⟨p, 0, none⟩), .pointer (some ⟨p, 0, none⟩), .pointer (some ⟨p, 0, none⟩), .pointer (some ⟨p, 0, none⟩), .pointer (some ⟨p, 11, none⟩), .map (some m.mt), .string (str nm), .agg #[.string (str nm), .slice none 0 0, .int .i64 1, .int .i64 1, .slice none 0 0, .int .i64 1, .int .i64 1, .slice none 0 0, .slice none 0 0, .slice none 0 0, .int .i64 0, .int .i64 0, .int .i64 0, .int .i64 0], .map (some mv), .agg #[.pointer (some ⟨p, 0, none⟩), .string (str nm), .slice none 0 0, .int .i64 1, .int .i64 1, .slice none 0 0, .int .i64 1, .int .i64 1, .slice none 0 0, .slice none 0 0, .slice none 0 0, .int .i64 0, .int .i64 0, .int .i64 0, .int .i64 0, .map (some mv)], undef, undef, undef, undef, undef, undef, undef, undef, undef, undef, undef, undef, undef, undef, undef, undef, undef, undef, undef, undef, undef, undef, undef, undef, undef, undef, undef, undef, undef, undef, undef, undef], defers := [] } W := by
      intro q mv nm s1 W HW
      refine hdone _ _ _ _ (by kernel_rfl) ?_
      clear hstep hdone hmk FR c11
      go_wp2_with fail
      go_meet
      case rel => exact ⟨q, mv, nm, s1, rfl, HW⟩
    have L6_7_8_9_10_11_12 : ∀ (q : Nat) (mv : Nat) (nm : List UInt8) (s1 : St) (W : World), Hid (F1 B p en m (n.tasks.map PTask.name) st w (some q) (some mv) nm s1 W) → F 1 #[true, true, true, true, true, true, true, true, true, true, true, true, true, false] { tmps := #[.pointer (some ⟨p, 0, none⟩), undef, .pointer (some ⟨q, 0, none⟩), undef, .pointer (some ⟨p, 0, none⟩), .pointer (some ⟨p, 0, none⟩), .pointer (some ⟨p, 0, none⟩), .pointer (some ⟨p, 0, none⟩), .pointer (some ⟨p, 0, none⟩), .pointer (some ⟨p, 0, none⟩), .pointer (some ⟨p, 11, none⟩), .map (some m.mt), .string (str nm), .agg #[.string (str nm), .slice none 0 0, .int .i64 1, .int .i64 1, .slice none 0 0, .int .i64 1, .int .i64 1, .slice none 0 0, .slice none 0 0, .slice none 0 0, .int .i64 0, .int .i64 0, .int .i64 0, .int .i64 0], .map (some mv), .agg #[.pointer (some ⟨p, 0, none⟩), .string (str nm), .slice none 0 0, .int .i64 1, .int .i64 1, .slice none 0 0, .int .i64 1, .int .i64 1, .slice none 0 0, .slice none 0 0, .slice none 0 0, .int .i64 0, .int .i64 0, .int .i64 0, .int .i64 0, .map (some mv)], undef, undef, undef, undef, undef, undef, undef, undef, undef, undef, undef, undef, undef, undef, undef, undef, undef, undef, undef, undef, undef, undef, undef, undef, undef, undef, undef, undef, undef, undef, undef, undef], defers := [] } W := by
      intro q mv nm s1 W HW
      refine hstep _ _ _ _ [13] (by kernel_rfl) (by simp) ?_
      refine AllF.cons (o := { dst := none, op := Op.store 209 (Operand.tmp 2) (Operand.tmp 15), type := 0, pos := "task.go:25", after := #[{ on := 12, ground := Ground.data }, { on := 11, ground := Ground.data }, { on := 9, ground := Ground.chain }, { on := 0, ground := Ground.phase }, { on := 1, ground := Ground.phase }, { on := 2, ground := Ground.phase }, { on := 3, ground := Ground.phase }, { on := 4, ground := Ground.phase }, { on := 5, ground := Ground.phase }, { on := 6, ground := Ground.phase }, { on := 7, ground := Ground.phase }, { on := 8, ground := Ground.phase }, { on := 9, ground := Ground.phase }, { on := 10, ground := Ground.phase }, { on := 11, ground := Ground.phase }, { on := 12, ground := Ground.phase }], guard := none }) (l' := #[true, true, true, true, true, true, true, true, true, true, true, true, true, true]) (by kernel_rfl) (by kernel_rfl) (fun K hK => ?_) ?_
      · obtain ⟨⟨c0, c1, c2, c3, c4, c5, c6, c7, c8, c9, c10, c11, c12, c13, c14, c15, ql⟩, f0, f1, f2, f3, f4, f5, f6, f7, f8, f9, f10, f11, f12, f13, f14, f15⟩ := sixteen HW.out.cells
        go_simp
        exact hK _ _ (L6_7_8_9_10_11_12_13 _ _ _ _ _ (HW.out.fin hp))
      exact AllF.nil
    have L6_7_8_9_10_12 : ∀ (q : Nat) (mv : Nat) (nm : List UInt8) (s1 : St) (W : World), Hid (F1 B p en m (n.tasks.map PTask.name) st w (some q) (some mv) nm s1 W) → F 2 #[true, true, true, true, true, true, true, true, true, true, true, false, true, false] { tmps := #[.pointer (some ⟨p, 0, none⟩), undef, .pointer (some ⟨q, 0, none⟩), undef, .pointer (some ⟨p, 0, none⟩), .pointer (some ⟨p, 0, none⟩), .pointer (some ⟨p, 0, none⟩), .pointer (some ⟨p, 0, none⟩), .pointer (some ⟨p, 0, none⟩), .pointer (some ⟨p, 0, none⟩), .pointer (some ⟨p, 11, none⟩), .map (some m.mt), .string (str nm), .agg #[.string (str nm), .slice none 0 0, .int .i64 1, .int .i64 1, .slice none 0 0, .int .i64 1, .int .i64 1, .slice none 0 0, .slice none 0 0, .slice none 0 0, .int .i64 0, .int .i64 0, .int .i64 0, .int .i64 0], .map (some mv), undef, undef, undef, undef, undef, undef, undef, undef, undef, undef, undef, undef, undef, undef, undef, undef, undef, undef, undef, undef, undef, undef, undef, undef, undef, undef, undef, undef, undef, undef, undef, undef, undef], defers := [] } W := by
      intro q mv nm s1 W HW
      refine hstep _ _ _ _ [11] (by kernel_rfl) (by simp) ?_
      refine AllF.cons (o := { dst := some 15, op := Op.build 209 #[(0, Operand.tmp 4), (1, Operand.tmp 13), (2, Operand.tmp 14)], type := 209, pos := "task.go:25", after := #[{ on := 0, ground := Ground.data }, { on := 9, ground := Ground.data }, { on := 10, ground := Ground.data }], guard := none }) (l' := #[true, true, true, true, true, true, true, true, true, true, true, true, true, false]) (by kernel_rfl) (by kernel_rfl) (fun K hK => ?_) ?_
      · go_simp
        exact hK _ _ (L6_7_8_9_10_11_12 _ _ _ _ _ HW)
      exact AllF.nil
    have L6_7_8_9_10_11 : ∀ (mv : Nat) (nm : List UInt8) (s1 : St) (W : World), Hid (F1 B p en m (n.tasks.map PTask.name) st w none (some mv) nm s1 W) → F 2 #[true, true, true, true, true, true, true, true, true, true, true, true, false, false] { tmps := #[.pointer (some ⟨p, 0, none⟩), undef, undef, undef, .pointer (some ⟨p, 0, none⟩), .pointer (some ⟨p, 0, none⟩), .pointer (some ⟨p, 0, none⟩), .pointer (some ⟨p, 0, none⟩), .pointer (some ⟨p, 0, none⟩), .pointer (some ⟨p, 0, none⟩), .pointer (some ⟨p, 11, none⟩), .map (some m.mt), .string (str nm), .agg #[.string (str nm), .slice none 0 0, .int .i64 1, .int .i64 1, .slice none 0 0, .int .i64 1, .int .i64 1, .slice none 0 0, .slice none 0 0, .slice none 0 0, .int .i64 0, .int .i64 0, .int .i64 0, .int .i64 0], .map (some mv), .agg #[.pointer (some ⟨p, 0, none⟩), .string (str nm), .slice none 0 0, .int .i64 1, .int .i64 1, .slice none 0 0, .int .i64 1, .int .i64 1, .slice none 0 0, .slice none 0 0, .slice none 0 0, .int .i64 0, .int .i64 0, .int .i64 0, .int .i64 0, .map (some mv)], undef, undef, undef, undef, undef, undef, undef, undef, undef, undef, undef, undef, undef, undef, undef, undef, undef, undef, undef, undef, undef, undef, undef, undef, undef, undef, undef, undef, undef, undef, undef, undef], defers := [] } W := by
      intro mv nm s1 W HW
      refine hstep _ _ _ _ [12] (by kernel_rfl) (by simp) ?_
      refine AllF.cons (o := { dst := some 2, op := Op.alloc 209, type := 0, pos := "task.go:25", after := #[], guard := none }) (l' := #[true, true, true, true, true, true, true, true, true, true, true, true, true, false]) (by kernel_rfl) (by kernel_rfl) (fun K hK => ?_) ?_
      · go_simp
        exact hK _ _ (L6_7_8_9_10_11_12 _ _ _ _ _ (F1.alB HW.out rfl))
      exact AllF.nil
    have L6_7_8_10_12 : ∀ (q : Nat) (mv : Nat) (nm : List UInt8) (s1 : St) (W : World), Hid (F1 B p en m (n.tasks.map PTask.name) st w (some q) (some mv) nm s1 W) → F 3 #[true, true, true, true, true, true, true, true, true, false, true, false, true, false] { tmps := #[.pointer (some ⟨p, 0, none⟩), undef, .pointer (some ⟨q, 0, none⟩), undef, .pointer (some ⟨p, 0, none⟩), .pointer (some ⟨p, 0, none⟩), .pointer (some ⟨p, 0, none⟩), .pointer (some ⟨p, 0, none⟩), .pointer (some ⟨p, 0, none⟩), .pointer (some ⟨p, 0, none⟩), .pointer (some ⟨p, 11, none⟩), .map (some m.mt), .string (str nm), undef, .map (some mv), undef, undef, undef, undef, undef, undef, undef, undef, undef, undef, undef, undef, undef, undef, undef, undef, undef, undef, undef, undef, undef, undef, undef, undef, undef, undef, undef, undef, undef, undef, undef, undef, undef], defers := [] } W := by
      intro q mv nm s1 W HW
      refine hstep _ _ _ _ [9] (by kernel_rfl) (by simp) ?_
      refine AllF.cons (o := { dst := some 13, op := Op.call { callee := Callee.value (Operand.func 195), args := #[Operand.tmp 12], argTypes := #[9] }, type := 63, pos := "task.go:25", after := #[{ on := 8, ground := Ground.data }, { on := 8, ground := Ground.chain }], guard := none }) (l' := #[true, true, true, true, true, true, true, true, true, true, true, false, true, false]) (by kernel_rfl) (by kernel_rfl) (fun K hK => ?_) ?_
      · go_simp
        go_at_call 195
        refine (F1.plain HW.out).mono ?_
        rintro e w2 ⟨he, KG⟩
        unfold plainC at he
        subst he
        try go_simp
        exact hK _ _ (L6_7_8_9_10_12 _ _ _ _ _ KG)
      exact AllF.nil
    have L6_7_8_9_12 : ∀ (q : Nat) (nm : List UInt8) (s1 : St) (W : World), Hid (F1 B p en m (n.tasks.map PTask.name) st w (some q) none nm s1 W) → F 3 #[true, true, true, true, true, true, true, true, true, true, false, false, true, false] { tmps := #[.pointer (some ⟨p, 0, none⟩), undef, .pointer (some ⟨q, 0, none⟩), undef, .pointer (some ⟨p, 0, none⟩), .pointer (some ⟨p, 0, none⟩), .pointer (some ⟨p, 0, none⟩), .pointer (some ⟨p, 0, none⟩), .pointer (some ⟨p, 0, none⟩), .pointer (some ⟨p, 0, none⟩), .pointer (some ⟨p, 11, none⟩), .map (some m.mt), .string (str nm), .agg #[.string (str nm), .slice none 0 0, .int .i64 1, .int .i64 1, .slice none 0 0, .int .i64 1, .int .i64 1, .slice none 0 0, .slice none 0 0, .slice none 0 0, .int .i64 0, .int .i64 0, .int .i64 0, .int .i64 0], undef, undef, undef, undef, undef, undef, undef, undef, undef, undef, undef, undef, undef, undef, undef, undef, undef, undef, undef, undef, undef, undef, undef, undef, undef, undef, undef, undef, undef, undef, undef, undef, undef, undef], defers := [] } W := by
      intro q nm s1 W HW
      refine hstep _ _ _ _ [10] (by kernel_rfl) (by simp) ?_
      refine AllF.cons (o := { dst := some 14, op := Op.makeMap 75 none, type := 75, pos := "task.go:25", after := #[], guard := none }) (l' := #[true, true, true, true, true, true, true, true, true, true, true, false, true, false]) (by kernel_rfl) (by kernel_rfl) (fun K hK => ?_) ?_
      · go_simp
        exact hK _ _ (L6_7_8_9_10_12 _ _ _ _ _ (F1.alM HW.out rfl))
      exact AllF.nil
    have L6_7_8_9_10 : ∀ (mv : Nat) (nm : List UInt8) (s1 : St) (W : World), Hid (F1 B p en m (n.tasks.map PTask.name) st w none (some mv) nm s1 W) → F 3 #[true, true, true, true, true, true, true, true, true, true, true, false, false, false] { tmps := #[.pointer (some ⟨p, 0, none⟩), undef, undef, undef, .pointer (some ⟨p, 0, none⟩), .pointer (some ⟨p, 0, none⟩), .pointer (some ⟨p, 0, none⟩), .pointer (some ⟨p, 0, none⟩), .pointer (some ⟨p, 0, none⟩), .pointer (some ⟨p, 0, none⟩), .pointer (some ⟨p, 11, none⟩), .map (some m.mt), .string (str nm), .agg #[.string (str nm), .slice none 0 0, .int .i64 1, .int .i64 1, .slice none 0 0, .int .i64 1, .int .i64 1, .slice none 0 0, .slice none 0 0, .slice none 0 0, .int .i64 0, .int .i64 0, .int .i64 0, .int .i64 0], .map (some mv), undef, undef, undef, undef, undef, undef, undef, undef, undef, undef, undef, undef, undef, undef, undef, undef, undef, undef, undef, undef, undef, undef, undef, undef, undef, undef, undef, undef, undef, undef, undef, undef, undef], defers := [] } W := by
      intro mv nm s1 W HW
      refine hstep _ _ _ _ [11, 12] (by kernel_rfl) (by simp) ?_
      refine AllF.cons (o := { dst := some 15, op := Op.build 209 #[(0, Operand.tmp 4), (1, Operand.tmp 13), (2, Operand.tmp 14)], type := 209, pos := "task.go:25", after := #[{ on := 0, ground := Ground.data }, { on := 9, ground := Ground.data }, { on := 10, ground := Ground.data }], guard := none }) (l' := #[true, true, true, true, true, true, true, true, true, true, true, true, false, false]) (by kernel_rfl) (by kernel_rfl) (fun K hK => ?_) ?_
      · go_simp
        exact hK _ _ (L6_7_8_9_10_11 _ _ _ _ HW)
      refine AllF.cons (o := { dst := some 2, op := Op.alloc 209, type := 0, pos := "task.go:25", after := #[], guard := none }) (l' := #[true, true, true, true, true, true, true, true, true, true, true, false, true, false]) (by kernel_rfl) (by kernel_rfl) (fun K hK => ?_) ?_
      · go_simp
        exact hK _ _ (L6_7_8_9_10_12 _ _ _ _ _ (F1.alB HW.out rfl))
      exact AllF.nil
    have L6_7_10_12 : ∀ (q : Nat) (mv : Nat) (W : World), Hid (G0 w (some q) (some mv) W) → F 4 #[true, true, true, true, true, true, true, true, false, false, true, false, true, false] { tmps := #[.pointer (some ⟨p, 0, none⟩), undef, .pointer (some ⟨q, 0, none⟩), undef, .pointer (some ⟨p, 0, none⟩), .pointer (some ⟨p, 0, none⟩), .pointer (some ⟨p, 0, none⟩), .pointer (some ⟨p, 0, none⟩), .pointer (some ⟨p, 0, none⟩), .pointer (some ⟨p, 0, none⟩), .pointer (some ⟨p, 11, none⟩), .map (some m.mt), undef, undef, .map (some mv), undef, undef, undef, undef, undef, undef, undef, undef, undef, undef, undef, undef, undef, undef, undef, undef, undef, undef, undef, undef, undef, undef, undef, undef, undef, undef, undef, undef, undef, undef, undef, undef, undef], defers := [] } W := by
      intro q mv W HW
      refine hstep _ _ _ _ [8] (by kernel_rfl) (by simp) ?_
      refine AllF.cons (o := { dst := some 12, op := Op.call { callee := Callee.value (Operand.func 190), args := #[Operand.tmp 7, Operand.tmp 11], argTypes := #[73, 75] }, type := 9, pos := "task.go:25", after := #[{ on := 3, ground := Ground.data }, { on := 7, ground := Ground.data }], guard := none }) (l' := #[true, true, true, true, true, true, true, true, true, false, true, false, true, false]) (by kernel_rfl) (by kernel_rfl) (fun K hK => ?_) ?_
      · go_simp
        go_at_call 190
        refine (G0.fresh HW.out hp FR.out).mono ?_
        rintro e w1 ⟨nm, s1, he, KF⟩
        subst he
        try go_simp
        exact hK _ _ (L6_7_8_10_12 _ _ _ _ _ KF)
      exact AllF.nil
    have L6_7_8_12 : ∀ (q : Nat) (nm : List UInt8) (s1 : St) (W : World), Hid (F1 B p en m (n.tasks.map PTask.name) st w (some q) none nm s1 W) → F 4 #[true, true, true, true, true, true, true, true, true, false, false, false, true, false] { tmps := #[.pointer (some ⟨p, 0, none⟩), undef, .pointer (some ⟨q, 0, none⟩), undef, .pointer (some ⟨p, 0, none⟩), .pointer (some ⟨p, 0, none⟩), .pointer (some ⟨p, 0, none⟩), .pointer (some ⟨p, 0, none⟩), .pointer (some ⟨p, 0, none⟩), .pointer (some ⟨p, 0, none⟩), .pointer (some ⟨p, 11, none⟩), .map (some m.mt), .string (str nm), undef, undef, undef, undef, undef, undef, undef, undef, undef, undef, undef, undef, undef, undef, undef, undef, undef, undef, undef, undef, undef, undef, undef, undef, undef, undef, undef, undef, undef, undef, undef, undef, undef, undef, undef], defers := [] } W := by
      intro q nm s1 W HW
      refine hstep _ _ _ _ [9, 10] (by kernel_rfl) (by simp) ?_
      refine AllF.cons (o := { dst := some 13, op := Op.call { callee := Callee.value (Operand.func 195), args := #[Operand.tmp 12], argTypes := #[9] }, type := 63, pos := "task.go:25", after := #[{ on := 8, ground := Ground.data }, { on := 8, ground := Ground.chain }], guard := none }) (l' := #[true, true, true, true, true, true, true, true, true, true, false, false, true, false]) (by kernel_rfl) (by kernel_rfl) (fun K hK => ?_) ?_
      · go_simp
        go_at_call 195
        refine (F1.plain HW.out).mono ?_
        rintro e w2 ⟨he, KG⟩
        unfold plainC at he
        subst he
        try go_simp
        exact hK _ _ (L6_7_8_9_12 _ _ _ _ KG)
      refine AllF.cons (o := { dst := some 14, op := Op.makeMap 75 none, type := 75, pos := "task.go:25", after := #[], guard := none }) (l' := #[true, true, true, true, true, true, true, true, true, false, true, false, true, false]) (by kernel_rfl) (by kernel_rfl) (fun K hK => ?_) ?_
      · go_simp
        exact hK _ _ (L6_7_8_10_12 _ _ _ _ _ (F1.alM HW.out rfl))
      exact AllF.nil
    have L6_7_8_10 : ∀ (mv : Nat) (nm : List UInt8) (s1 : St) (W : World), Hid (F1 B p en m (n.tasks.map PTask.name) st w none (some mv) nm s1 W) → F 4 #[true, true, true, true, true, true, true, true, true, false, true, false, false, false] { tmps := #[.pointer (some ⟨p, 0, none⟩), undef, undef, undef, .pointer (some ⟨p, 0, none⟩), .pointer (some ⟨p, 0, none⟩), .pointer (some ⟨p, 0, none⟩), .pointer (some ⟨p, 0, none⟩), .pointer (some ⟨p, 0, none⟩), .pointer (some ⟨p, 0, none⟩), .pointer (some ⟨p, 11, none⟩), .map (some m.mt), .string (str nm), undef, .map (some mv), undef, undef, undef, undef, undef, undef, undef, undef, undef, undef, undef, undef, undef, undef, undef, undef, undef, undef, undef, undef, undef, undef, undef, undef, undef, undef, undef, undef, undef, undef, undef, undef, undef], defers := [] } W := by
      intro mv nm s1 W HW
      refine hstep _ _ _ _ [9, 12] (by kernel_rfl) (by simp) ?_
      refine AllF.cons (o := { dst := some 13, op := Op.call { callee := Callee.value (Operand.func 195), args := #[Operand.tmp 12], argTypes := #[9] }, type := 63, pos := "task.go:25", after := #[{ on := 8, ground := Ground.data }, { on := 8, ground := Ground.chain }], guard := none }) (l' := #[true, true, true, true, true, true, true, true, true, true, true, false, false, false]) (by kernel_rfl) (by kernel_rfl) (fun K hK => ?_) ?_
      · go_simp
        go_at_call 195
        refine (F1.plain HW.out).mono ?_
        rintro e w2 ⟨he, KG⟩
        unfold plainC at he
        subst he
        try go_simp
        exact hK _ _ (L6_7_8_9_10 _ _ _ _ KG)
      refine AllF.cons (o := { dst := some 2, op := Op.alloc 209, type := 0, pos := "task.go:25", after := #[], guard := none }) (l' := #[true, true, true, true, true, true, true, true, true, false, true, false, true, false]) (by kernel_rfl) (by kernel_rfl) (fun K hK => ?_) ?_
      · go_simp
        exact hK _ _ (L6_7_8_10_12 _ _ _ _ _ (F1.alB HW.out rfl))
      exact AllF.nil
    have L6_7_8_9 : ∀ (nm : List UInt8) (s1 : St) (W : World), Hid (F1 B p en m (n.tasks.map PTask.name) st w none none nm s1 W) → F 4 #[true, true, true, true, true, true, true, true, true, true, false, false, false, false] { tmps := #[.pointer (some ⟨p, 0, none⟩), undef, undef, undef, .pointer (some ⟨p, 0, none⟩), .pointer (some ⟨p, 0, none⟩), .pointer (some ⟨p, 0, none⟩), .pointer (some ⟨p, 0, none⟩), .pointer (some ⟨p, 0, none⟩), .pointer (some ⟨p, 0, none⟩), .pointer (some ⟨p, 11, none⟩), .map (some m.mt), .string (str nm), .agg #[.string (str nm), .slice none 0 0, .int .i64 1, .int .i64 1, .slice none 0 0, .int .i64 1, .int .i64 1, .slice none 0 0, .slice none 0 0, .slice none 0 0, .int .i64 0, .int .i64 0, .int .i64 0, .int .i64 0], undef, undef, undef, undef, undef, undef, undef, undef, undef, undef, undef, undef, undef, undef, undef, undef, undef, undef, undef, undef, undef, undef, undef, undef, undef, undef, undef, undef, undef, undef, undef, undef, undef, undef], defers := [] } W := by
      intro nm s1 W HW
      refine hstep _ _ _ _ [10, 12] (by kernel_rfl) (by simp) ?_
      refine AllF.cons (o := { dst := some 14, op := Op.makeMap 75 none, type := 75, pos := "task.go:25", after := #[], guard := none }) (l' := #[true, true, true, true, true, true, true, true, true, true, true, false, false, false]) (by kernel_rfl) (by kernel_rfl) (fun K hK => ?_) ?_
      · go_simp
        exact hK _ _ (L6_7_8_9_10 _ _ _ _ (F1.alM HW.out rfl))
      refine AllF.cons (o := { dst := some 2, op := Op.alloc 209, type := 0, pos := "task.go:25", after := #[], guard := none }) (l' := #[true, true, true, true, true, true, true, true, true, true, false, false, true, false]) (by kernel_rfl) (by kernel_rfl) (fun K hK => ?_) ?_
      · go_simp
        exact hK _ _ (L6_7_8_9_12 _ _ _ _ (F1.alB HW.out rfl))
      exact AllF.nil
    have L6_10_12 : ∀ (q : Nat) (mv : Nat) (W : World), Hid (G0 w (some q) (some mv) W) → F 5 #[true, true, true, true, true, true, true, false, false, false, true, false, true, false] { tmps := #[.pointer (some ⟨p, 0, none⟩), undef, .pointer (some ⟨q, 0, none⟩), undef, .pointer (some ⟨p, 0, none⟩), .pointer (some ⟨p, 0, none⟩), .pointer (some ⟨p, 0, none⟩), .pointer (some ⟨p, 0, none⟩), .pointer (some ⟨p, 0, none⟩), .pointer (some ⟨p, 0, none⟩), .pointer (some ⟨p, 11, none⟩), undef, undef, undef, .map (some mv), undef, undef, undef, undef, undef, undef, undef, undef, undef, undef, undef, undef, undef, undef, undef, undef, undef, undef, undef, undef, undef, undef, undef, undef, undef, undef, undef, undef, undef, undef, undef, undef, undef], defers := [] } W := by
      intro q mv W HW
      refine hstep _ _ _ _ [7] (by kernel_rfl) (by simp) ?_
      refine AllF.cons (o := { dst := some 11, op := Op.load 75 (Operand.tmp 10), type := 75, pos := "task.go:25", after := #[{ on := 6, ground := Ground.data }], guard := none }) (l' := #[true, true, true, true, true, true, true, true, false, false, true, false, true, false]) (by kernel_rfl) (by kernel_rfl) (fun K hK => ?_) ?_
      · have c : W.cell? ⟨p, 11, none⟩ = some (.map (some m.mt)) := (HW.out.1.cell (p := ⟨p, 11, none⟩) hp).trans c11
        go_simp
        exact hK _ _ (L6_7_10_12 _ _ _ HW)
      exact AllF.nil
    have L6_7_12 : ∀ (q : Nat) (W : World), Hid (G0 w (some q) none W) → F 5 #[true, true, true, true, true, true, true, true, false, false, false, false, true, false] { tmps := #[.pointer (some ⟨p, 0, none⟩), undef, .pointer (some ⟨q, 0, none⟩), undef, .pointer (some ⟨p, 0, none⟩), .pointer (some ⟨p, 0, none⟩), .pointer (some ⟨p, 0, none⟩), .pointer (some ⟨p, 0, none⟩), .pointer (some ⟨p, 0, none⟩), .pointer (some ⟨p, 0, none⟩), .pointer (some ⟨p, 11, none⟩), .map (some m.mt), undef, undef, undef, undef, undef, undef, undef, undef, undef, undef, undef, undef, undef, undef, undef, undef, undef, undef, undef, undef, undef, undef, undef, undef, undef, undef, undef, undef, undef, undef, undef, undef, undef, undef, undef, undef], defers := [] } W := by
      intro q W HW
      refine hstep _ _ _ _ [8, 10] (by kernel_rfl) (by simp) ?_
      refine AllF.cons (o := { dst := some 12, op := Op.call { callee := Callee.value (Operand.func 190), args := #[Operand.tmp 7, Operand.tmp 11], argTypes := #[73, 75] }, type := 9, pos := "task.go:25", after := #[{ on := 3, ground := Ground.data }, { on := 7, ground := Ground.data }], guard := none }) (l' := #[true, true, true, true, true, true, true, true, true, false, false, false, true, false]) (by kernel_rfl) (by kernel_rfl) (fun K hK => ?_) ?_
      · go_simp
        go_at_call 190
        refine (G0.fresh HW.out hp FR.out).mono ?_
        rintro e w1 ⟨nm, s1, he, KF⟩
        subst he
        try go_simp
        exact hK _ _ (L6_7_8_12 _ _ _ _ KF)
      refine AllF.cons (o := { dst := some 14, op := Op.makeMap 75 none, type := 75, pos := "task.go:25", after := #[], guard := none }) (l' := #[true, true, true, true, true, true, true, true, false, false, true, false, true, false]) (by kernel_rfl) (by kernel_rfl) (fun K hK => ?_) ?_
      · go_simp
        exact hK _ _ (L6_7_10_12 _ _ _ (G0.alM HW.out rfl))
      exact AllF.nil
    have L6_7_10 : ∀ (mv : Nat) (W : World), Hid (G0 w none (some mv) W) → F 5 #[true, true, true, true, true, true, true, true, false, false, true, false, false, false] { tmps := #[.pointer (some ⟨p, 0, none⟩), undef, undef, undef, .pointer (some ⟨p, 0, none⟩), .pointer (some ⟨p, 0, none⟩), .pointer (some ⟨p, 0, none⟩), .pointer (some ⟨p, 0, none⟩), .pointer (some ⟨p, 0, none⟩), .pointer (some ⟨p, 0, none⟩), .pointer (some ⟨p, 11, none⟩), .map (some m.mt), undef, undef, .map (some mv), undef, undef, undef, undef, undef, undef, undef, undef, undef, undef, undef, undef, undef, undef, undef, undef, undef, undef, undef, undef, undef, undef, undef, undef, undef, undef, undef, undef, undef, undef, undef, undef, undef], defers := [] } W := by
      intro mv W HW
      refine hstep _ _ _ _ [8, 12] (by kernel_rfl) (by simp) ?_
      refine AllF.cons (o := { dst := some 12, op := Op.call { callee := Callee.value (Operand.func 190), args := #[Operand.tmp 7, Operand.tmp 11], argTypes := #[73, 75] }, type := 9, pos := "task.go:25", after := #[{ on := 3, ground := Ground.data }, { on := 7, ground := Ground.data }], guard := none }) (l' := #[true, true, true, true, true, true, true, true, true, false, true, false, false, false]) (by kernel_rfl) (by kernel_rfl) (fun K hK => ?_) ?_
      · go_simp
        go_at_call 190
        refine (G0.fresh HW.out hp FR.out).mono ?_
        rintro e w1 ⟨nm, s1, he, KF⟩
        subst he
        try go_simp
        exact hK _ _ (L6_7_8_10 _ _ _ _ KF)
      refine AllF.cons (o := { dst := some 2, op := Op.alloc 209, type := 0, pos := "task.go:25", after := #[], guard := none }) (l' := #[true, true, true, true, true, true, true, true, false, false, true, false, true, false]) (by kernel_rfl) (by kernel_rfl) (fun K hK => ?_) ?_
      · go_simp
        exact hK _ _ (L6_7_10_12 _ _ _ (G0.alB HW.out rfl))
      exact AllF.nil
    have L6_7_8 : ∀ (nm : List UInt8) (s1 : St) (W : World), Hid (F1 B p en m (n.tasks.map PTask.name) st w none none nm s1 W) → F 5 #[true, true, true, true, true, true, true, true, true, false, false, false, false, false] { tmps := #[.pointer (some ⟨p, 0, none⟩), undef, undef, undef, .pointer (some ⟨p, 0, none⟩), .pointer (some ⟨p, 0, none⟩), .pointer (some ⟨p, 0, none⟩), .pointer (some ⟨p, 0, none⟩), .pointer (some ⟨p, 0, none⟩), .pointer (some ⟨p, 0, none⟩), .pointer (some ⟨p, 11, none⟩), .map (some m.mt), .string (str nm), undef, undef, undef, undef, undef, undef, undef, undef, undef, undef, undef, undef, undef, undef, undef, undef, undef, undef, undef, undef, undef, undef, undef, undef, undef, undef, undef, undef, undef, undef, undef, undef, undef, undef, undef], defers := [] } W := by
      intro nm s1 W HW
      refine hstep _ _ _ _ [9, 10, 12] (by kernel_rfl) (by simp) ?_
      refine AllF.cons (o := { dst := some 13, op := Op.call { callee := Callee.value (Operand.func 195), args := #[Operand.tmp 12], argTypes := #[9] }, type := 63, pos := "task.go:25", after := #[{ on := 8, ground := Ground.data }, { on := 8, ground := Ground.chain }], guard := none }) (l' := #[true, true, true, true, true, true, true, true, true, true, false, false, false, false]) (by kernel_rfl) (by kernel_rfl) (fun K hK => ?_) ?_
      · go_simp
        go_at_call 195
        refine (F1.plain HW.out).mono ?_
        rintro e w2 ⟨he, KG⟩
        unfold plainC at he
        subst he
        try go_simp
        exact hK _ _ (L6_7_8_9 _ _ _ KG)
      refine AllF.cons (o := { dst := some 14, op := Op.makeMap 75 none, type := 75, pos := "task.go:25", after := #[], guard := none }) (l' := #[true, true, true, true, true, true, true, true, true, false, true, false, false, false]) (by kernel_rfl) (by kernel_rfl) (fun K hK => ?_) ?_
      · go_simp
        exact hK _ _ (L6_7_8_10 _ _ _ _ (F1.alM HW.out rfl))
      refine AllF.cons (o := { dst := some 2, op := Op.alloc 209, type := 0, pos := "task.go:25", after := #[], guard := none }) (l' := #[true, true, true, true, true, true, true, true, true, false, false, false, true, false]) (by kernel_rfl) (by kernel_rfl) (fun K hK => ?_) ?_
      · go_simp
        exact hK _ _ (L6_7_8_12 _ _ _ _ (F1.alB HW.out rfl))
      exact AllF.nil
    have L10_12 : ∀ (q : Nat) (mv : Nat) (W : World), Hid (G0 w (some q) (some mv) W) → F 6 #[true, true, true, true, true, true, false, false, false, false, true, false, true, false] { tmps := #[.pointer (some ⟨p, 0, none⟩), undef, .pointer (some ⟨q, 0, none⟩), undef, .pointer (some ⟨p, 0, none⟩), .pointer (some ⟨p, 0, none⟩), .pointer (some ⟨p, 0, none⟩), .pointer (some ⟨p, 0, none⟩), .pointer (some ⟨p, 0, none⟩), .pointer (some ⟨p, 0, none⟩), undef, undef, undef, undef, .map (some mv), undef, undef, undef, undef, undef, undef, undef, undef, undef, undef, undef, undef, undef, undef, undef, undef, undef, undef, undef, undef, undef, undef, undef, undef, undef, undef, undef, undef, undef, undef, undef, undef, undef], defers := [] } W := by
      intro q mv W HW
      refine hstep _ _ _ _ [6] (by kernel_rfl) (by simp) ?_
      refine AllF.cons (o := { dst := some 10, op := Op.fieldAddr 77 (Operand.tmp 9) 4, type := 0, pos := "task.go:25", after := #[{ on := 5, ground := Ground.data }], guard := none }) (l' := #[true, true, true, true, true, true, true, false, false, false, true, false, true, false]) (by kernel_rfl) (by kernel_rfl) (fun K hK => ?_) ?_
      · go_simp
        exact hK _ _ (L6_10_12 _ _ _ HW)
      exact AllF.nil
    have L6_12 : ∀ (q : Nat) (W : World), Hid (G0 w (some q) none W) → F 6 #[true, true, true, true, true, true, true, false, false, false, false, false, true, false] { tmps := #[.pointer (some ⟨p, 0, none⟩), undef, .pointer (some ⟨q, 0, none⟩), undef, .pointer (some ⟨p, 0, none⟩), .pointer (some ⟨p, 0, none⟩), .pointer (some ⟨p, 0, none⟩), .pointer (some ⟨p, 0, none⟩), .pointer (some ⟨p, 0, none⟩), .pointer (some ⟨p, 0, none⟩), .pointer (some ⟨p, 11, none⟩), undef, undef, undef, undef, undef, undef, undef, undef, undef, undef, undef, undef, undef, undef, undef, undef, undef, undef, undef, undef, undef, undef, undef, undef, undef, undef, undef, undef, undef, undef, undef, undef, undef, undef, undef, undef, undef], defers := [] } W := by
      intro q W HW
      refine hstep _ _ _ _ [7, 10] (by kernel_rfl) (by simp) ?_
      refine AllF.cons (o := { dst := some 11, op := Op.load 75 (Operand.tmp 10), type := 75, pos := "task.go:25", after := #[{ on := 6, ground := Ground.data }], guard := none }) (l' := #[true, true, true, true, true, true, true, true, false, false, false, false, true, false]) (by kernel_rfl) (by kernel_rfl) (fun K hK => ?_) ?_
      · have c : W.cell? ⟨p, 11, none⟩ = some (.map (some m.mt)) := (HW.out.1.cell (p := ⟨p, 11, none⟩) hp).trans c11
        go_simp
        exact hK _ _ (L6_7_12 _ _ HW)
      refine AllF.cons (o := { dst := some 14, op := Op.makeMap 75 none, type := 75, pos := "task.go:25", after := #[], guard := none }) (l' := #[true, true, true, true, true, true, true, false, false, false, true, false, true, false]) (by kernel_rfl) (by kernel_rfl) (fun K hK => ?_) ?_
      · go_simp
        exact hK _ _ (L6_10_12 _ _ _ (G0.alM HW.out rfl))
      exact AllF.nil
    have L6_10 : ∀ (mv : Nat) (W : World), Hid (G0 w none (some mv) W) → F 6 #[true, true, true, true, true, true, true, false, false, false, true, false, false, false] { tmps := #[.pointer (some ⟨p, 0, none⟩), undef, undef, undef, .pointer (some ⟨p, 0, none⟩), .pointer (some ⟨p, 0, none⟩), .pointer (some ⟨p, 0, none⟩), .pointer (some ⟨p, 0, none⟩), .pointer (some ⟨p, 0, none⟩), .pointer (some ⟨p, 0, none⟩), .pointer (some ⟨p, 11, none⟩), undef, undef, undef, .map (some mv), undef, undef, undef, undef, undef, undef, undef, undef, undef, undef, undef, undef, undef, undef, undef, undef, undef, undef, undef, undef, undef, undef, undef, undef, undef, undef, undef, undef, undef, undef, undef, undef, undef], defers := [] } W := by
      intro mv W HW
      refine hstep _ _ _ _ [7, 12] (by kernel_rfl) (by simp) ?_
      refine AllF.cons (o := { dst := some 11, op := Op.load 75 (Operand.tmp 10), type := 75, pos := "task.go:25", after := #[{ on := 6, ground := Ground.data }], guard := none }) (l' := #[true, true, true, true, true, true, true, true, false, false, true, false, false, false]) (by kernel_rfl) (by kernel_rfl) (fun K hK => ?_) ?_
      · have c : W.cell? ⟨p, 11, none⟩ = some (.map (some m.mt)) := (HW.out.1.cell (p := ⟨p, 11, none⟩) hp).trans c11
        go_simp
        exact hK _ _ (L6_7_10 _ _ HW)
      refine AllF.cons (o := { dst := some 2, op := Op.alloc 209, type := 0, pos := "task.go:25", after := #[], guard := none }) (l' := #[true, true, true, true, true, true, true, false, false, false, true, false, true, false]) (by kernel_rfl) (by kernel_rfl) (fun K hK => ?_) ?_
      · go_simp
        exact hK _ _ (L6_10_12 _ _ _ (G0.alB HW.out rfl))
      exact AllF.nil
    have L6_7 : ∀ (W : World), Hid (G0 w none none W) → F 6 #[true, true, true, true, true, true, true, true, false, false, false, false, false, false] { tmps := #[.pointer (some ⟨p, 0, none⟩), undef, undef, undef, .pointer (some ⟨p, 0, none⟩), .pointer (some ⟨p, 0, none⟩), .pointer (some ⟨p, 0, none⟩), .pointer (some ⟨p, 0, none⟩), .pointer (some ⟨p, 0, none⟩), .pointer (some ⟨p, 0, none⟩), .pointer (some ⟨p, 11, none⟩), .map (some m.mt), undef, undef, undef, undef, undef, undef, undef, undef, undef, undef, undef, undef, undef, undef, undef, undef, undef, undef, undef, undef, undef, undef, undef, undef, undef, undef, undef, undef, undef, undef, undef, undef, undef, undef, undef, undef], defers := [] } W := by
      intro W HW
      refine hstep _ _ _ _ [8, 10, 12] (by kernel_rfl) (by simp) ?_
      refine AllF.cons (o := { dst := some 12, op := Op.call { callee := Callee.value (Operand.func 190), args := #[Operand.tmp 7, Operand.tmp 11], argTypes := #[73, 75] }, type := 9, pos := "task.go:25", after := #[{ on := 3, ground := Ground.data }, { on := 7, ground := Ground.data }], guard := none }) (l' := #[true, true, true, true, true, true, true, true, true, false, false, false, false, false]) (by kernel_rfl) (by kernel_rfl) (fun K hK => ?_) ?_
      · go_simp
        go_at_call 190
        refine (G0.fresh HW.out hp FR.out).mono ?_
        rintro e w1 ⟨nm, s1, he, KF⟩
        subst he
        try go_simp
        exact hK _ _ (L6_7_8 _ _ _ KF)
      refine AllF.cons (o := { dst := some 14, op := Op.makeMap 75 none, type := 75, pos := "task.go:25", after := #[], guard := none }) (l' := #[true, true, true, true, true, true, true, true, false, false, true, false, false, false]) (by kernel_rfl) (by kernel_rfl) (fun K hK => ?_) ?_
      · go_simp
        exact hK _ _ (L6_7_10 _ _ (G0.alM HW.out rfl))
      refine AllF.cons (o := { dst := some 2, op := Op.alloc 209, type := 0, pos := "task.go:25", after := #[], guard := none }) (l' := #[true, true, true, true, true, true, true, true, false, false, false, false, true, false]) (by kernel_rfl) (by kernel_rfl) (fun K hK => ?_) ?_
      · go_simp
        exact hK _ _ (L6_7_12 _ _ (G0.alB HW.out rfl))
      exact AllF.nil
    have L12 : ∀ (q : Nat) (W : World), Hid (G0 w (some q) none W) → F 7 #[true, true, true, true, true, true, false, false, false, false, false, false, true, false] { tmps := #[.pointer (some ⟨p, 0, none⟩), undef, .pointer (some ⟨q, 0, none⟩), undef, .pointer (some ⟨p, 0, none⟩), .pointer (some ⟨p, 0, none⟩), .pointer (some ⟨p, 0, none⟩), .pointer (some ⟨p, 0, none⟩), .pointer (some ⟨p, 0, none⟩), .pointer (some ⟨p, 0, none⟩), undef, undef, undef, undef, undef, undef, undef, undef, undef, undef, undef, undef, undef, undef, undef, undef, undef, undef, undef, undef, undef, undef, undef, undef, undef, undef, undef, undef, undef, undef, undef, undef, undef, undef, undef, undef, undef, undef], defers := [] } W := by
      intro q W HW
      refine hstep _ _ _ _ [6, 10] (by kernel_rfl) (by simp) ?_
      refine AllF.cons (o := { dst := some 10, op := Op.fieldAddr 77 (Operand.tmp 9) 4, type := 0, pos := "task.go:25", after := #[{ on := 5, ground := Ground.data }], guard := none }) (l' := #[true, true, true, true, true, true, true, false, false, false, false, false, true, false]) (by kernel_rfl) (by kernel_rfl) (fun K hK => ?_) ?_
      · go_simp
        exact hK _ _ (L6_12 _ _ HW)
      refine AllF.cons (o := { dst := some 14, op := Op.makeMap 75 none, type := 75, pos := "task.go:25", after := #[], guard := none }) (l' := #[true, true, true, true, true, true, false, false, false, false, true, false, true, false]) (by kernel_rfl) (by kernel_rfl) (fun K hK => ?_) ?_
      · go_simp
        exact hK _ _ (L10_12 _ _ _ (G0.alM HW.out rfl))
      exact AllF.nil
    have L10 : ∀ (mv : Nat) (W : World), Hid (G0 w none (some mv) W) → F 7 #[true, true, true, true, true, true, false, false, false, false, true, false, false, false] { tmps := #[.pointer (some ⟨p, 0, none⟩), undef, undef, undef, .pointer (some ⟨p, 0, none⟩), .pointer (some ⟨p, 0, none⟩), .pointer (some ⟨p, 0, none⟩), .pointer (some ⟨p, 0, none⟩), .pointer (some ⟨p, 0, none⟩), .pointer (some ⟨p, 0, none⟩), undef, undef, undef, undef, .map (some mv), undef, undef, undef, undef, undef, undef, undef, undef, undef, undef, undef, undef, undef, undef, undef, undef, undef, undef, undef, undef, undef, undef, undef, undef, undef, undef, undef, undef, undef, undef, undef, undef, undef], defers := [] } W := by
      intro mv W HW
      refine hstep _ _ _ _ [6, 12] (by kernel_rfl) (by simp) ?_
      refine AllF.cons (o := { dst := some 10, op := Op.fieldAddr 77 (Operand.tmp 9) 4, type := 0, pos := "task.go:25", after := #[{ on := 5, ground := Ground.data }], guard := none }) (l' := #[true, true, true, true, true, true, true, false, false, false, true, false, false, false]) (by kernel_rfl) (by kernel_rfl) (fun K hK => ?_) ?_
      · go_simp
        exact hK _ _ (L6_10 _ _ HW)
      refine AllF.cons (o := { dst := some 2, op := Op.alloc 209, type := 0, pos := "task.go:25", after := #[], guard := none }) (l' := #[true, true, true, true, true, true, false, false, false, false, true, false, true, false]) (by kernel_rfl) (by kernel_rfl) (fun K hK => ?_) ?_
      · go_simp
        exact hK _ _ (L10_12 _ _ _ (G0.alB HW.out rfl))
      exact AllF.nil
    have L6 : ∀ (W : World), Hid (G0 w none none W) → F 7 #[true, true, true, true, true, true, true, false, false, false, false, false, false, false] { tmps := #[.pointer (some ⟨p, 0, none⟩), undef, undef, undef, .pointer (some ⟨p, 0, none⟩), .pointer (some ⟨p, 0, none⟩), .pointer (some ⟨p, 0, none⟩), .pointer (some ⟨p, 0, none⟩), .pointer (some ⟨p, 0, none⟩), .pointer (some ⟨p, 0, none⟩), .pointer (some ⟨p, 11, none⟩), undef, undef, undef, undef, undef, undef, undef, undef, undef, undef, undef, undef, undef, undef, undef, undef, undef, undef, undef, undef, undef, undef, undef, undef, undef, undef, undef, undef, undef, undef, undef, undef, undef, undef, undef, undef, undef], defers := [] } W := by
      intro W HW
      refine hstep _ _ _ _ [7, 10, 12] (by kernel_rfl) (by simp) ?_
      refine AllF.cons (o := { dst := some 11, op := Op.load 75 (Operand.tmp 10), type := 75, pos := "task.go:25", after := #[{ on := 6, ground := Ground.data }], guard := none }) (l' := #[true, true, true, true, true, true, true, true, false, false, false, false, false, false]) (by kernel_rfl) (by kernel_rfl) (fun K hK => ?_) ?_
      · have c : W.cell? ⟨p, 11, none⟩ = some (.map (some m.mt)) := (HW.out.1.cell (p := ⟨p, 11, none⟩) hp).trans c11
        go_simp
        exact hK _ _ (L6_7 _ HW)
      refine AllF.cons (o := { dst := some 14, op := Op.makeMap 75 none, type := 75, pos := "task.go:25", after := #[], guard := none }) (l' := #[true, true, true, true, true, true, true, false, false, false, true, false, false, false]) (by kernel_rfl) (by kernel_rfl) (fun K hK => ?_) ?_
      · go_simp
        exact hK _ _ (L6_10 _ _ (G0.alM HW.out rfl))
      refine AllF.cons (o := { dst := some 2, op := Op.alloc 209, type := 0, pos := "task.go:25", after := #[], guard := none }) (l' := #[true, true, true, true, true, true, true, false, false, false, false, false, true, false]) (by kernel_rfl) (by kernel_rfl) (fun K hK => ?_) ?_
      · go_simp
        exact hK _ _ (L6_12 _ _ (G0.alB HW.out rfl))
      exact AllF.nil
    have L : ∀ (W : World), Hid (G0 w none none W) → F 8 #[true, true, true, true, true, true, false, false, false, false, false, false, false, false] { tmps := #[.pointer (some ⟨p, 0, none⟩), undef, undef, undef, .pointer (some ⟨p, 0, none⟩), .pointer (some ⟨p, 0, none⟩), .pointer (some ⟨p, 0, none⟩), .pointer (some ⟨p, 0, none⟩), .pointer (some ⟨p, 0, none⟩), .pointer (some ⟨p, 0, none⟩), undef, undef, undef, undef, undef, undef, undef, undef, undef, undef, undef, undef, undef, undef, undef, undef, undef, undef, undef, undef, undef, undef, undef, undef, undef, undef, undef, undef, undef, undef, undef, undef, undef, undef, undef, undef, undef, undef], defers := [] } W := by
      intro W HW
      refine hstep _ _ _ _ [6, 10, 12] (by kernel_rfl) (by simp) ?_
      refine AllF.cons (o := { dst := some 10, op := Op.fieldAddr 77 (Operand.tmp 9) 4, type := 0, pos := "task.go:25", after := #[{ on := 5, ground := Ground.data }], guard := none }) (l' := #[true, true, true, true, true, true, true, false, false, false, false, false, false, false]) (by kernel_rfl) (by kernel_rfl) (fun K hK => ?_) ?_
      · go_simp
        exact hK _ _ (L6 _ HW)
      refine AllF.cons (o := { dst := some 14, op := Op.makeMap 75 none, type := 75, pos := "task.go:25", after := #[], guard := none }) (l' := #[true, true, true, true, true, true, false, false, false, false, true, false, false, false]) (by kernel_rfl) (by kernel_rfl) (fun K hK => ?_) ?_
      · go_simp
        exact hK _ _ (L10 _ _ (G0.alM HW.out rfl))
      refine AllF.cons (o := { dst := some 2, op := Op.alloc 209, type := 0, pos := "task.go:25", after := #[], guard := none }) (l' := #[true, true, true, true, true, true, false, false, false, false, false, false, true, false]) (by kernel_rfl) (by kernel_rfl) (fun K hK => ?_) ?_
      · go_simp
        exact hK _ _ (L12 _ _ (G0.alB HW.out rfl))
      exact AllF.nil
    exact L _ (G0.start w)

  case rest =>
    obtain ⟨q, mv, nm, s1, rfl, HC⟩ := hcut
    clear FR c11 hmk
    go_wp2_with fail
    refine (must_l B p en s1 _ [123] wc HC.out.1.1 rfl (by decide)).mono ?_
    rintro e w2 ⟨he, s2, h2, hr2, R2⟩
    subst he
    have hqp : q ≠ p := fun e => by have := HC.out.1.2.2.2.2.1; omega
    have hvp : mv ≠ p := fun e => by have := HC.out.1.2.2.2.2.2.1; omega
    have H2 : Hid (RS B w2 p en s2 ∧ RCh p w w2 ∧ Bx w2 q (taskC p (task0 nm) (tm0 mv 0)) ∧ SMp w2 mv 0 0 (fun _ => none) ∧ (w.heap.size ≤ q ∧ w.heap.size ≤ mv ∧ q ≠ mv)) := ⟨h2, HC.out.1.2.1.trans hr2, HC.out.1.2.2.1.ch hr2.1 hqp, HC.out.1.2.2.2.1.ch hr2.1 hvp, HC.out.1.2.2.2.2⟩
    have H1 : Hid (nm.length ≤ 140737488355328 ∧ Res en st (freshP (n.tasks.map PTask.name)) s1 (fun u => u = nm) ∧ (∀ r', s1 = .ok r' → m.ft nm = none) ∧ Res en s1 (wantP [123]) s2 fun _ => True) := ⟨HC.out.2.1, HC.out.2.2.1, HC.out.2.2.2, R2⟩
    have HN2 : Hid (∀ s, s2 = .ok s → s.length ≤ r.length) := fun s hs => by
      obtain ⟨z1, e1, l1⟩ := alive_back R2 hs
      obtain ⟨z0, e0, l0⟩ := alive_back HC.out.2.2.1 e1
      rw [← HST.out] at e0
      injection e0 with e0
      subst e0
      omega
    clear h2 hr2 R2 HC
    go_wp2_with fail
    refine (clauses_any q w2).mono ?_
    rintro e w3 ⟨he, hcl, hb3⟩
    have hqlt : q < w2.heap.size := H2.out.2.2.1.2.2
    have hvlt : mv < w2.heap.size := H2.out.2.2.2.1.lt
    have hws : w.heap.size ≤ w2.heap.size := H2.out.2.1.1.size
    have hB : Hid (B ≤ w.heap.size) := H0.out.1.1.2.1
    have TL0 : Hid (TL B w.heap.size p q en n m nm w2.heap.size s2 r.length w w3) := by
      have h3 := H2.out.1.below hb3
      have hr3 : RCh p w w3 := H2.out.2.1.trans (RCh.of_below H2.out.1.lt hb3)
      have hsz := hb3.size
      have hrl : restLen w3 p ≤ r.length := rest_of h3 HN2.out
      have hxl : w2.heap.size < w3.heap.size := hcl.2.2
      refine ⟨task0 nm, tm0 mv w2.heap.size, s2, fun _ => false, [], restLen w3 p + 1, ⟨⟨h3, ⟨H2.out.2.2.1.below hb3, ⟨World.ownsRow_nil _ _ _ _, World.ownsRow_nil _ _ _ _, World.ownsRow_nil _ _ _ _, World.ownsRow_nil _ _ _ _⟩, H2.out.2.2.2.1.below hb3, ⟨?_, ?_, hp, Nat.lt_of_lt_of_le hp (Nat.le_trans hws hsz)⟩, ?_, fun z hz => by cases hz⟩, ⟨w, H0.out.2.1, Nat.le_refl _, TCh.of hr3⟩, H0.out.2.2, fun _ _ => ⟨rfl, rfl⟩, ⟨hnc, hnp⟩, hB.out⟩, ⟨?_, ?_, ?_, ?_⟩, hr, hcl, rfl, fun i hi => rfl⟩, TCh.of hr3, Nat.le_refl _, rfl, fun stf tf hh => ?_⟩
      · have hne := H2.out.2.2.2.2.2.2
        intro i j x hi hj
        have e1 : (tm0 mv w2.heap.size).bs q = [some q, some mv, none, none, none, none, some w2.heap.size] := rfl
        rw [e1] at hi hj
        match i, j, hi, hj with
        | 0, 0, _, _ => rfl
        | 1, 1, _, _ => rfl
        | 6, 6, _, _ => rfl
        | 0, 1, hi, hj => simp at hi hj; omega
        | 1, 0, hi, hj => simp at hi hj; omega
        | 0, 6, hi, hj => simp at hi hj; omega
        | 6, 0, hi, hj => simp at hi hj; omega
        | 1, 6, hi, hj => simp at hi hj; omega
        | 6, 1, hi, hj => simp at hi hj; omega
        | 2, _, hi, _ => simp at hi
        | 3, _, hi, _ => simp at hi
        | 4, _, hi, _ => simp at hi
        | 5, _, hi, _ => simp at hi
        | _, 2, _, hj => simp at hj
        | _, 3, _, hj => simp at hj
        | _, 4, _, hj => simp at hj
        | _, 5, _, hj => simp at hj
        | i + 7, _, hi, _ => simp at hi
        | _, j + 7, _, hj => simp at hj
      · intro b hb
        have hb : some b ∈ [some q, some mv, none, none, none, none, some w2.heap.size] := hb
        simp at hb
        have g1 := H2.out.2.2.2.2
        rcases hb with rfl | rfl | rfl <;> omega
      · exact fun W hW => ⟨Rws.nil, (xg_leaf (by constructor <;> decide) (by constructor <;> decide) none : XG _ W ⟨1, 1, []⟩ none), Rws.nil, Rws.nil⟩
      · show 0 + _ ≤ _; omega
      · show 0 + _ ≤ _; omega
      · show 0 + _ ≤ _; omega
      · show 0 + _ ≤ _; omega
      · cases s2 with
        | error e => exact hh
        | ok z =>
          refine res_at hh ?_
          show taskL n ((z.map ktI).length + 1) [] (task0 nm) (z.map ktI) = _
          rw [List.length_map, restLen_ok h3]
    obtain ⟨xb, hxb⟩ : ∃ xb, xb = w2.heap.size := ⟨_, rfl⟩
    rw [← hxb] at he TL0
    subst he
    clear hcl hb3 hqlt hvlt hws hxb
    go_wp2_with fail

    go_loopw [] (fun wr => Hid (TL B w.heap.size p q en n m nm xb s2 r.length w wr)) (fun wr => restLen wr p)
    case atStart => exact TL0
    case round =>
      obtain ⟨t', m', st', stood, had, f, g1, g2, g3, g4, g5⟩ := hrel.out
      have HX : Hid (SP B w.heap.size wr p q en st' n m t' m' xb stood had r.length ∧ TCh p w.heap.size w wr ∧ restLen wr p + 1 ≤ f ∧ t'.name = nm ∧ ∀ stf tf, Res en st' (taskL n f had t') stf (fun u => u = tf) → Res en s2 (fun r => taskL n (r.length + 1) [] (task0 nm) r) stf (fun u => u = tf)) := ⟨g1, g2, g3, g4, g5⟩
      clear g1 g2 g3 g4 g5 hrel TL0
      go_wp2_with fail
      refine (says_any B w.heap.size p q en st' n m t' m' xb stood had r.length wr HX.out.1).mono ?_
      rintro e w5 h5
      rcases h5 with ⟨he, hc, t2, m2, s5, stood2, i, hi, hw, hsp, hres, hrl, hnm⟩ | ⟨he, hc, s5, h5, hT5, hD⟩
      · subst he
        have NX : Hid (TL B w.heap.size p q en n m nm xb s2 r.length w w5) := by
          obtain ⟨g, hg⟩ : ∃ g, f = g + 1 := ⟨f - 1, by have := HX.out.2.2.1; omega⟩
          refine ⟨t2, m2, s5, stood2, wordN i :: had, g, hsp, HX.out.2.1.trans hc, by have := HX.out.2.2.1; omega, hnm.trans HX.out.2.2.2.1, fun stf tf hh => HX.out.2.2.2.2 stf tf ?_⟩
          rw [hg]
          exact clauses_step hi hw hres hh
        have HM : Hid (restLen w5 p + 1 ≤ restLen wr p) := hrl
        clear hc hi hw hsp hres hrl hnm HX
        go_wp2_with fail
        go_roundw
        case rel => exact NX
        case measure => have := HM.out; omega
      · subst he
        have EX0 : Hid (TE B w.heap.size p q en n m nm s2 w w5) := by
          obtain ⟨g, hg⟩ : ∃ g, f = g + 1 := ⟨f - 1, by have := HX.out.2.2.1; omega⟩
          have hn := HX.out.1.2.1
          have hN := HX.out.1.2.2.1
          refine ⟨t', m', s5, h5, hT5, (HX.out.1.1.2.2.1.go hc).now, HX.out.2.1.trans hc, HX.out.2.2.2.1, by omega, fun s9 hm => HX.out.2.2.2.2 s9 t' ?_⟩
          rw [hg]
          rcases hD with ⟨rfl, hD⟩ | ⟨i, hi, hw, h1, rfl⟩
          · exact clauses_end hD hm
          · exact clauses_twice hi hw h1 hm
        clear hc h5 hT5 hD HX
        obtain ⟨c, m', s5, g1, g2, g3, g4, g5, g6, g7⟩ := EX0.out
        have EX : Hid (RS B w5 p en s5 ∧ TK w.heap.size w5 q p c m' ∧ NK B w5 p n m ∧ TCh p w.heap.size w w5 ∧ c.name = nm ∧ (c.vars.length ≤ 1000001 ∧ c.ins.length ≤ 1000001 ∧ c.outs.length ≤ 1000001 ∧ c.cancel.length ≤ 1000001) ∧ ∀ s9, Res en s5 (wantP [125]) s9 (fun _ => True) → Res en s2 (fun r => taskL n (r.length + 1) [] (task0 nm) r) s9 (fun u => u = c)) := ⟨g1, g2, g3, g4, g5, g6, g7⟩
        clear g1 g2 g3 g4 g5 g6 g7 EX0 t' st' stood had f
        go_wp2_with fail
        refine (must_l B p en s5 _ [125] w5 EX.out.1 rfl (by decide)).mono ?_
        rintro e w4 ⟨he, s4, h4, hr4, R4⟩
        subst he
        have RR : Hid (Res en st (taskP n) s4 fun u => u = c) := task_res H1.out.2.1 H1.out.2.2.2 (EX.out.2.2.2.2.2.2 s4 R4)
        have AL : Hid (∀ z, s4 = .ok z → m.ft c.name = none) := fun z hz => by
          obtain ⟨z2, e2, _⟩ := alive_back (EX.out.2.2.2.2.2.2 s4 R4) hz
          obtain ⟨z1, e1, _⟩ := alive_back H1.out.2.2.2 e2
          rw [EX.out.2.2.2.2.1]
          exact H1.out.2.2.1 z1 e1
        have N4 : Hid (NK B w4 p n m) := EX.out.2.2.1.on hr4
        have K4 : Hid (RS B w4 p en s4 ∧ Ch (fun b => B ≤ b) w w4) := ⟨h4, by
          have hBp := H0.out.1.1.1
          have hBL := hB.out
          exact (EX.out.2.2.2.1.1.mono fun b _ e => by rcases e with e | e <;> omega).trans (hr4.1.mono fun b _ e => by have e : b = p := e; omega)⟩
        have hML : ∀ b, m.H p B b → b < w.heap.size := fun b hb => by
          rcases hb with hb | hb
          · exact (H0.out.2.1.2.2.2.1.2 b hb).2
          · have := hB.out; omega
        obtain ⟨c0, a1, l1, k1, g0, g1, a4, l4, k4, j0, j1, a7, l7, k7, a8, l8, k8, a9, l9, k9, y0, y1, y2, y3, hc0, hbx, hE⟩ := (EX.out.2.1.on hr4).out hML EX.out.2.2.2.2.2.1
        have hqL : w.heap.size ≤ q := H2.out.2.2.2.2.1
        have hcl : Hid (c.name.length ≤ 140737488355328 ∧ c0 = str c.name ∧ q ≠ m.mt ∧ w.heap.size ≤ q) := ⟨by rw [EX.out.2.2.2.2.1]; exact H1.out.1, hc0, fun e => by have := hML m.mt (.inl (by unfold NM.M NM.bs; simp)); omega, hqL⟩
        have E4 : Hid (Held (m.H p B) w4 fun W => TaskR W c [.string c0, .slice a1 l1 k1, .int .i64 g0, .int .i64 g1, .slice a4 l4 k4, .int .i64 j0, .int .i64 j1, .slice a7 l7 k7, .slice a8 l8 k8, .slice a9 l9 k9, .int .i64 y0, .int .i64 y1, .int .i64 y2, .int .i64 y3]) := hE
        have BX4 : Hid (Bx w4 q [.pointer (some ⟨p, 0, none⟩), .string c0, .slice a1 l1 k1, .int .i64 g0, .int .i64 g1, .slice a4 l4 k4, .int .i64 j0, .int .i64 j1, .slice a7 l7 k7, .slice a8 l8 k8, .slice a9 l9 k9, .int .i64 y0, .int .i64 y1, .int .i64 y2, .int .i64 y3, .map (some m'.mv)]) := hbx
        clear h4 hr4 R4 EX hML hc0 hbx hE H1 H2 HN2 hqL
        obtain ⟨mvv, hmv⟩ : ∃ x, x = m'.mv := ⟨_, rfl⟩
        rw [← hmv] at BX4
        clear hmv
        have d1 : w4.cell? ⟨q, 1, none⟩ = some (.string c0) := BX4.out.1 1
        have gl : q < w4.heap.size := BX4.out.2.2
        have c9 : w4.cell? ⟨p, 11, none⟩ = some (.map (some m.mt)) := N4.out.1.2.2.2.2
        have pl4 : p < w4.heap.size := K4.out.1.lt
        have CL : Hid (∀ W, Below w4.heap.size w4 W → Calls Tryz.prog 193 #[.map (some m.mt), .string c0] W fun e w' => e = .returned (.tuple #[]) ∧ SMp w' m.mt (n.tasks.length + 1) (addK m.ft c.name m.kt) (addF m.ft c.name m.kt) ∧ Ch (· = m.mt) W w') := fun W hW => by
          have hsz : c0.size ≤ maxLen := by
            have h1 := hcl.out.1
            have h2 : (140737488355328 : Nat) ≤ maxLen := by decide
            rw [hcl.out.2.1, str_size]; omega
          have hcd : c0.data.toList = c.name := by rw [hcl.out.2.1, str_data]
          have := add_any m.mt n.tasks.length m.kt m.ft c0 W (N4.out.2.2.1.2.2.below hW) (by omega) hsz
          rw [hcd] at this
          exact this
        go_upto_region 5 with fail
        go_cut [2] from 3 (fun s wr => s = .pointer (some ⟨q, 0, none⟩) ∧ Hid (SMp wr m.mt (n.tasks.length + 1) (addK m.ft c.name m.kt) (addF m.ft c.name m.kt) ∧ Ch (· = m.mt) w4 wr))
        case first =>
          go_region_law (first
            | (go_simp; go_at_call 193; refine (CL.out _ (by first | exact (Below.refl _ _).drew | exact Below.refl _ _)).mono ?_; rintro e w5 ⟨he, h5, hc5⟩; subst he; have K5 : Hid (SMp w5 m.mt (n.tasks.length + 1) (addK m.ft c.name m.kt) (addF m.ft c.name m.kt) ∧ Ch (· = m.mt) w4 w5) := ⟨h5, (Ch.of_below (Below.refl _ _).drew).trans hc5⟩; clear h5 hc5))
          all_goals
            go_wp2_with fail
            go_meet
            case rel => exact ⟨rfl, K5.out⟩
        case rest =>
          obtain ⟨rfl, K5⟩ := hcut
          generalize hwx : wc = w5 at *
          clear hwx wc CL d1 gl c9 pl4
          have hz5 := K5.out.2.size
          have hb5 : Bx w5 q [.pointer (some ⟨p, 0, none⟩), .string c0, .slice a1 l1 k1, .int .i64 g0, .int .i64 g1, .slice a4 l4 k4, .int .i64 j0, .int .i64 j1, .slice a7 l7 k7, .slice a8 l8 k8, .slice a9 l9 k9, .int .i64 y0, .int .i64 y1, .int .i64 y2, .int .i64 y3, .map (some mvv)] := BX4.out.ch K5.out.2 hcl.out.2.2.1
          obtain ⟨⟨-, d1, d2, d3, d4, d5, d6, d7, d8, d9, d10, d11, d12, d13, d14, -, gl⟩, -⟩ := sixteen hb5
          have d4 : w5.cell? ⟨p, 6, none⟩ = some (.slice m.at_ n.tasks.length m.ct) := K5.out.2.cell (fun e => HNE.out e.symm) N4.out.1.1.2.2
          have pl5 : p < w5.heap.size := World.block_lt_of_cell? w5 _ d4
          have OWN : Hid (∀ W, Below w5.heap.size w5 W → W.ownsRow B 63 14 (.slice m.at_ n.tasks.length m.ct) n.tasks.length m.vt ∧ B ≤ W.heap.size) := fun W hW => by
            have hk : ∀ k, (Value.slice m.at_ n.tasks.length m.ct).ownBlock = some k → ¬ k = m.mt := fun k hk e => by
              rw [own_block] at hk
              have hA := N4.out.2.2.2.1.1
              exact hA.ne (i := 6) (j := 3) (show (m.bs p)[6]? = some (some k) by show some (m.at_.map Addr.block) = _; rw [hk]) rfl (by decide) e
            exact ⟨own_ch2 (own_ch2 N4.out.2.1.2.2 K5.out.2 hk) (Ch.of_below (M := fun _ => False) hW) (fun _ _ h => h), Nat.le_trans (Nat.le_trans K4.out.1.1.2.1 hz5) hW.size⟩
          have PG : Hid (∀ W w' : World, Below w5.heap.size w5 W → W.grownBy w' (m.at_.map Addr.block) → w'.cell? ⟨p, 6, none⟩ = some (.slice m.at_ n.tasks.length m.ct) ∧ w'.frozen? ⟨p, 6, none⟩ = false ∧ p < w'.heap.size) := fun W w' hW hg => by
            have hne : some p ≠ m.at_.map Addr.block := fun e => by
              have hA := N4.out.2.2.2.1.1
              exact absurd (hA 0 6 p rfl (show (m.bs p)[6]? = some (some p) by show some (m.at_.map Addr.block) = _; rw [← e])) (by decide)
            have hb : w'.heap[p]? = w5.heap[p]? := (hg.block p (Nat.lt_of_lt_of_le pl5 hW.size) hne).trans (hW.block p pl5)
            have hf : w5.frozen? ⟨p, 6, none⟩ = false := by
              rw [frozen_of_block (K5.out.2.block p K4.out.1.lt (fun e => HNE.out e.symm))]
              exact rs_fr K4.out.1 6
            exact ⟨(cell_of_block hb 6).trans d4, (frozen_of_block hb 6).trans hf, Nat.lt_of_lt_of_le pl5 (Nat.le_trans hW.size hg.size)⟩
          have FIN : Hid (∀ (W w' : World) (a' : Option Addr) (c' : Nat), Below w5.heap.size w5 W → w'.ownsRow B 63 14 (.slice a' (n.tasks.length + 1) c') (n.tasks.length + 1) (m.vt ++ [.string c0, .slice a1 l1 k1, .int .i64 g0, .int .i64 g1, .slice a4 l4 k4, .int .i64 j0, .int .i64 j1, .slice a7 l7 k7, .slice a8 l8 k8, .slice a9 l9 k9, .int .i64 y0, .int .i64 y1, .int .i64 y2, .int .i64 y3]) → W.grownBy w' (m.at_.map Addr.block) → (a'.map Addr.block = m.at_.map Addr.block ∨ a'.map Addr.block = some W.heap.size) → TaskPost B p en r n w (.returned (.tuple #[])) (w'.setCell ⟨p, 6, none⟩ (.slice a' (n.tasks.length + 1) c'))) := fun W w' a' c' hW hown hg hat => by
            have hu := E4.out
            obtain ⟨hN, hC⟩ := N4.out.add_tasks hu K5.out.1 K5.out.2 hW hown hg hat
            have hMB : ∀ b, m.M p b → B ≤ b := fun b hb => (N4.out.2.2.2.1.2 b hb).1
            refine ⟨rfl, c, s4, _, ?_, hN, fun z hz => ?_, ?_, by rw [HST.out]; exact RR.out⟩
            · have hne : some p ≠ m.at_.map Addr.block := fun e => by
                have hA := N4.out.2.2.2.1.1
                exact absurd (hA 0 6 p rfl (show (m.bs p)[6]? = some (some p) by show some (m.at_.map Addr.block) = _; rw [← e])) (by decide)
              have r5 : RS B w5 p en s4 := K4.out.1.ch K5.out.2 (fun b hb => by subst hb; exact hMB _ (by unfold NM.M NM.bs; simp)) (fun e => HNE.out e.symm)
              have rW := r5.below hW
              have r' : RS B w' p en s4 := rW.ch (Ch.grown (M := fun b => some b = m.at_.map Addr.block) hg fun b hb => hb.symm) (fun b hb => hMB b (by unfold NM.M; rw [hb]; exact List.mem_of_getElem? (i := 6) rfl)) hne
              exact r'.set4 6 (by decide) _
            · obtain ⟨hc2, hp2, ⟨f1, k1⟩⟩ := H0.out.2.2
              obtain ⟨q1, q2⟩ := nameAt_add (k := m.kt) f1 (k1.trans (List.length_map _).symm) (AL.out z hz)
              refine ⟨hc2, hp2, ⟨?_, ?_⟩⟩
              · show addF m.ft c.name m.kt = nameAt ((n.tasks ++ [c]).map PTask.name)
                rw [q1, List.map_append]; rfl
              · show addK m.ft c.name m.kt = (n.tasks ++ [c]).length
                rw [q2, List.length_map]; simp
            · exact K4.out.2.trans (hC.mono fun b _ hb => hMB b hb)
          clear hb5 N4 E4 RR AL hcl K4 K5 H0 HST HNE BX4
          go_upto_region 6 with fail
          go_region_law (first
            | (refine step_own rfl _ _ rfl rfl rfl Tryz.underlying26 infoTask rfl (by decide) (by decide) (OWN.out _ (by repeat (first | exact Below.refl _ _ | refine Below.drew ?_ | refine Below.alloc ?_ (by simp) _))).1 rfl (new_part _ [.string c0, .slice a1 l1 k1, .int .i64 g0, .int .i64 g1, .slice a4 l4 k4, .int .i64 j0, .int .i64 j1, .slice a7 l7 k7, .slice a8 l8 k8, .slice a9 l9 k9, .int .i64 y0, .int .i64 y1, .int .i64 y2, .int .i64 y3] _) (by simp [Value.oneCell']) (by omega) (OWN.out _ (by repeat (first | exact Below.refl _ _ | refine Below.drew ?_ | refine Below.alloc ?_ (by simp) _))).2 ?_; intro a' c' w' hown hg hat; have FN : Hid (∀ v, v = Value.slice a' (n.tasks.length + 1) c' → TaskPost B p en r n w (.returned (.tuple #[])) (w'.setCell ⟨p, 6, none⟩ v)) := (fun v hv => by subst hv; exact FIN.out _ w' a' c' (by repeat (first | exact Below.refl _ _ | refine Below.drew ?_ | refine Below.alloc ?_ (by simp) _)) hown hg hat); obtain ⟨e4, e4f, epl⟩ := PG.out _ w' (by repeat (first | exact Below.refl _ _ | refine Below.drew ?_ | refine Below.alloc ?_ (by simp) _)) hg; clear hown hg hat))
          all_goals
            go_wp2_with fail
            go_end0
            exact FN.out _ rfl

end Go.Proofs.YtjcanodnlnodpaaGreatDoor.Parse
