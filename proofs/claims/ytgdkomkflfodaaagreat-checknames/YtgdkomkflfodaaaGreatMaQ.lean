/- Contracts and plain mathematics, together: HeldDag, ChkAbo. -/
import Derived.Deep.RegionHeld
import Derived.Deep.RegionLaw
import Derived.Test.YtgdkomkflfodaaaGreatMaM
import Derived.Deep.OwnRows
/- A region that draws its order, in which all but its calls can be done at any time: walked in one way. No program stands in it. -/
namespace Go.Proofs.YtgdkomkflfodaaaGreat.Dag
open Go
set_option linter.unusedVariables false
section
variable {P : Program} {ops : Array Oper} {Q : Exit → Act → World → Prop} {md : Region.Mode} {S : World → Prop}
/-- each of these operations, done now, keeps S and comes to F behind it -/
def AllFH (P : Program) (ops : Array Oper) (Q : Exit → Act → World → Prop) (S : World → Prop) (F : Nat → Array Bool → Act → World → Prop) (n : Nat) (l : Array Bool) (a : Act) (w : World) (rs : List Nat) : Prop := ∀ i ∈ rs, wpOp P ops Q i (fun a' w' => S w' ∧ F n (l.setIfInBounds i true) a' w') a w
theorem AllFH.nil {F : Nat → Array Bool → Act → World → Prop} {n : Nat} {l : Array Bool} {a : Act} {w : World} : AllFH P ops Q S F n l a w [] := fun i h => by cases h
theorem AllFH.cons {F : Nat → Array Bool → Act → World → Prop} {n : Nat} {l l' : Array Bool} {a : Act} {w : World} {i : Nat} {o : Oper} {rs : List Nat} (ho : ops[i]? = some o) (hl : l.setIfInBounds i true = l')
    (h : ∀ K' : Act → World → Prop, (∀ a w, S w → F n l' a w → K' a w) → if Region.wanted o (yielded ops a.tmps) = true then Oper.wp P o a w K' Q else K' (a.put o.dst undef) w)
    (hs : AllFH P ops Q S F n l a w rs) : AllFH P ops Q S F n l a w (i :: rs) := fun j hj => by
  rcases List.mem_cons.1 hj with rfl | hj
  · subst hl; exact wpOp_step ho fun K' hK' => h K' fun a w hS hF => hK' a w ⟨hS, hF⟩
  · exact hs j hj
/-- the walk's name: an operation that tells the same in every world that S takes is done first; a call that alone may come up is done; it ends -/
theorem wpAnyH_steps {n : Nat} {l l' : Array Bool} {a a' : Act} {w : World} (hl : l = l') (ha : a = a') (hsel : Region.noSelect ops = true) (hQ : ∀ c a d (v : Value) w, Q (.panic c) (a.put d v) w → Q (.panic c) a w)
    (h : ∀ F : Nat → Array Bool → Act → World → Prop,
      (∀ (n : Nat) (l l' : Array Bool) (a a' : Act) (w : World) (i : Nat) (oi : Oper) (v : Value), ops[i]? = some oi → Region.free md ops l i = true → (Region.ready md ops l).contains i = true →
        Region.wanted oi (yielded ops a.tmps) = true → (∀ w', S w' → (execOp a.eval oi).run P w' = .ok (.value v) w') → S w → l.setIfInBounds i true = l' → a.put oi.dst v = a' → F n l' a' w → F (n + 1) l a w) →
      (∀ (n : Nat) (l l' : Array Bool) (a : Act) (w : World) (i : Nat) (oi : Oper), ops[i]? = some oi → Region.ready md ops l = [i] → l.setIfInBounds i true = l' →
        (∀ K' : Act → World → Prop, (∀ a w, S w → F n l' a w → K' a w) → if Region.wanted oi (yielded ops a.tmps) = true then Oper.wp P oi a w K' Q else K' (a.put oi.dst undef) w) → F (n + 1) l a w) →
      (∀ (n : Nat) (l : Array Bool) (a : Act) (w : World) (rs : List Nat), Region.ready md ops l = rs → rs ≠ [] → AllFH P ops Q S F n l a w rs → F (n + 1) l a w) →
      (∀ (n : Nat) (l : Array Bool) (a : Act) (w : World), Region.ready md ops l = [] → Q .normal a w → F n l a w) → F n l' a' w) : wpAnyH P md ops Q S n l a w := by
  subst hl ha
  refine h (wpAnyH P md ops Q S) (fun n l l' a a' w i oi v hi hf hr hw hy hS hl ha hF => ?_) (fun n l l' a w i oi hi hr hl hK => ?_) (fun n l a w rs hr hne hs => wpAnyH_all hr hne hs) (fun n l a w hr hq => wpAnyH_done hr hq n)
  · subst hl ha
    exact wpAnyH_take hi hsel hf hr (fun c a w => hQ c a _ v w) (.inl ⟨hw, hy⟩) hS hF
  · subst hl
    refine wpAnyH_all hr (by simp) (fun j hj => ?_)
    have hj : j = i := by simpa using hj
    subst hj
    exact wpOp_step hi (fun K' hK' => hK K' fun a w hS hF => hK' a w ⟨hS, hF⟩)
end
end Go.Proofs.YtgdkomkflfodaaaGreat.Dag
/- A net that is asked about, and how great its colours are: a contract of the call, over the turned program. -/
namespace Go.Proofs.YtgdkomkflfodaaaGreat.Check
open Go.Proofs.YtgdkomkflfodaaaGreat.Dag Go.RowKit Go.Proofs.YtgdkomkflfodaaaGreat.Frame Go.Proofs.YtgdkomkflfodaaaGreat.Colour Go.Proofs.YtgdkomkflfodaaaGreat.Expr
set_option linter.unusedVariables false
set_option linter.unusedSimpArgs false
theorem rowIs_below {w w' : World} {b : Nat} {t : TypeId} {n : Nat} {f : Nat → Value} (h : w.rowIs b t n f) (hb : Below w.heap.size w w') : w'.rowIs b t n f := h.of_block (hb.block _ h.lt)
def zero6 : Nat → Value := fun j => (#[.slice none 0 0, .slice none 0 0, .slice none 0 0, .int .i64 0, .int .i64 0, .slice none 0 0] : Array Value).getD j undef
def Gm (wz : World) (len g : Nat) (W : World) : Prop := Below wz.heap.size wz W ∧ W.rowIs g 3 len (fun _ => .int .i64 0) ∧ wz.heap.size ≤ g
def Bm (wz : World) (q : Nat) (W : World) : Prop := Below wz.heap.size wz W ∧ W.rowIs q 67 6 zero6 ∧ wz.heap.size ≤ q
def Am (wz : World) (len g q : Nat) (W : World) : Prop := (Below wz.heap.size wz W ∧ W.rowIs g 3 len (fun _ => .int .i64 0) ∧ W.rowIs q 67 6 zero6) ∧ wz.heap.size ≤ g ∧ wz.heap.size ≤ q ∧ g ≠ q
theorem box6 (W : World) : (W.alloc (.cells #[.slice none 0 0, .slice none 0 0, .slice none 0 0, .int .i64 0, .int .i64 0, .slice none 0 0] 67)).rowIs W.heap.size 67 6 zero6 := World.rowIs_alloc W #[.slice none 0 0, .slice none 0 0, .slice none 0 0, .int .i64 0, .int .i64 0, .slice none 0 0] _ zero6 fun i hi => by
  match i, hi with
  | 0, _ => rfl
  | 1, _ => rfl
  | 2, _ => rfl
  | 3, _ => rfl
  | 4, _ => rfl
  | 5, _ => rfl
  | i + 6, hi => exact absurd hi (by simp)
theorem al {wz W : World} (h : Below wz.heap.size wz W) (o : Obj) : Below wz.heap.size wz (W.alloc o) := then_ h ((Below.refl _ _).alloc (Nat.le_refl _) _)
theorem Gm.of {wz W : World} (h : Below wz.heap.size wz W) (len : Nat) : Gm wz len W.heap.size (W.alloc (.cells (madeCells #[.int .i64 0] len) 3)) := ⟨al h _, World.rowIs_made _ _ _ _, h.size⟩
theorem Bm.of {wz W : World} (h : Below wz.heap.size wz W) : Bm wz W.heap.size (W.alloc (.cells #[.slice none 0 0, .slice none 0 0, .slice none 0 0, .int .i64 0, .int .i64 0, .slice none 0 0] 67)) := ⟨al h _, box6 W, h.size⟩
theorem Gm.box {wz W : World} {len g : Nat} (h : Gm wz len g W) : Am wz len g W.heap.size (W.alloc (.cells #[.slice none 0 0, .slice none 0 0, .slice none 0 0, .int .i64 0, .int .i64 0, .slice none 0 0] 67)) := ⟨⟨al h.1 _, h.2.1.alloc _, box6 W⟩, h.2.2, h.1.size, fun e => by have := h.2.1.lt; omega⟩
theorem Bm.row {wz W : World} {q : Nat} (h : Bm wz q W) (len : Nat) : Am wz len W.heap.size q (W.alloc (.cells (madeCells #[.int .i64 0] len) 3)) := ⟨⟨al h.1 _, World.rowIs_made _ _ _ _, h.2.1.alloc _⟩, h.1.size, h.2.2, fun e => by have := h.2.1.lt; omega⟩
theorem Am.cells {wz W : World} {len g q : Nat} (h : Am wz len g q W) : (W.cell? ⟨q, 0, none⟩ = some (.slice none 0 0) ∧ W.cell? ⟨q, 1, none⟩ = some (.slice none 0 0) ∧ W.cell? ⟨q, 2, none⟩ = some (.slice none 0 0) ∧ W.cell? ⟨q, 3, none⟩ = some (.int .i64 0) ∧ W.cell? ⟨q, 4, none⟩ = some (.int .i64 0) ∧ W.cell? ⟨q, 5, none⟩ = some (.slice none 0 0)) ∧
    (W.frozen? ⟨q, 0, none⟩ = false ∧ W.frozen? ⟨q, 1, none⟩ = false ∧ W.frozen? ⟨q, 2, none⟩ = false ∧ W.frozen? ⟨q, 3, none⟩ = false ∧ W.frozen? ⟨q, 4, none⟩ = false ∧ W.frozen? ⟨q, 5, none⟩ = false) ∧ q < W.heap.size :=
  ⟨⟨h.1.2.2.cell (by decide), h.1.2.2.cell (by decide), h.1.2.2.cell (by decide), h.1.2.2.cell (by decide), h.1.2.2.cell (by decide), h.1.2.2.cell (by decide)⟩, ⟨h.1.2.2.frozen 0, h.1.2.2.frozen 1, h.1.2.2.frozen 2, h.1.2.2.frozen 3, h.1.2.2.frozen 4, h.1.2.2.frozen 5⟩, h.1.2.2.lt⟩
/-- six cells that are written -/
def put6 (W : World) (q : Nat) (v0 v1 v2 v3 v4 v5 : Value) : World := (((((W.setCell ⟨q, 0, none⟩ v0).setCell ⟨q, 1, none⟩ v1).setCell ⟨q, 2, none⟩ v2).setCell ⟨q, 3, none⟩ v3).setCell ⟨q, 4, none⟩ v4).setCell ⟨q, 5, none⟩ v5
theorem put6_row {W : World} {q : Nat} {t : TypeId} {f : Nat → Value} (h : W.rowIs q t 6 f) (v0 v1 v2 v3 v4 v5 : Value) : (put6 W q v0 v1 v2 v3 v4 v5).rowIs q t 6 (fun j => (#[v0, v1, v2, v3, v4, v5] : Array Value).getD j undef) := by
  refine ((((((h.set 0 v0).set 1 v1).set 2 v2).set 3 v3).set 4 v4).set 5 v5).congr fun i hi => ?_
  match i, hi with
  | 0, _ => rfl
  | 1, _ => rfl
  | 2, _ => rfl
  | 3, _ => rfl
  | 4, _ => rfl
  | 5, _ => rfl
  | i + 6, hi => omega
theorem put6_other {W : World} {q b n : Nat} {t : TypeId} {f : Nat → Value} (h : W.rowIs b t n f) (hq : b ≠ q) (v0 v1 v2 v3 v4 v5 : Value) : (put6 W q v0 v1 v2 v3 v4 v5).rowIs b t n f :=
  ((((((h.setOther (a := ⟨q, 0, none⟩) hq v0).setOther (a := ⟨q, 1, none⟩) hq v1).setOther (a := ⟨q, 2, none⟩) hq v2).setOther (a := ⟨q, 3, none⟩) hq v3).setOther (a := ⟨q, 4, none⟩) hq v4).setOther (a := ⟨q, 5, none⟩) hq v5)
theorem put6_below {B : Nat} {w W : World} {q : Nat} (h : Below B w W) (hq : B ≤ q) (v0 v1 v2 v3 v4 v5 : Value) : Below B w (put6 W q v0 v1 v2 v3 v4 v5) :=
  (((((h.setCell (p := ⟨q, 0, none⟩) hq v0).setCell (p := ⟨q, 1, none⟩) hq v1).setCell (p := ⟨q, 2, none⟩) hq v2).setCell (p := ⟨q, 3, none⟩) hq v3).setCell (p := ⟨q, 4, none⟩) hq v4).setCell (p := ⟨q, 5, none⟩) hq v5
theorem cell_other {W : World} {g i q j : Nat} {v : Value} (h : g ≠ q) : (W.setCell ⟨g, i, none⟩ v).cell? ⟨q, j, none⟩ = W.cell? ⟨q, j, none⟩ := World.cell?_setCell_other _ _ _ _ (by intro h; simp only [Addr.mk.injEq] at h; omega)
def Fm (wz : World) (n : Ne) (g q : Nat) (W : World) : Prop := Below wz.heap.size wz W ∧ W.rowIs g 3 n.cols.length (fun _ => .int .i64 0) ∧ W.rowIs q 67 6 (fun j => (subC n g).getD j undef) ∧ wz.heap.size ≤ g ∧ wz.heap.size ≤ q ∧ g ≠ q
theorem Am.fin {wz W : World} {n : Ne} {g q : Nat} (h : Am wz n.cols.length g q W) : Fm wz n g q (put6 W q (.slice n.ca n.cols.length n.cc) (.slice n.pa n.places.length n.pc) (.slice n.ta n.tasks.length n.tc) (.int .i64 n.frm) (.int .i64 n.too) (.slice (some ⟨g, 0, none⟩) n.cols.length n.cols.length)) :=
  ⟨put6_below h.1.1 h.2.2.1 _ _ _ _ _ _, put6_other h.1.2.1 h.2.2.2 _ _ _ _ _ _, put6_row h.1.2.2 _ _ _ _ _ _, h.2⟩
theorem infoInt8 : (Tryz.prog.info? 3).map (fun i => (i.zero, i.size, i.bytes)) = some (some (.int .i64 0), 1, 8) := by kernel_rfl
set_option maxRecDepth 10000 in
set_option maxHeartbeats 4000000 in
theorem about_any (n : Ne) (w : World) (h : NeOk w n) (hm : n.cols.length ≤ 1000000) : Calls Tryz.prog 26 #[.agg #[.slice n.ca n.cols.length n.cc, .slice n.pa n.places.length n.pc, .slice n.ta n.tasks.length n.tc, .int .i64 n.frm, .int .i64 n.too]] w fun e w' => ∃ g, e = .returned (.agg (subC n g)) ∧ Sz w' g n ∧ Below w.heap.size w w' := by
  have H0 : Hid (NeOk w n) := h
  clear h
  obtain ⟨wz, hwz⟩ : ∃ wz, wz = (w.alloc (.cells #[.slice n.ca n.cols.length n.cc, .slice n.pa n.places.length n.pc, .slice n.ta n.tasks.length n.tc, .int .i64 n.frm, .int .i64 n.too] 26)).alloc (.cells #[.slice none 0 0, .slice none 0 0, .slice none 0 0, .int .i64 0, .int .i64 0, .slice none 0 0] 67) := ⟨_, rfl⟩
  have hz1 : Below w.heap.size w (w.alloc (.cells #[.slice n.ca n.cols.length n.cc, .slice n.pa n.places.length n.pc, .slice n.ta n.tasks.length n.tc, .int .i64 n.frm, .int .i64 n.too] 26)) := (Below.refl _ _).alloc (Nat.le_refl _) _
  have hz : Below w.heap.size w wz := by rw [hwz]; exact al hz1 _
  have n0 : wz.cell? ⟨w.heap.size, 0, none⟩ = some (.slice n.ca n.cols.length n.cc) := by rw [hwz]; exact box_below (World.cell?_alloc_at _ _ _ _ rfl) ((Below.refl _ _).alloc (Nat.le_refl _) _)
  have n1 : wz.cell? ⟨w.heap.size, 1, none⟩ = some (.slice n.pa n.places.length n.pc) := by rw [hwz]; exact box_below (World.cell?_alloc_at _ _ _ _ rfl) ((Below.refl _ _).alloc (Nat.le_refl _) _)
  have n2 : wz.cell? ⟨w.heap.size, 2, none⟩ = some (.slice n.ta n.tasks.length n.tc) := by rw [hwz]; exact box_below (World.cell?_alloc_at _ _ _ _ rfl) ((Below.refl _ _).alloc (Nat.le_refl _) _)
  have n3 : wz.cell? ⟨w.heap.size, 3, none⟩ = some (.int .i64 n.frm) := by rw [hwz]; exact box_below (World.cell?_alloc_at _ _ _ _ rfl) ((Below.refl _ _).alloc (Nat.le_refl _) _)
  have n4 : wz.cell? ⟨w.heap.size, 4, none⟩ = some (.int .i64 n.too) := by rw [hwz]; exact box_below (World.cell?_alloc_at _ _ _ _ rfl) ((Below.refl _ _).alloc (Nat.le_refl _) _)
  have r2 : wz.rowIs (w.heap.size + 1) 67 6 zero6 := by rw [hwz]; have := box6 (w.alloc (.cells #[.slice n.ca n.cols.length n.cc, .slice n.pa n.places.length n.pc, .slice n.ta n.tasks.length n.tc, .int .i64 n.frm, .int .i64 n.too] 26)); simpa using this
  have hsz : wz.heap.size = w.heap.size + 2 := by rw [hwz]; simp
  have HZ : Hid (Below w.heap.size w wz ∧ wz.cell? ⟨w.heap.size, 0, none⟩ = some (.slice n.ca n.cols.length n.cc) ∧ wz.rowIs (w.heap.size + 1) 67 6 zero6 ∧ wz.heap.size = w.heap.size + 2) := ⟨hz, n0, r2, hsz⟩
  have hmk := run_make_row' (P := Tryz.prog) 36 3 (.int .i64 0) 8 Tryz.underlying36 infoInt8 rfl .i64 .i64 n.cols.length (by omega) (by omega)
  clear hz hz1 r2 hsz
  go_enter Tryz.func26, Tryz.ntmps26
  go_upto_region 1 with fail
  rw [← hwz]
  clear hwz
  go_cut [3] from 5 (fun s wr => ∃ g q, s = .pointer (some ⟨q, 0, none⟩) ∧ Hid (Fm wz n g q wr))
  case first =>
    refine wp_region_held_drew (S := fun W => Below wz.heap.size wz W) (by kernel_rfl) ((Below.refl _ _).drew) (fun hS => ?_)
    refine wpAnyH_steps (l' := #[false, false, false, false, false, false, false, false]) (a' := { tmps := #[Value.agg #[Value.slice n.ca n.cols.length n.cc, Value.slice n.pa n.places.length n.pc, Value.slice n.ta n.tasks.length n.tc, Value.int IntKind.i64 n.frm, Value.int IntKind.i64 n.too], Value.pointer (some { block := w.heap.size, off := 0 }), Value.pointer (some { block := w.heap.size + 1, off := 0 }), undef, undef, undef, undef, undef, undef, undef, undef, undef, undef, undef, undef, undef, undef, undef, undef, undef, undef, undef, undef, undef, undef, undef, undef], defers := [] }) (by kernel_rfl) (by rfl) (by kernel_rfl) (fun _ _ d _ _ h => by cases d <;> exact h) (fun F ht hc hb hd => ?_)
    refine ht _ _ #[true, false, false, false, false, false, false, false] _ { tmps := #[Value.agg #[Value.slice n.ca n.cols.length n.cc, Value.slice n.pa n.places.length n.pc, Value.slice n.ta n.tasks.length n.tc, Value.int IntKind.i64 n.frm, Value.int IntKind.i64 n.too], Value.pointer (some { block := w.heap.size, off := 0 }), Value.pointer (some { block := w.heap.size + 1, off := 0 }), undef, undef, .agg #[.slice n.ca n.cols.length n.cc, .slice n.pa n.places.length n.pc, .slice n.ta n.tasks.length n.tc, .int .i64 n.frm, .int .i64 n.too], undef, undef, undef, undef, undef, undef, undef, undef, undef, undef, undef, undef, undef, undef, undef, undef, undef, undef, undef, undef, undef], defers := [] } _ 0 { dst := some 5, op := Op.load 26 (Operand.tmp 1), type := 26, pos := "asks.go:88", after := #[], guard := none } (.agg #[.slice n.ca n.cols.length n.cc, .slice n.pa n.places.length n.pc, .slice n.ta n.tasks.length n.tc, .int .i64 n.frm, .int .i64 n.too]) (by kernel_rfl) (by kernel_rfl) (by kernel_rfl) (by rfl) (fun w' hw => ?hy) hS (by kernel_rfl) (by rfl) ?_
    case hy =>
      have f0 := box_below n0 hw
      have f1 := box_below n1 hw
      have f2 := box_below n2 hw
      have f3 := box_below n3 hw
      have f4 := box_below n4 hw
      clear ht hc hb hd
      go_simp
      try with_reducible rfl
    refine ht _ _ #[true, true, false, false, false, false, false, false] _ { tmps := #[Value.agg #[Value.slice n.ca n.cols.length n.cc, Value.slice n.pa n.places.length n.pc, Value.slice n.ta n.tasks.length n.tc, Value.int IntKind.i64 n.frm, Value.int IntKind.i64 n.too], Value.pointer (some { block := w.heap.size, off := 0 }), Value.pointer (some { block := w.heap.size + 1, off := 0 }), undef, undef, .agg #[.slice n.ca n.cols.length n.cc, .slice n.pa n.places.length n.pc, .slice n.ta n.tasks.length n.tc, .int .i64 n.frm, .int .i64 n.too], .pointer (some ⟨w.heap.size, 0, none⟩), undef, undef, undef, undef, undef, undef, undef, undef, undef, undef, undef, undef, undef, undef, undef, undef, undef, undef, undef, undef], defers := [] } _ 1 { dst := some 6, op := Op.fieldAddr 26 (Operand.tmp 1) 0, type := 0, pos := "asks.go:88", after := #[], guard := none } (.pointer (some ⟨w.heap.size, 0, none⟩)) (by kernel_rfl) (by kernel_rfl) (by kernel_rfl) (by rfl) (fun w' hw => ?hy) hS (by kernel_rfl) (by rfl) ?_
    case hy =>
      clear ht hc hb hd
      go_simp
      try with_reducible rfl
    refine ht _ _ #[true, true, true, false, false, false, false, false] _ { tmps := #[Value.agg #[Value.slice n.ca n.cols.length n.cc, Value.slice n.pa n.places.length n.pc, Value.slice n.ta n.tasks.length n.tc, Value.int IntKind.i64 n.frm, Value.int IntKind.i64 n.too], Value.pointer (some { block := w.heap.size, off := 0 }), Value.pointer (some { block := w.heap.size + 1, off := 0 }), undef, undef, .agg #[.slice n.ca n.cols.length n.cc, .slice n.pa n.places.length n.pc, .slice n.ta n.tasks.length n.tc, .int .i64 n.frm, .int .i64 n.too], .pointer (some ⟨w.heap.size, 0, none⟩), .slice n.ca n.cols.length n.cc, undef, undef, undef, undef, undef, undef, undef, undef, undef, undef, undef, undef, undef, undef, undef, undef, undef, undef, undef], defers := [] } _ 2 { dst := some 7, op := Op.load 22 (Operand.tmp 6), type := 22, pos := "asks.go:88", after := #[{ on := 1, ground := Ground.data }], guard := none } (.slice n.ca n.cols.length n.cc) (by kernel_rfl) (by kernel_rfl) (by kernel_rfl) (by rfl) (fun w' hw => ?hy) hS (by kernel_rfl) (by rfl) ?_
    case hy =>
      have f0 := box_below n0 hw
      have f1 := box_below n1 hw
      have f2 := box_below n2 hw
      have f3 := box_below n3 hw
      have f4 := box_below n4 hw
      clear ht hc hb hd
      go_simp
      try with_reducible rfl
    refine ht _ _ #[true, true, true, true, false, false, false, false] _ { tmps := #[Value.agg #[Value.slice n.ca n.cols.length n.cc, Value.slice n.pa n.places.length n.pc, Value.slice n.ta n.tasks.length n.tc, Value.int IntKind.i64 n.frm, Value.int IntKind.i64 n.too], Value.pointer (some { block := w.heap.size, off := 0 }), Value.pointer (some { block := w.heap.size + 1, off := 0 }), undef, undef, .agg #[.slice n.ca n.cols.length n.cc, .slice n.pa n.places.length n.pc, .slice n.ta n.tasks.length n.tc, .int .i64 n.frm, .int .i64 n.too], .pointer (some ⟨w.heap.size, 0, none⟩), .slice n.ca n.cols.length n.cc, .int .i64 ↑n.cols.length, undef, undef, undef, undef, undef, undef, undef, undef, undef, undef, undef, undef, undef, undef, undef, undef, undef, undef], defers := [] } _ 3 { dst := some 8, op := Op.call { callee := Callee.builtin Builtin.len, args := #[Operand.tmp 7], argTypes := #[22] }, type := 3, pos := "asks.go:88", after := #[{ on := 2, ground := Ground.data }], guard := none } (.int .i64 ↑n.cols.length) (by kernel_rfl) (by kernel_rfl) (by kernel_rfl) (by rfl) (fun w' hw => ?hy) hS (by kernel_rfl) (by rfl) ?_
    case hy =>
      clear ht hc hb hd
      go_simp
      try with_reducible rfl
    have L9 : ∀ g q W, Hid (Fm wz n g q W) → F 0 #[true, true, true, true, true, true, true, true] { tmps := #[Value.agg #[Value.slice n.ca n.cols.length n.cc, Value.slice n.pa n.places.length n.pc, Value.slice n.ta n.tasks.length n.tc, Value.int IntKind.i64 n.frm, Value.int IntKind.i64 n.too], Value.pointer (some { block := w.heap.size, off := 0 }), Value.pointer (some { block := w.heap.size + 1, off := 0 }), .pointer (some ⟨q, 0, none⟩), undef, .agg #[.slice n.ca n.cols.length n.cc, .slice n.pa n.places.length n.pc, .slice n.ta n.tasks.length n.tc, .int .i64 n.frm, .int .i64 n.too], .pointer (some ⟨w.heap.size, 0, none⟩), .slice n.ca n.cols.length n.cc, .int .i64 ↑n.cols.length, .slice (some ⟨g, 0, none⟩) n.cols.length n.cols.length, .agg #[.slice n.ca n.cols.length n.cc, .slice n.pa n.places.length n.pc, .slice n.ta n.tasks.length n.tc, .int .i64 n.frm, .int .i64 n.too, .slice (some ⟨g, 0, none⟩) n.cols.length n.cols.length], undef, undef, undef, undef, undef, undef, undef, undef, undef, undef, undef, undef, undef, undef, undef, undef], defers := [] } W := by
      intro g q W HW
      refine hd _ _ _ _ (by kernel_rfl) ?_
      clear hd ht hc hb F
      go_wp2_with fail
      go_meet
      case rel => exact ⟨g, q, rfl, HW⟩
    have L7 : ∀ g q W, Hid (Am wz n.cols.length g q W) → F 1 #[true, true, true, true, true, true, true, false] { tmps := #[Value.agg #[Value.slice n.ca n.cols.length n.cc, Value.slice n.pa n.places.length n.pc, Value.slice n.ta n.tasks.length n.tc, Value.int IntKind.i64 n.frm, Value.int IntKind.i64 n.too], Value.pointer (some { block := w.heap.size, off := 0 }), Value.pointer (some { block := w.heap.size + 1, off := 0 }), .pointer (some ⟨q, 0, none⟩), undef, .agg #[.slice n.ca n.cols.length n.cc, .slice n.pa n.places.length n.pc, .slice n.ta n.tasks.length n.tc, .int .i64 n.frm, .int .i64 n.too], .pointer (some ⟨w.heap.size, 0, none⟩), .slice n.ca n.cols.length n.cc, .int .i64 ↑n.cols.length, .slice (some ⟨g, 0, none⟩) n.cols.length n.cols.length, .agg #[.slice n.ca n.cols.length n.cc, .slice n.pa n.places.length n.pc, .slice n.ta n.tasks.length n.tc, .int .i64 n.frm, .int .i64 n.too, .slice (some ⟨g, 0, none⟩) n.cols.length n.cols.length], undef, undef, undef, undef, undef, undef, undef, undef, undef, undef, undef, undef, undef, undef, undef, undef], defers := [] } W := by
      intro g q W HW
      refine hc _ _ #[true, true, true, true, true, true, true, true] _ _ 7 { dst := none, op := Op.store 67 (Operand.tmp 3) (Operand.tmp 10), type := 0, pos := "asks.go:88", after := #[{ on := 6, ground := Ground.data }, { on := 5, ground := Ground.data }, { on := 0, ground := Ground.phase }, { on := 1, ground := Ground.phase }, { on := 2, ground := Ground.phase }, { on := 3, ground := Ground.phase }, { on := 4, ground := Ground.phase }, { on := 5, ground := Ground.phase }, { on := 6, ground := Ground.phase }], guard := none } (by kernel_rfl) (by kernel_rfl) (by kernel_rfl) (fun K hK => ?_)
      obtain ⟨⟨c0, c1, c2, c3, c4, c5⟩, ⟨f0, f1, f2, f3, f4, f5⟩, ql⟩ := HW.out.cells
      have hK0 : Hid _ := hK
      clear hK ht hc hb hd
      go_simp
      exact hK0.out _ _ HW.out.fin.1 (L9 g q _ HW.out.fin)
    have L8 : ∀ g q W, Hid (Am wz n.cols.length g q W) → F 2 #[true, true, true, true, true, false, true, false] { tmps := #[Value.agg #[Value.slice n.ca n.cols.length n.cc, Value.slice n.pa n.places.length n.pc, Value.slice n.ta n.tasks.length n.tc, Value.int IntKind.i64 n.frm, Value.int IntKind.i64 n.too], Value.pointer (some { block := w.heap.size, off := 0 }), Value.pointer (some { block := w.heap.size + 1, off := 0 }), .pointer (some ⟨q, 0, none⟩), undef, .agg #[.slice n.ca n.cols.length n.cc, .slice n.pa n.places.length n.pc, .slice n.ta n.tasks.length n.tc, .int .i64 n.frm, .int .i64 n.too], .pointer (some ⟨w.heap.size, 0, none⟩), .slice n.ca n.cols.length n.cc, .int .i64 ↑n.cols.length, .slice (some ⟨g, 0, none⟩) n.cols.length n.cols.length, undef, undef, undef, undef, undef, undef, undef, undef, undef, undef, undef, undef, undef, undef, undef, undef, undef], defers := [] } W := by
      intro g q W HW
      refine ht _ _ #[true, true, true, true, true, true, true, false] _ { tmps := #[Value.agg #[Value.slice n.ca n.cols.length n.cc, Value.slice n.pa n.places.length n.pc, Value.slice n.ta n.tasks.length n.tc, Value.int IntKind.i64 n.frm, Value.int IntKind.i64 n.too], Value.pointer (some { block := w.heap.size, off := 0 }), Value.pointer (some { block := w.heap.size + 1, off := 0 }), .pointer (some ⟨q, 0, none⟩), undef, .agg #[.slice n.ca n.cols.length n.cc, .slice n.pa n.places.length n.pc, .slice n.ta n.tasks.length n.tc, .int .i64 n.frm, .int .i64 n.too], .pointer (some ⟨w.heap.size, 0, none⟩), .slice n.ca n.cols.length n.cc, .int .i64 ↑n.cols.length, .slice (some ⟨g, 0, none⟩) n.cols.length n.cols.length, .agg #[.slice n.ca n.cols.length n.cc, .slice n.pa n.places.length n.pc, .slice n.ta n.tasks.length n.tc, .int .i64 n.frm, .int .i64 n.too, .slice (some ⟨g, 0, none⟩) n.cols.length n.cols.length], undef, undef, undef, undef, undef, undef, undef, undef, undef, undef, undef, undef, undef, undef, undef, undef], defers := [] } _ 5 { dst := some 10, op := Op.build 67 #[(0, Operand.tmp 5), (1, Operand.tmp 9)], type := 67, pos := "asks.go:88", after := #[{ on := 0, ground := Ground.data }, { on := 4, ground := Ground.data }], guard := none } (.agg #[.slice n.ca n.cols.length n.cc, .slice n.pa n.places.length n.pc, .slice n.ta n.tasks.length n.tc, .int .i64 n.frm, .int .i64 n.too, .slice (some ⟨g, 0, none⟩) n.cols.length n.cols.length]) (by kernel_rfl) (by kernel_rfl) (by kernel_rfl) (by rfl) (fun w' hw => ?hy) HW.out.1.1 (by kernel_rfl) (by rfl) ?_
      case hy =>
        clear ht hc hb hd
        go_simp
        try with_reducible rfl
      exact L7 g q W HW
    have L4 : ∀ g W, Hid (Gm wz n.cols.length g W) → F 3 #[true, true, true, true, true, false, false, false] { tmps := #[Value.agg #[Value.slice n.ca n.cols.length n.cc, Value.slice n.pa n.places.length n.pc, Value.slice n.ta n.tasks.length n.tc, Value.int IntKind.i64 n.frm, Value.int IntKind.i64 n.too], Value.pointer (some { block := w.heap.size, off := 0 }), Value.pointer (some { block := w.heap.size + 1, off := 0 }), undef, undef, .agg #[.slice n.ca n.cols.length n.cc, .slice n.pa n.places.length n.pc, .slice n.ta n.tasks.length n.tc, .int .i64 n.frm, .int .i64 n.too], .pointer (some ⟨w.heap.size, 0, none⟩), .slice n.ca n.cols.length n.cc, .int .i64 ↑n.cols.length, .slice (some ⟨g, 0, none⟩) n.cols.length n.cols.length, undef, undef, undef, undef, undef, undef, undef, undef, undef, undef, undef, undef, undef, undef, undef, undef, undef], defers := [] } W := by
      intro g W HW
      refine ht _ _ #[true, true, true, true, true, true, false, false] _ { tmps := #[Value.agg #[Value.slice n.ca n.cols.length n.cc, Value.slice n.pa n.places.length n.pc, Value.slice n.ta n.tasks.length n.tc, Value.int IntKind.i64 n.frm, Value.int IntKind.i64 n.too], Value.pointer (some { block := w.heap.size, off := 0 }), Value.pointer (some { block := w.heap.size + 1, off := 0 }), undef, undef, .agg #[.slice n.ca n.cols.length n.cc, .slice n.pa n.places.length n.pc, .slice n.ta n.tasks.length n.tc, .int .i64 n.frm, .int .i64 n.too], .pointer (some ⟨w.heap.size, 0, none⟩), .slice n.ca n.cols.length n.cc, .int .i64 ↑n.cols.length, .slice (some ⟨g, 0, none⟩) n.cols.length n.cols.length, .agg #[.slice n.ca n.cols.length n.cc, .slice n.pa n.places.length n.pc, .slice n.ta n.tasks.length n.tc, .int .i64 n.frm, .int .i64 n.too, .slice (some ⟨g, 0, none⟩) n.cols.length n.cols.length], undef, undef, undef, undef, undef, undef, undef, undef, undef, undef, undef, undef, undef, undef, undef, undef], defers := [] } _ 5 { dst := some 10, op := Op.build 67 #[(0, Operand.tmp 5), (1, Operand.tmp 9)], type := 67, pos := "asks.go:88", after := #[{ on := 0, ground := Ground.data }, { on := 4, ground := Ground.data }], guard := none } (.agg #[.slice n.ca n.cols.length n.cc, .slice n.pa n.places.length n.pc, .slice n.ta n.tasks.length n.tc, .int .i64 n.frm, .int .i64 n.too, .slice (some ⟨g, 0, none⟩) n.cols.length n.cols.length]) (by kernel_rfl) (by kernel_rfl) (by kernel_rfl) (by rfl) (fun w' hw => ?hy) HW.out.1 (by kernel_rfl) (by rfl) ?_
      case hy =>
        clear ht hc hb hd
        go_simp
        try with_reducible rfl
      refine hc _ _ #[true, true, true, true, true, true, true, false] _ _ 6 { dst := some 3, op := Op.alloc 67, type := 0, pos := "asks.go:88", after := #[], guard := none } (by kernel_rfl) (by kernel_rfl) (by kernel_rfl) (fun K hK => ?_)
      have hK0 : Hid _ := hK
      clear hK ht hc hb hd
      go_simp
      exact hK0.out _ _ HW.out.box.1.1 (L7 g _ _ HW.out.box)
    have L6 : ∀ q W, Hid (Bm wz q W) → F 3 #[true, true, true, true, false, false, true, false] { tmps := #[Value.agg #[Value.slice n.ca n.cols.length n.cc, Value.slice n.pa n.places.length n.pc, Value.slice n.ta n.tasks.length n.tc, Value.int IntKind.i64 n.frm, Value.int IntKind.i64 n.too], Value.pointer (some { block := w.heap.size, off := 0 }), Value.pointer (some { block := w.heap.size + 1, off := 0 }), .pointer (some ⟨q, 0, none⟩), undef, .agg #[.slice n.ca n.cols.length n.cc, .slice n.pa n.places.length n.pc, .slice n.ta n.tasks.length n.tc, .int .i64 n.frm, .int .i64 n.too], .pointer (some ⟨w.heap.size, 0, none⟩), .slice n.ca n.cols.length n.cc, .int .i64 ↑n.cols.length, undef, undef, undef, undef, undef, undef, undef, undef, undef, undef, undef, undef, undef, undef, undef, undef, undef, undef], defers := [] } W := by
      intro q W HW
      refine hc _ _ #[true, true, true, true, true, false, true, false] _ _ 4 { dst := some 9, op := Op.makeSlice 36 (Operand.tmp 8) (Operand.tmp 8), type := 36, pos := "asks.go:88", after := #[{ on := 3, ground := Ground.data }, { on := 3, ground := Ground.data }], guard := none } (by kernel_rfl) (by kernel_rfl) (by kernel_rfl) (fun K hK => ?_)
      have hK0 : Hid _ := hK
      clear hK ht hc hb hd
      go_simp
      exact hK0.out _ _ (HW.out.row n.cols.length).1.1 (L8 _ q _ (HW.out.row n.cols.length))
    refine hb _ _ _ _ [4, 6] (by kernel_rfl) (by simp) ?_
    refine AllFH.cons (o := { dst := some 9, op := Op.makeSlice 36 (Operand.tmp 8) (Operand.tmp 8), type := 36, pos := "asks.go:88", after := #[{ on := 3, ground := Ground.data }, { on := 3, ground := Ground.data }], guard := none }) (l' := #[true, true, true, true, true, false, false, false]) (by kernel_rfl) (by kernel_rfl) (fun K hK => ?_) ?_
    · have hK0 : Hid _ := hK
      clear hK ht hc hb hd
      go_simp
      exact hK0.out _ _ (Gm.of hS n.cols.length).1 (L4 _ _ (Gm.of hS n.cols.length))
    refine AllFH.cons (o := { dst := some 3, op := Op.alloc 67, type := 0, pos := "asks.go:88", after := #[], guard := none }) (l' := #[true, true, true, true, false, false, true, false]) (by kernel_rfl) (by kernel_rfl) (fun K hK => ?_) ?_
    · have hK0 : Hid _ := hK
      clear hK ht hc hb hd
      go_simp
      exact hK0.out _ _ (Bm.of hS).1 (L6 _ _ (Bm.of hS))
    exact AllFH.nil
  case rest =>
    obtain ⟨g, q, rfl, HC⟩ := hcut
    clear hmk n0 n1 n2 n3 n4
    have hq5 : wc.cell? ⟨q, 5, none⟩ = some (.slice (some ⟨g, 0, none⟩) n.cols.length n.cols.length) := HC.out.2.2.1.cell (by decide)
    go_wp2_with fail
    go_loopw [14] (fun v wr => ∃ i : Nat, v = .int .i64 (i : Int) ∧ i ≤ n.cols.length ∧ Hid (Below wz.heap.size wz wr ∧ wr.rowIs g 3 n.cols.length (fun j => .int .i64 (if j < i then Colour.sizeF n.cols j else 0)) ∧ wr.rowIs q 67 6 (fun j => (subC n g).getD j undef))) (fun v _ => match v with | .int _ z => n.cols.length - z.toNat | _ => 0)
    case atStart => exact ⟨0, rfl, by omega, ⟨HC.out.1, HC.out.2.1.congr (fun i hi => by simp), HC.out.2.2.1⟩⟩
    case round =>
      obtain ⟨i, rfl, hi, HI⟩ := hrel
      clear hq5
      have q5 : wr.cell? ⟨q, 5, none⟩ = some (.slice (some ⟨g, 0, none⟩) n.cols.length n.cols.length) := HI.out.2.2.cell (by decide)
      have b0 : wr.cell? ⟨w.heap.size, 0, none⟩ = some (.slice n.ca n.cols.length n.cc) := box_below HZ.out.2.1 HI.out.1
      by_cases hlt : i < n.cols.length
      · have hlt' : (i : Int) < n.cols.length := by omega
        have hgl : g < wr.heap.size := HI.out.2.1.lt
        have hql : q < wr.heap.size := HI.out.2.2.lt
        have hwl : w.heap.size < wr.heap.size := World.block_lt_of_cell? _ _ b0
        have hgq : g ≠ q ∧ g ≠ w.heap.size := ⟨HC.out.2.2.2.2.2, by have := HC.out.2.2.2.1; have := HZ.out.2.2.2; omega⟩
        have HGQ : Hid (g ≠ q ∧ g ≠ w.heap.size ∧ wz.heap.size ≤ g) := ⟨hgq.1, hgq.2, HC.out.2.2.2.1⟩
        have CZ : Hid (Calls Tryz.prog 68 #[.slice n.ca n.cols.length n.cc, .int .i64 (i : Int)] wr.drew fun e w' => e = .returned (.int .i64 (Colour.sizeF n.cols i)) ∧ Below wr.drew.heap.size wr.drew w') := Colour.size_any _ _ _ _ _ _ ((H0.out.2.1.below (then_ HZ.out.1 HI.out.1)).below (Below.refl _ _).drew)
        clear hgq
        go_upto_region 5 with fail
        refine wp_region_held_drew (S := fun W => W.cell? ⟨q, 5, none⟩ = some (.slice (some ⟨g, 0, none⟩) n.cols.length n.cols.length) ∧ W.cell? ⟨w.heap.size, 0, none⟩ = some (.slice n.ca n.cols.length n.cc)) (by kernel_rfl) ⟨q5, b0⟩ (fun hS => ?_)
        refine wpAnyH_steps (l' := #[false, false, false, false, false, false, false, false, false]) (a' := { tmps := #[Value.agg #[Value.slice n.ca n.cols.length n.cc, Value.slice n.pa n.places.length n.pc, Value.slice n.ta n.tasks.length n.tc, Value.int IntKind.i64 n.frm, Value.int IntKind.i64 n.too], Value.pointer (some { block := w.heap.size, off := 0 }), Value.pointer (some { block := w.heap.size + 1, off := 0 }), Value.pointer (some { block := q, off := 0 }), Value.int IntKind.i64 ↑i, u5, u6, u7, u8, u9, u10, Value.pointer (some { block := q, off := 5 }), Value.slice (some { block := g, off := 0 }) n.cols.length n.cols.length, Value.int IntKind.i64 ↑n.cols.length, Value.int IntKind.i64 ↑i, Value.bool true, Value.int IntKind.i64 ↑i, u17, u18, u19, u20, u21, u22, u23, u24, u25, u26], defers := [] }) (by kernel_rfl) (by rfl) (by kernel_rfl) (fun _ _ d _ _ h => by cases d <;> exact h) (fun F ht hc hb hd => ?_)
        refine ht _ _ #[true, false, false, false, false, false, false, false, false] _ { tmps := #[Value.agg #[Value.slice n.ca n.cols.length n.cc, Value.slice n.pa n.places.length n.pc, Value.slice n.ta n.tasks.length n.tc, Value.int IntKind.i64 n.frm, Value.int IntKind.i64 n.too], Value.pointer (some { block := w.heap.size, off := 0 }), Value.pointer (some { block := w.heap.size + 1, off := 0 }), Value.pointer (some { block := q, off := 0 }), Value.int IntKind.i64 ↑i, u5, u6, u7, u8, u9, u10, Value.pointer (some { block := q, off := 5 }), Value.slice (some { block := g, off := 0 }) n.cols.length n.cols.length, Value.int IntKind.i64 ↑n.cols.length, Value.int IntKind.i64 ↑i, Value.bool true, Value.int IntKind.i64 ↑i, .pointer (some ⟨q, 5, none⟩), u18, u19, u20, u21, u22, u23, u24, u25, u26], defers := [] } _ 0 { dst := some 17, op := Op.fieldAddr 67 (Operand.tmp 3) 1, type := 0, pos := "asks.go:90", after := #[], guard := none } (.pointer (some ⟨q, 5, none⟩)) (by kernel_rfl) (by kernel_rfl) (by kernel_rfl) (by rfl) (fun w' hw => ?hy) hS (by kernel_rfl) (by rfl) ?_
        case hy =>
          clear ht hc hb hd hS
          go_simp
          try with_reducible rfl
        refine ht _ _ #[true, true, false, false, false, false, false, false, false] _ { tmps := #[Value.agg #[Value.slice n.ca n.cols.length n.cc, Value.slice n.pa n.places.length n.pc, Value.slice n.ta n.tasks.length n.tc, Value.int IntKind.i64 n.frm, Value.int IntKind.i64 n.too], Value.pointer (some { block := w.heap.size, off := 0 }), Value.pointer (some { block := w.heap.size + 1, off := 0 }), Value.pointer (some { block := q, off := 0 }), Value.int IntKind.i64 ↑i, u5, u6, u7, u8, u9, u10, Value.pointer (some { block := q, off := 5 }), Value.slice (some { block := g, off := 0 }) n.cols.length n.cols.length, Value.int IntKind.i64 ↑n.cols.length, Value.int IntKind.i64 ↑i, Value.bool true, Value.int IntKind.i64 ↑i, .pointer (some ⟨q, 5, none⟩), .slice (some ⟨g, 0, none⟩) n.cols.length n.cols.length, u19, u20, u21, u22, u23, u24, u25, u26], defers := [] } _ 1 { dst := some 18, op := Op.load 36 (Operand.tmp 17), type := 36, pos := "asks.go:90", after := #[{ on := 0, ground := Ground.data }], guard := none } (.slice (some ⟨g, 0, none⟩) n.cols.length n.cols.length) (by kernel_rfl) (by kernel_rfl) (by kernel_rfl) (by rfl) (fun w' hw => ?hy) hS (by kernel_rfl) (by rfl) ?_
        case hy =>
          obtain ⟨s1, s2⟩ := hw
          clear ht hc hb hd hS
          go_simp
          try with_reducible rfl
        refine ht _ _ #[true, true, true, false, false, false, false, false, false] _ { tmps := #[Value.agg #[Value.slice n.ca n.cols.length n.cc, Value.slice n.pa n.places.length n.pc, Value.slice n.ta n.tasks.length n.tc, Value.int IntKind.i64 n.frm, Value.int IntKind.i64 n.too], Value.pointer (some { block := w.heap.size, off := 0 }), Value.pointer (some { block := w.heap.size + 1, off := 0 }), Value.pointer (some { block := q, off := 0 }), Value.int IntKind.i64 ↑i, u5, u6, u7, u8, u9, u10, Value.pointer (some { block := q, off := 5 }), Value.slice (some { block := g, off := 0 }) n.cols.length n.cols.length, Value.int IntKind.i64 ↑n.cols.length, Value.int IntKind.i64 ↑i, Value.bool true, Value.int IntKind.i64 ↑i, .pointer (some ⟨q, 5, none⟩), .slice (some ⟨g, 0, none⟩) n.cols.length n.cols.length, .int .i64 ↑i, u20, u21, u22, u23, u24, u25, u26], defers := [] } _ 2 { dst := some 19, op := Op.move (Operand.tmp 4), type := 3, pos := "asks.go:90", after := #[], guard := none } (.int .i64 ↑i) (by kernel_rfl) (by kernel_rfl) (by kernel_rfl) (by rfl) (fun w' hw => ?hy) hS (by kernel_rfl) (by rfl) ?_
        case hy =>
          clear ht hc hb hd hS
          go_simp
          try with_reducible rfl
        refine ht _ _ #[true, true, true, true, false, false, false, false, false] _ { tmps := #[Value.agg #[Value.slice n.ca n.cols.length n.cc, Value.slice n.pa n.places.length n.pc, Value.slice n.ta n.tasks.length n.tc, Value.int IntKind.i64 n.frm, Value.int IntKind.i64 n.too], Value.pointer (some { block := w.heap.size, off := 0 }), Value.pointer (some { block := w.heap.size + 1, off := 0 }), Value.pointer (some { block := q, off := 0 }), Value.int IntKind.i64 ↑i, u5, u6, u7, u8, u9, u10, Value.pointer (some { block := q, off := 5 }), Value.slice (some { block := g, off := 0 }) n.cols.length n.cols.length, Value.int IntKind.i64 ↑n.cols.length, Value.int IntKind.i64 ↑i, Value.bool true, Value.int IntKind.i64 ↑i, .pointer (some ⟨q, 5, none⟩), .slice (some ⟨g, 0, none⟩) n.cols.length n.cols.length, .int .i64 ↑i, .pointer (some ⟨w.heap.size, 0, none⟩), u21, u22, u23, u24, u25, u26], defers := [] } _ 3 { dst := some 20, op := Op.fieldAddr 26 (Operand.tmp 1) 0, type := 0, pos := "asks.go:90", after := #[], guard := none } (.pointer (some ⟨w.heap.size, 0, none⟩)) (by kernel_rfl) (by kernel_rfl) (by kernel_rfl) (by rfl) (fun w' hw => ?hy) hS (by kernel_rfl) (by rfl) ?_
        case hy =>
          clear ht hc hb hd hS
          go_simp
          try with_reducible rfl
        refine ht _ _ #[true, true, true, true, true, false, false, false, false] _ { tmps := #[Value.agg #[Value.slice n.ca n.cols.length n.cc, Value.slice n.pa n.places.length n.pc, Value.slice n.ta n.tasks.length n.tc, Value.int IntKind.i64 n.frm, Value.int IntKind.i64 n.too], Value.pointer (some { block := w.heap.size, off := 0 }), Value.pointer (some { block := w.heap.size + 1, off := 0 }), Value.pointer (some { block := q, off := 0 }), Value.int IntKind.i64 ↑i, u5, u6, u7, u8, u9, u10, Value.pointer (some { block := q, off := 5 }), Value.slice (some { block := g, off := 0 }) n.cols.length n.cols.length, Value.int IntKind.i64 ↑n.cols.length, Value.int IntKind.i64 ↑i, Value.bool true, Value.int IntKind.i64 ↑i, .pointer (some ⟨q, 5, none⟩), .slice (some ⟨g, 0, none⟩) n.cols.length n.cols.length, .int .i64 ↑i, .pointer (some ⟨w.heap.size, 0, none⟩), .slice n.ca n.cols.length n.cc, u22, u23, u24, u25, u26], defers := [] } _ 4 { dst := some 21, op := Op.load 22 (Operand.tmp 20), type := 22, pos := "asks.go:90", after := #[{ on := 3, ground := Ground.data }], guard := none } (.slice n.ca n.cols.length n.cc) (by kernel_rfl) (by kernel_rfl) (by kernel_rfl) (by rfl) (fun w' hw => ?hy) hS (by kernel_rfl) (by rfl) ?_
        case hy =>
          obtain ⟨s1, s2⟩ := hw
          clear ht hc hb hd hS
          go_simp
          try with_reducible rfl
        refine ht _ _ #[true, true, true, true, true, true, false, false, false] _ { tmps := #[Value.agg #[Value.slice n.ca n.cols.length n.cc, Value.slice n.pa n.places.length n.pc, Value.slice n.ta n.tasks.length n.tc, Value.int IntKind.i64 n.frm, Value.int IntKind.i64 n.too], Value.pointer (some { block := w.heap.size, off := 0 }), Value.pointer (some { block := w.heap.size + 1, off := 0 }), Value.pointer (some { block := q, off := 0 }), Value.int IntKind.i64 ↑i, u5, u6, u7, u8, u9, u10, Value.pointer (some { block := q, off := 5 }), Value.slice (some { block := g, off := 0 }) n.cols.length n.cols.length, Value.int IntKind.i64 ↑n.cols.length, Value.int IntKind.i64 ↑i, Value.bool true, Value.int IntKind.i64 ↑i, .pointer (some ⟨q, 5, none⟩), .slice (some ⟨g, 0, none⟩) n.cols.length n.cols.length, .int .i64 ↑i, .pointer (some ⟨w.heap.size, 0, none⟩), .slice n.ca n.cols.length n.cc, .int .i64 ↑i, u23, u24, u25, u26], defers := [] } _ 5 { dst := some 22, op := Op.move (Operand.tmp 4), type := 3, pos := "asks.go:90", after := #[], guard := none } (.int .i64 ↑i) (by kernel_rfl) (by kernel_rfl) (by kernel_rfl) (by rfl) (fun w' hw => ?hy) hS (by kernel_rfl) (by rfl) ?_
        case hy =>
          clear ht hc hb hd hS
          go_simp
          try with_reducible rfl
        refine hc _ _ #[true, true, true, true, true, true, true, false, false] _ _ 6 { dst := some 23, op := Op.call { callee := Callee.value (Operand.func 68), args := #[Operand.tmp 21, Operand.tmp 22], argTypes := #[22, 3] }, type := 3, pos := "asks.go:90", after := #[{ on := 4, ground := Ground.data }, { on := 5, ground := Ground.data }], guard := none } (by kernel_rfl) (by kernel_rfl) (by kernel_rfl) (fun K hK => ?_)
        have hK0 : Hid _ := hK
        clear hK hS
        go_simp
        refine CZ.out.mono ?_
        rintro en v1 ⟨he, hb1⟩
        subst he
        have hS : v1.cell? ⟨q, 5, none⟩ = some (.slice (some ⟨g, 0, none⟩) n.cols.length n.cols.length) ∧ v1.cell? ⟨w.heap.size, 0, none⟩ = some (.slice n.ca n.cols.length n.cc) := ⟨box_below q5 (then_ (Below.refl _ _).drew hb1), box_below b0 (then_ (Below.refl _ _).drew hb1)⟩
        have B1 : Hid (Below wr.heap.size wr v1) := then_ (Below.refl _ _).drew hb1
        have HRG : Hid (v1.rowIs g 3 n.cols.length (fun j => .int .i64 (if j < i then Colour.sizeF n.cols j else 0)) ∧ v1.rowIs q 67 6 (fun j => (subC n g).getD j undef)) := ⟨rowIs_below HI.out.2.1 B1.out, rowIs_below HI.out.2.2 B1.out⟩
        have g1 : v1.cell? ⟨g, i, none⟩ = some (.int .i64 0) := by
          have := HRG.out.1.cell hlt
          simpa using this
        have g2 : v1.frozen? ⟨g, i, none⟩ = false := HRG.out.1.frozen i
        clear hb1 CZ
        try go_simp
        refine hK0.out _ _ hS ?_
        clear hK0 K
        refine ht _ _ #[true, true, true, true, true, true, true, true, false] _ { tmps := #[Value.agg #[Value.slice n.ca n.cols.length n.cc, Value.slice n.pa n.places.length n.pc, Value.slice n.ta n.tasks.length n.tc, Value.int IntKind.i64 n.frm, Value.int IntKind.i64 n.too], Value.pointer (some { block := w.heap.size, off := 0 }), Value.pointer (some { block := w.heap.size + 1, off := 0 }), Value.pointer (some { block := q, off := 0 }), Value.int IntKind.i64 ↑i, u5, u6, u7, u8, u9, u10, Value.pointer (some { block := q, off := 5 }), Value.slice (some { block := g, off := 0 }) n.cols.length n.cols.length, Value.int IntKind.i64 ↑n.cols.length, Value.int IntKind.i64 ↑i, Value.bool true, Value.int IntKind.i64 ↑i, .pointer (some ⟨q, 5, none⟩), .slice (some ⟨g, 0, none⟩) n.cols.length n.cols.length, .int .i64 ↑i, .pointer (some ⟨w.heap.size, 0, none⟩), .slice n.ca n.cols.length n.cc, .int .i64 ↑i, .int .i64 (Colour.sizeF n.cols ↑i), .pointer (some ⟨g, i, none⟩), u25, u26], defers := [] } _ 7 { dst := some 24, op := Op.indexAddr 36 (Operand.tmp 18) (Operand.tmp 19), type := 0, pos := "asks.go:90", after := #[{ on := 1, ground := Ground.data }, { on := 2, ground := Ground.data }, { on := 0, ground := Ground.phase }, { on := 1, ground := Ground.phase }, { on := 2, ground := Ground.phase }, { on := 3, ground := Ground.phase }, { on := 4, ground := Ground.phase }, { on := 5, ground := Ground.phase }, { on := 6, ground := Ground.phase }], guard := none } (.pointer (some ⟨g, i, none⟩)) (by kernel_rfl) (by kernel_rfl) (by kernel_rfl) (by rfl) (fun w' hw => ?hy) hS (by kernel_rfl) (by rfl) ?_
        case hy =>
          clear ht hc hb hd hS
          go_simp
          try with_reducible rfl
        refine hc _ _ #[true, true, true, true, true, true, true, true, true] _ _ 8 { dst := none, op := Op.store 3 (Operand.tmp 24) (Operand.tmp 23), type := 0, pos := "asks.go:90", after := #[{ on := 7, ground := Ground.data }, { on := 6, ground := Ground.data }, { on := 6, ground := Ground.chain }, { on := 0, ground := Ground.phase }, { on := 1, ground := Ground.phase }, { on := 2, ground := Ground.phase }, { on := 3, ground := Ground.phase }, { on := 4, ground := Ground.phase }, { on := 5, ground := Ground.phase }, { on := 6, ground := Ground.phase }], guard := none } (by kernel_rfl) (by kernel_rfl) (by kernel_rfl) (fun K hK => ?_)
        have hK0 : Hid _ := hK
        clear hK hS
        go_simp
        have hS : (v1.setCell ⟨g, i, none⟩ (.int .i64 (Colour.sizeF n.cols ↑i))).cell? ⟨q, 5, none⟩ = some (.slice (some ⟨g, 0, none⟩) n.cols.length n.cols.length) ∧ (v1.setCell ⟨g, i, none⟩ (.int .i64 (Colour.sizeF n.cols ↑i))).cell? ⟨w.heap.size, 0, none⟩ = some (.slice n.ca n.cols.length n.cc) := by
          exact ⟨(cell_other HGQ.out.1).trans (box_below q5 B1.out), (cell_other HGQ.out.2.1).trans (box_below b0 B1.out)⟩
        try go_simp
        refine hK0.out _ _ hS ?_
        clear hK0 K
        refine hd _ _ _ _ (by kernel_rfl) ?_
        clear ht hc hb hd F
        clear hS g1 g2
        obtain ⟨sz, hsz⟩ : ∃ sz, sz = Colour.sizeF n.cols ↑i := ⟨_, rfl⟩
        have NX : Hid (Below wz.heap.size wz (v1.setCell ⟨g, i, none⟩ (.int .i64 (Colour.sizeF n.cols ↑i))) ∧ (v1.setCell ⟨g, i, none⟩ (.int .i64 (Colour.sizeF n.cols ↑i))).rowIs g 3 n.cols.length (fun j => .int .i64 (if j < i + 1 then Colour.sizeF n.cols j else 0)) ∧ (v1.setCell ⟨g, i, none⟩ (.int .i64 (Colour.sizeF n.cols ↑i))).rowIs q 67 6 (fun j => (subC n g).getD j undef)) := by
          refine ⟨(then_ HI.out.1 B1.out).setCell (p := ⟨g, i, none⟩) HGQ.out.2.2 _, (HRG.out.1.set i _).congr fun j hj => ?_, HRG.out.2.setOther (a := ⟨g, i, none⟩) (fun e => HGQ.out.1 e.symm) _⟩
          by_cases h : j = i
          · subst h; simp
          · by_cases h' : j < i
            · simp [h, h', show j < i + 1 by omega]
            · simp [h, h', show ¬ j < i + 1 by omega]
        rw [← hsz] at NX ⊢
        clear hsz
        go_wp2_with fail
        go_roundw
        case rel => exact ⟨i + 1, by simp, by omega, NX⟩
        case measure => simp; omega
      · have hlt' : ¬ (i : Int) < n.cols.length := by omega
        obtain ⟨g1, g2, g3, g4⟩ : n.cols.length = n.cols.length ∧ True ∧ True ∧ True := ⟨rfl, trivial, trivial, trivial⟩
        clear g1 g2 g3 g4
        have q0 : wr.cell? ⟨q, 0, none⟩ = some (.slice n.ca n.cols.length n.cc) := HI.out.2.2.cell (by decide)
        have q1 : wr.cell? ⟨q, 1, none⟩ = some (.slice n.pa n.places.length n.pc) := HI.out.2.2.cell (by decide)
        have q2 : wr.cell? ⟨q, 2, none⟩ = some (.slice n.ta n.tasks.length n.tc) := HI.out.2.2.cell (by decide)
        have q3 : wr.cell? ⟨q, 3, none⟩ = some (.int .i64 n.frm) := HI.out.2.2.cell (by decide)
        have q4 : wr.cell? ⟨q, 4, none⟩ = some (.int .i64 n.too) := HI.out.2.2.cell (by decide)
        have rb : wr.rowIs (w.heap.size + 1) 67 6 zero6 := HZ.out.2.2.1.of_block (HI.out.1.block _ HZ.out.2.2.1.lt)
        have p0 : wr.cell? ⟨w.heap.size + 1, 0, none⟩ = some (.slice none 0 0) := rb.cell (by decide)
        have p1 : wr.cell? ⟨w.heap.size + 1, 1, none⟩ = some (.slice none 0 0) := rb.cell (by decide)
        have p2 : wr.cell? ⟨w.heap.size + 1, 2, none⟩ = some (.slice none 0 0) := rb.cell (by decide)
        have p3 : wr.cell? ⟨w.heap.size + 1, 3, none⟩ = some (.int .i64 0) := rb.cell (by decide)
        have p4 : wr.cell? ⟨w.heap.size + 1, 4, none⟩ = some (.int .i64 0) := rb.cell (by decide)
        have p5 : wr.cell? ⟨w.heap.size + 1, 5, none⟩ = some (.slice none 0 0) := rb.cell (by decide)
        have z0 := rb.frozen 0
        have z1 := rb.frozen 1
        have z2 := rb.frozen 2
        have z3 := rb.frozen 3
        have z4 := rb.frozen 4
        have z5 := rb.frozen 5
        have pl := rb.lt
        have HG : Hid (wr.rowIs g 3 n.cols.length (fun j => .int .i64 (Colour.sizeF n.cols j)) ∧ w.heap.size + 1 ≠ g) := ⟨HI.out.2.1.congr fun j hj => by simp; omega, by have := HC.out.2.2.2.1; have := HZ.out.2.2.2; omega⟩
        have HW : Hid (Below w.heap.size w (put6 wr (w.heap.size + 1) (.slice n.ca n.cols.length n.cc) (.slice n.pa n.places.length n.pc) (.slice n.ta n.tasks.length n.tc) (.int .i64 n.frm) (.int .i64 n.too) (.slice (some ⟨g, 0, none⟩) n.cols.length n.cols.length)) ∧ Sz (put6 wr (w.heap.size + 1) (.slice n.ca n.cols.length n.cc) (.slice n.pa n.places.length n.pc) (.slice n.ta n.tasks.length n.tc) (.int .i64 n.frm) (.int .i64 n.too) (.slice (some ⟨g, 0, none⟩) n.cols.length n.cols.length)) g n) :=
          ⟨put6_below (then_ HZ.out.1 HI.out.1) (by omega) _ _ _ _ _ _, fun j hj => (put6_other HG.out.1 (fun e => HG.out.2 e.symm) _ _ _ _ _ _).cell hj⟩
        have HR : Hid ((put6 wr (w.heap.size + 1) (.slice n.ca n.cols.length n.cc) (.slice n.pa n.places.length n.pc) (.slice n.ta n.tasks.length n.tc) (.int .i64 n.frm) (.int .i64 n.too) (.slice (some ⟨g, 0, none⟩) n.cols.length n.cols.length)).rowIs (w.heap.size + 1) 67 6 (fun j => (subC n g).getD j undef)) := put6_row rb _ _ _ _ _ _
        clear rb hi hlt
        go_wp2_with fail
        obtain ⟨WF, hWF⟩ : ∃ WF, WF = put6 wr (w.heap.size + 1) (.slice n.ca n.cols.length n.cc) (.slice n.pa n.places.length n.pc) (.slice n.ta n.tasks.length n.tc) (.int .i64 n.frm) (.int .i64 n.too) (.slice (some ⟨g, 0, none⟩) n.cols.length n.cols.length) := ⟨_, rfl⟩
        rw [← hWF] at HW HR
        unfold put6 at hWF
        rw [← hWF]
        have y0 : WF.cell? ⟨w.heap.size + 1, 0, none⟩ = some (.slice n.ca n.cols.length n.cc) := HR.out.cell (by decide)
        have y1 : WF.cell? ⟨w.heap.size + 1, 1, none⟩ = some (.slice n.pa n.places.length n.pc) := HR.out.cell (by decide)
        have y2 : WF.cell? ⟨w.heap.size + 1, 2, none⟩ = some (.slice n.ta n.tasks.length n.tc) := HR.out.cell (by decide)
        have y3 : WF.cell? ⟨w.heap.size + 1, 3, none⟩ = some (.int .i64 n.frm) := HR.out.cell (by decide)
        have y4 : WF.cell? ⟨w.heap.size + 1, 4, none⟩ = some (.int .i64 n.too) := HR.out.cell (by decide)
        have y5 : WF.cell? ⟨w.heap.size + 1, 5, none⟩ = some (.slice (some ⟨g, 0, none⟩) n.cols.length n.cols.length) := HR.out.cell (by decide)
        clear hWF
        refine bodyPost_ret (v := .agg (subC n g)) ?_ rfl ⟨g, rfl, HW.out.2, HW.out.1⟩
        simp [results, Tryz.results26, go_sem, subC, y0, y1, y2, y3, y4, y5]
end Go.Proofs.YtgdkomkflfodaaaGreat.Check
