/- Clauses of a task that are rows: contracts of the calls, over the turned program. -/
import Derived.Test.YtjcanodnlnodpaaGreatDoorMTK
import Derived.Test.YtjcanodnlnodpaaGreatDoorMArc
namespace Go.Proofs.YtjcanodnlnodpaaGreatDoor.Parse
open Go.RowKit Go.Maps Go.Proofs.YtjcanodnlnodpaaGreatDoor.Frame Go.Proofs.YtjcanodnlnodpaaGreatDoor.Token Go.Proofs.YtjcanodnlnodpaaGreatDoor.Expr Go.Proofs.YtjcanodnlnodpaaGreatDoor.Calc
set_option linter.unusedVariables false
set_option linter.unusedSimpArgs false

theorem infoArc : (Tryz.prog.info? 65).map (fun i => (i.zero, i.size, i.bytes)) = some (some (.agg #[.int .i64 0, .int .i64 0, .int .i64 0, .slice none 0 0]), 4, 48) := by kernel_rfl
theorem infoInt : (Tryz.prog.info? 3).map (fun i => (i.zero, i.size, i.bytes)) = some (some (.int .i64 0), 1, 8) := by kernel_rfl
theorem row_ne_q {L : Nat} {w : World} {q p : Nat} {t : PTask} {m : TM} (h : TK L w q p t m) {i : Nat} (hi : i ≠ 0) {a : Option Addr} (ha : (m.bs q)[i]? = some (a.map Addr.block)) : some q ≠ a.map Addr.block := fun e => by
  rw [← e] at ha
  exact hi (h.2.2.2.1.1 i 0 q ha rfl)

/-- a cell of a task's box, behind an append to one of its rows -/
theorem tq_at {L : Nat} {w1 W w' : World} {q p : Nat} {t : PTask} {m : TM} (h : TK L w1 q p t m) {i : Nat} (hi : i ≠ 0) {a : Option Addr} (ha : (m.bs q)[i]? = some (a.map Addr.block)) (j : Nat) {v : Value} (hv : (taskC p t m)[j]? = some v) (hW : Below w1.heap.size w1 W) (hg : W.grownBy w' (a.map Addr.block)) : w'.cell? ⟨q, j, none⟩ = some v ∧ w'.frozen? ⟨q, j, none⟩ = false ∧ q < w'.heap.size := by
  have hq := h.1.2.2
  have hb : w'.heap[q]? = w1.heap[q]? := (hg.block q (Nat.lt_of_lt_of_le hq hW.size) (row_ne_q h hi ha)).trans (hW.block q hq)
  exact ⟨(cell_of_block hb j).trans ((h.1.1 j).trans hv), (frozen_of_block hb j).trans (h.1.2.1 j), Nat.lt_of_lt_of_le hq (Nat.le_trans hW.size hg.size)⟩

theorem ins_fin {B L p q : Nat} {en : Int} {st s1 : St} {n : PNet} {mN : NM} {t : PTask} {m : TM} {w w1 : World} {z : Int} {t1 : Ex} {a1 : Option Addr} {c1 : Nat} (H0 : TPre B L w p q en st n mN t m) (h1 : RS B w1 p en s1) (hr1 : RCh p w.drew w1) (hx1 : XG (fun b _ => w.drew.heap.size ≤ b) w1 t1 a1) (R1 : Res en st (arcP n (t.vars.map Prod.fst)) s1 fun u => u = (z, t1)) :
    ∀ (W w' : World) (a' : Option Addr) (c' : Nat), Below w1.heap.size w1 W → w'.ownsRow L 65 4 (.slice a' (t.ins.length + 1) c') (t.ins.length + 1) (m.vi ++ [.int .i64 z, .int .i64 t1.kind, .int .i64 t1.num, .slice a1 t1.kids.length c1]) → W.grownBy w' (m.ai.map Addr.block) → (a'.map Addr.block = m.ai.map Addr.block ∨ a'.map Addr.block = some W.heap.size) → TPost B L p q en st n t m (inB n t) w (.returned (.tuple #[])) (w'.setCell ⟨q, 8, none⟩ (.slice a' (t.ins.length + 1) c')) := fun W w' a' c' hW hown hg hat => by
  have hr : RCh p w w1 := (RCh.refl p w).drew.trans hr1
  have T1 := H0.2.1.on hr
  have hMw : ∀ b, m.M q L b → b < w.drew.heap.size := fun b hb => by
    show b < w.heap.size
    rcases hb with hb | hb
    · exact (H0.2.1.2.2.2.1.2.1 b hb).2
    · have := (H0.2.1.2.2.2.1.2.1 q TK.q_in); omega
  obtain ⟨k1, k2, k3⟩ := T1.add_ins (x := (z, t1)) (show Held (m.M q L) w1 fun W => ArcR W (z, t1) [.int .i64 z, .int .i64 t1.kind, .int .i64 t1.num, .slice a1 t1.kids.length c1] from fun W hW => ⟨a1, c1, rfl, (xg_ch hx1 hW hMw).x⟩) hW hown hg hat
  have hBL := H0.2.2.2.2.2.2.2
  have hM := H0.2.1.2.2.2.1.2.1
  have hpL := H0.2.1.2.2.2.1.2.2.1
  have hRS : RS B (w'.setCell ⟨q, 8, none⟩ (.slice a' (t.ins.length + 1) c')) p en s1 := by
    have hc : Ch (fun b => L ≤ b) w1 (w'.setCell ⟨q, 8, none⟩ (.slice a' (t.ins.length + 1) c')) := ((Ch.of_below hW).trans (Ch.grown hg fun b hb => (hM b (by rw [← hb]; exact List.mem_of_getElem? (i := 3) rfl)).1)).setCell (b := q) (o := 8) (.inl (hM q TK.q_in).1) _
    exact h1.ch hc (fun b hb => by omega) (by omega)
  exact ⟨rfl, _, _, s1, hRS, k1, (TCh.of hr).trans k2, (map_post (f := fun a => ({ t with ins := t.ins ++ [a] } : PTask)) R1), fun _ _ => H0.2.2.2.2.1, ⟨Nat.le_succ _, by show (t.ins ++ [(z, t1)]).length ≤ _; simp, Nat.le_succ _, Nat.le_succ _, rfl⟩, TB.pre hr k3⟩

set_option maxRecDepth 100000 in
set_option maxHeartbeats 8000000 in
theorem ins_any (B L p q : Nat) (en : Int) (st : St) (n : PNet) (mN : NM) (t : PTask) (m : TM) (w : World) (h : TPre B L w p q en st n mN t m) : Calls Tryz.prog 222 #[ptr q] w (TPost B L p q en st n t m (inB n t) w) := by
  have H0 : Hid (TPre B L w p q en st n mN t m) := h
  obtain ⟨d0, -, -, d10, ql, pl⟩ := h.cells
  have d8 : w.cell? ⟨q, 8, none⟩ = some (.slice m.ai t.ins.length m.ci) := h.2.1.1.1 8
  have hlen : t.ins.length ≤ 1000000 := h.2.2.2.2.2.2.1.2.1
  have CL : Hid (Calls Tryz.prog 238 #[.pointer (some ⟨q, 0, none⟩)] w.drew (ArcPost B p en st n (t.vars.map Prod.fst) w.drew)) := arc_any B L p q en st n mN t m w.drew (h.below (Below.refl _ _).drew)
  clear h
  unfold ptr
  go_enter Tryz.func222, Tryz.ntmps222
  go_upto_region 0 with fail
  go_region_law (first
    | (go_simp; go_at_call 238; refine CL.out.mono ?_; rintro e w1 ⟨z, t1, a1, c1, s1, he, hx1, h1, hr1, R1⟩; subst he; have T1 : Hid (TK L w1 q p t m ∧ RS B w1 p en s1) := ⟨H0.out.2.1.on ((RCh.refl p w).drew.trans hr1), h1⟩; have FIN : Hid (∀ (W w' : World) (a' : Option Addr) (c' : Nat), Below w1.heap.size w1 W → w'.ownsRow L 65 4 (.slice a' (t.ins.length + 1) c') (t.ins.length + 1) (m.vi ++ [.int .i64 z, .int .i64 t1.kind, .int .i64 t1.num, .slice a1 t1.kids.length c1]) → W.grownBy w' (m.ai.map Addr.block) → (a'.map Addr.block = m.ai.map Addr.block ∨ a'.map Addr.block = some W.heap.size) → TPost B L p q en st n t m (inB n t) w (.returned (.tuple #[])) (w'.setCell ⟨q, 8, none⟩ (.slice a' (t.ins.length + 1) c'))) := ins_fin H0.out h1 hr1 hx1 R1; have g8 : w1.cell? ⟨q, 8, none⟩ = some (.slice m.ai t.ins.length m.ci) := T1.out.1.1.1 8; have gl : q < w1.heap.size := T1.out.1.1.2.2; clear hx1 h1 hr1 R1)
    | (refine step_own rfl _ _ rfl rfl rfl Tryz.underlying59 infoArc rfl (by decide) (by decide) (own_ch2 T1.out.1.2.1.2.1 (Ch.of_below (M := fun _ => False) (by repeat (first | exact Below.refl _ _ | refine Below.drew ?_ | refine Below.alloc ?_ (by simp) _))) (fun _ _ h => h)) rfl (new_part _ [.int .i64 z, .int .i64 t1.kind, .int .i64 t1.num, .slice a1 t1.kids.length c1] _) (by simp [Value.oneCell']) (by omega) (by have h1 := T1.out.2.1.2.1; have h2 := (T1.out.1.2.2.2.1.2.1 q TK.q_in); simp; omega) ?_; intro a' c' w' hown hg hat; have FN : Hid (∀ v, v = Value.slice a' (t.ins.length + 1) c' → TPost B L p q en st n t m (inB n t) w (.returned (.tuple #[])) (w'.setCell ⟨q, 8, none⟩ v)) := (fun v hv => by subst hv; exact FIN.out _ w' a' c' (by repeat (first | exact Below.refl _ _ | refine Below.drew ?_ | refine Below.alloc ?_ (by simp) _)) hown hg hat); have e8 : w'.cell? ⟨q, 8, none⟩ = some (.slice m.ai t.ins.length m.ci) ∧ w'.frozen? ⟨q, 8, none⟩ = false ∧ q < w'.heap.size := tq_at T1.out.1 (i := 3) (by decide) rfl 8 (by rfl) (by repeat (first | exact Below.refl _ _ | refine Below.drew ?_ | refine Below.alloc ?_ (by simp) _)) hg; obtain ⟨e1, e2, e3⟩ := e8; clear hown hg hat))
  all_goals
    go_wp2_with fail
    go_end0
    exact FN.out _ rfl

theorem outs_fin {B L p q : Nat} {en : Int} {st s1 : St} {n : PNet} {mN : NM} {t : PTask} {m : TM} {w w1 : World} {z : Int} {t1 : Ex} {a1 : Option Addr} {c1 : Nat} (H0 : TPre B L w p q en st n mN t m) (h1 : RS B w1 p en s1) (hr1 : RCh p w.drew w1) (hx1 : XG (fun b _ => w.drew.heap.size ≤ b) w1 t1 a1) (R1 : Res en st (arcP n (t.vars.map Prod.fst)) s1 fun u => u = (z, t1)) :
    ∀ (W w' : World) (a' : Option Addr) (c' : Nat), Below w1.heap.size w1 W → w'.ownsRow L 65 4 (.slice a' (t.outs.length + 1) c') (t.outs.length + 1) (m.vo ++ [.int .i64 z, .int .i64 t1.kind, .int .i64 t1.num, .slice a1 t1.kids.length c1]) → W.grownBy w' (m.ao.map Addr.block) → (a'.map Addr.block = m.ao.map Addr.block ∨ a'.map Addr.block = some W.heap.size) → TPost B L p q en st n t m (outB n t) w (.returned (.tuple #[])) (w'.setCell ⟨q, 9, none⟩ (.slice a' (t.outs.length + 1) c')) := fun W w' a' c' hW hown hg hat => by
  have hr : RCh p w w1 := (RCh.refl p w).drew.trans hr1
  have T1 := H0.2.1.on hr
  have hMw : ∀ b, m.M q L b → b < w.drew.heap.size := fun b hb => by
    show b < w.heap.size
    rcases hb with hb | hb
    · exact (H0.2.1.2.2.2.1.2.1 b hb).2
    · have := (H0.2.1.2.2.2.1.2.1 q TK.q_in); omega
  obtain ⟨k1, k2, k3⟩ := T1.add_outs (x := (z, t1)) (show Held (m.M q L) w1 fun W => ArcR W (z, t1) [.int .i64 z, .int .i64 t1.kind, .int .i64 t1.num, .slice a1 t1.kids.length c1] from fun W hW => ⟨a1, c1, rfl, (xg_ch hx1 hW hMw).x⟩) hW hown hg hat
  have hBL := H0.2.2.2.2.2.2.2
  have hM := H0.2.1.2.2.2.1.2.1
  have hpL := H0.2.1.2.2.2.1.2.2.1
  have hRS : RS B (w'.setCell ⟨q, 9, none⟩ (.slice a' (t.outs.length + 1) c')) p en s1 := by
    have hc : Ch (fun b => L ≤ b) w1 (w'.setCell ⟨q, 9, none⟩ (.slice a' (t.outs.length + 1) c')) := ((Ch.of_below hW).trans (Ch.grown hg fun b hb => (hM b (by rw [← hb]; exact List.mem_of_getElem? (i := 4) rfl)).1)).setCell (b := q) (o := 9) (.inl (hM q TK.q_in).1) _
    exact h1.ch hc (fun b hb => by omega) (by omega)
  exact ⟨rfl, _, _, s1, hRS, k1, (TCh.of hr).trans k2, (map_post (f := fun a => ({ t with outs := t.outs ++ [a] } : PTask)) R1), fun _ _ => H0.2.2.2.2.1, ⟨Nat.le_succ _, Nat.le_succ _, by show (t.outs ++ [(z, t1)]).length ≤ _; simp, Nat.le_succ _, rfl⟩, TB.pre hr k3⟩

set_option maxRecDepth 100000 in
set_option maxHeartbeats 8000000 in
theorem outs_any (B L p q : Nat) (en : Int) (st : St) (n : PNet) (mN : NM) (t : PTask) (m : TM) (w : World) (h : TPre B L w p q en st n mN t m) : Calls Tryz.prog 223 #[ptr q] w (TPost B L p q en st n t m (outB n t) w) := by
  have H0 : Hid (TPre B L w p q en st n mN t m) := h
  obtain ⟨d0, -, -, d10, ql, pl⟩ := h.cells
  have d9 : w.cell? ⟨q, 9, none⟩ = some (.slice m.ao t.outs.length m.co) := h.2.1.1.1 9
  have hlen : t.outs.length ≤ 1000000 := h.2.2.2.2.2.2.1.2.2.1
  have CL : Hid (Calls Tryz.prog 238 #[.pointer (some ⟨q, 0, none⟩)] w.drew (ArcPost B p en st n (t.vars.map Prod.fst) w.drew)) := arc_any B L p q en st n mN t m w.drew (h.below (Below.refl _ _).drew)
  clear h
  unfold ptr
  go_enter Tryz.func223, Tryz.ntmps223
  go_upto_region 0 with fail
  go_region_law (first
    | (go_simp; go_at_call 238; refine CL.out.mono ?_; rintro e w1 ⟨z, t1, a1, c1, s1, he, hx1, h1, hr1, R1⟩; subst he; have T1 : Hid (TK L w1 q p t m ∧ RS B w1 p en s1) := ⟨H0.out.2.1.on ((RCh.refl p w).drew.trans hr1), h1⟩; have FIN : Hid (∀ (W w' : World) (a' : Option Addr) (c' : Nat), Below w1.heap.size w1 W → w'.ownsRow L 65 4 (.slice a' (t.outs.length + 1) c') (t.outs.length + 1) (m.vo ++ [.int .i64 z, .int .i64 t1.kind, .int .i64 t1.num, .slice a1 t1.kids.length c1]) → W.grownBy w' (m.ao.map Addr.block) → (a'.map Addr.block = m.ao.map Addr.block ∨ a'.map Addr.block = some W.heap.size) → TPost B L p q en st n t m (outB n t) w (.returned (.tuple #[])) (w'.setCell ⟨q, 9, none⟩ (.slice a' (t.outs.length + 1) c'))) := outs_fin H0.out h1 hr1 hx1 R1; have g9 : w1.cell? ⟨q, 9, none⟩ = some (.slice m.ao t.outs.length m.co) := T1.out.1.1.1 9; have gl : q < w1.heap.size := T1.out.1.1.2.2; clear hx1 h1 hr1 R1)
    | (refine step_own rfl _ _ rfl rfl rfl Tryz.underlying59 infoArc rfl (by decide) (by decide) (own_ch2 T1.out.1.2.1.2.2.1 (Ch.of_below (M := fun _ => False) (by repeat (first | exact Below.refl _ _ | refine Below.drew ?_ | refine Below.alloc ?_ (by simp) _))) (fun _ _ h => h)) rfl (new_part _ [.int .i64 z, .int .i64 t1.kind, .int .i64 t1.num, .slice a1 t1.kids.length c1] _) (by simp [Value.oneCell']) (by omega) (by have h1 := T1.out.2.1.2.1; have h2 := (T1.out.1.2.2.2.1.2.1 q TK.q_in); simp; omega) ?_; intro a' c' w' hown hg hat; have FN : Hid (∀ v, v = Value.slice a' (t.outs.length + 1) c' → TPost B L p q en st n t m (outB n t) w (.returned (.tuple #[])) (w'.setCell ⟨q, 9, none⟩ v)) := (fun v hv => by subst hv; exact FIN.out _ w' a' c' (by repeat (first | exact Below.refl _ _ | refine Below.drew ?_ | refine Below.alloc ?_ (by simp) _)) hown hg hat); have e9 : w'.cell? ⟨q, 9, none⟩ = some (.slice m.ao t.outs.length m.co) ∧ w'.frozen? ⟨q, 9, none⟩ = false ∧ q < w'.heap.size := tq_at T1.out.1 (i := 4) (by decide) rfl 9 (by rfl) (by repeat (first | exact Below.refl _ _ | refine Below.drew ?_ | refine Below.alloc ?_ (by simp) _)) hg; obtain ⟨e1, e2, e3⟩ := e9; clear hown hg hat))
  all_goals
    go_wp2_with fail
    go_end0
    exact FN.out _ rfl

theorem cancel_fin {B L p q : Nat} {en : Int} {st s1 : St} {n : PNet} {mN : NM} {t : PTask} {m : TM} {w w1 : World} {z : Int} (H0 : TPre B L w p q en st n mN t m) (h1 : RS B w1 p en s1) (hr1 : RCh p w.drew w1) (hz1 : In64 z) (R1 : Res en st (findP (n.places.map PPlace.name)) s1 fun u => u = z) :
    ∀ (W w' : World) (a' : Option Addr) (c' : Nat), Below w1.heap.size w1 W → w'.ownsRow L 3 1 (.slice a' (t.cancel.length + 1) c') (t.cancel.length + 1) (ints t.cancel ++ [.int .i64 z]) → W.grownBy w' (m.ac.map Addr.block) → (a'.map Addr.block = m.ac.map Addr.block ∨ a'.map Addr.block = some W.heap.size) → TPost B L p q en st n t m (cancelB n t) w (.returned (.tuple #[])) (w'.setCell ⟨q, 10, none⟩ (.slice a' (t.cancel.length + 1) c')) := fun W w' a' c' hW hown hg hat => by
  have hr : RCh p w w1 := (RCh.refl p w).drew.trans hr1
  have T1 := H0.2.1.on hr
  have hMw : ∀ b, m.M q L b → b < w.drew.heap.size := fun b hb => by
    show b < w.heap.size
    rcases hb with hb | hb
    · exact (H0.2.1.2.2.2.1.2.1 b hb).2
    · have := (H0.2.1.2.2.2.1.2.1 q TK.q_in); omega
  obtain ⟨k1, k2, k3⟩ := T1.add_cancel (x := z) ⟨rfl, hz1⟩ hW hown hg hat
  have hBL := H0.2.2.2.2.2.2.2
  have hM := H0.2.1.2.2.2.1.2.1
  have hpL := H0.2.1.2.2.2.1.2.2.1
  have hRS : RS B (w'.setCell ⟨q, 10, none⟩ (.slice a' (t.cancel.length + 1) c')) p en s1 := by
    have hc : Ch (fun b => L ≤ b) w1 (w'.setCell ⟨q, 10, none⟩ (.slice a' (t.cancel.length + 1) c')) := ((Ch.of_below hW).trans (Ch.grown hg fun b hb => (hM b (by rw [← hb]; exact List.mem_of_getElem? (i := 5) rfl)).1)).setCell (b := q) (o := 10) (.inl (hM q TK.q_in).1) _
    exact h1.ch hc (fun b hb => by omega) (by omega)
  exact ⟨rfl, _, _, s1, hRS, k1, (TCh.of hr).trans k2, (map_post (f := fun a => ({ t with cancel := t.cancel ++ [a] } : PTask)) R1), fun _ _ => H0.2.2.2.2.1, ⟨Nat.le_succ _, Nat.le_succ _, Nat.le_succ _, by show (t.cancel ++ [z]).length ≤ _; simp, rfl⟩, TB.pre hr k3⟩

set_option maxRecDepth 100000 in
set_option maxHeartbeats 8000000 in
theorem cancel_any (B L p q : Nat) (en : Int) (st : St) (n : PNet) (mN : NM) (t : PTask) (m : TM) (w : World) (h : TPre B L w p q en st n mN t m) : Calls Tryz.prog 224 #[ptr q] w (TPost B L p q en st n t m (cancelB n t) w) := by
  have H0 : Hid (TPre B L w p q en st n mN t m) := h
  obtain ⟨d0, -, -, d10, ql, pl⟩ := h.cells
  have d10 : w.cell? ⟨q, 10, none⟩ = some (.slice m.ac t.cancel.length m.cc) := h.2.1.1.1 10
  have hlen : t.cancel.length ≤ 1000000 := h.2.2.2.2.2.2.1.2.2.2
  have CL : Hid (Calls Tryz.prog 82 #[.pointer (some ⟨p, 0, none⟩), .map (some mN.mp)] w.drew (KnownPost B p en (n.places.map PPlace.name) st w.drew)) := known_post B p mN.mp _ _ mN.fp _ h.2.2.2.1.2.1.1 (by rw [List.length_map]; have := h.2.2.2.2.2.1.2; omega) en st w.drew (h.below (Below.refl _ _).drew).1 (h.below (Below.refl _ _).drew).2.2.1.now.2.2.1.2.1 h.2.2.1.now.ne.2.1
  clear h
  unfold ptr
  go_enter Tryz.func224, Tryz.ntmps224
  go_upto_region 0 with fail
  go_region_law (first
    | (go_simp; go_at_call 82; refine CL.out.mono ?_; rintro e w1 ⟨z, s1, he, h1, hr1, R1, hz1⟩; subst he; have T1 : Hid (TK L w1 q p t m ∧ RS B w1 p en s1) := ⟨H0.out.2.1.on ((RCh.refl p w).drew.trans hr1), h1⟩; have FIN : Hid (∀ (W w' : World) (a' : Option Addr) (c' : Nat), Below w1.heap.size w1 W → w'.ownsRow L 3 1 (.slice a' (t.cancel.length + 1) c') (t.cancel.length + 1) (ints t.cancel ++ [.int .i64 z]) → W.grownBy w' (m.ac.map Addr.block) → (a'.map Addr.block = m.ac.map Addr.block ∨ a'.map Addr.block = some W.heap.size) → TPost B L p q en st n t m (cancelB n t) w (.returned (.tuple #[])) (w'.setCell ⟨q, 10, none⟩ (.slice a' (t.cancel.length + 1) c'))) := cancel_fin H0.out h1 hr1 hz1 R1; have g10 : w1.cell? ⟨q, 10, none⟩ = some (.slice m.ac t.cancel.length m.cc) := T1.out.1.1.1 10; have gl : q < w1.heap.size := T1.out.1.1.2.2; clear h1 hr1 R1 hz1)
    | (refine step_own rfl _ _ rfl rfl rfl Tryz.underlying60 infoInt rfl (by decide) (by decide) (own_ch2 T1.out.1.2.1.2.2.2 (Ch.of_below (M := fun _ => False) (by repeat (first | exact Below.refl _ _ | refine Below.drew ?_ | refine Below.alloc ?_ (by simp) _))) (fun _ _ h => h)) rfl (new_part _ [.int .i64 z] _) (by simp [Value.oneCell']) (by omega) (by have h1 := T1.out.2.1.2.1; have h2 := (T1.out.1.2.2.2.1.2.1 q TK.q_in); simp; omega) ?_; intro a' c' w' hown hg hat; have FN : Hid (∀ v, v = Value.slice a' (t.cancel.length + 1) c' → TPost B L p q en st n t m (cancelB n t) w (.returned (.tuple #[])) (w'.setCell ⟨q, 10, none⟩ v)) := (fun v hv => by subst hv; exact FIN.out _ w' a' c' (by repeat (first | exact Below.refl _ _ | refine Below.drew ?_ | refine Below.alloc ?_ (by simp) _)) hown hg hat); have e10 : w'.cell? ⟨q, 10, none⟩ = some (.slice m.ac t.cancel.length m.cc) ∧ w'.frozen? ⟨q, 10, none⟩ = false ∧ q < w'.heap.size := tq_at T1.out.1 (i := 5) (by decide) rfl 10 (by rfl) (by repeat (first | exact Below.refl _ _ | refine Below.drew ?_ | refine Below.alloc ?_ (by simp) _)) hg; obtain ⟨e1, e2, e3⟩ := e10; clear hown hg hat))
  all_goals
    go_wp2_with fail
    go_end0
    exact FN.out _ rfl
end Go.Proofs.YtjcanodnlnodpaaGreatDoor.Parse
