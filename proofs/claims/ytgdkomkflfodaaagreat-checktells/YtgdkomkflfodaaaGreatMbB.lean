/- Contracts and plain mathematics, together: ChkDo, ChkTkM. -/
import Derived.Test.YtgdkomkflfodaaaGreatMaS
import Derived.Test.YtgdkomkflfodaaaGreatMbA
import Derived.Test.YtgdkomkflfodaaaGreatMaQ
/- A walk that does a task: a contract of the call, over the turned program. -/
namespace Go.Proofs.YtgdkomkflfodaaaGreat.Check
open Go.RowKit Go.Proofs.YtgdkomkflfodaaaGreat.Frame Go.Proofs.YtgdkomkflfodaaaGreat.Colour Go.Proofs.YtgdkomkflfodaaaGreat.Expr
set_option linter.unusedVariables false
set_option linter.unusedSimpArgs false

abbrev PO := (Nat → Bool) × List Int
/-- the places of these arcs are come to, one behind the other -/
def comes (np : Nat) (s : PO) (l : List Ar) : PO := l.foldl (fun s x => (comeP s.1 x.place, comeO np s.1 s.2 x.place)) s
theorem comes_take (np : Nat) (s : PO) (l : List Ar) (j : Nat) (hj : j < l.length) : comes np s (l.take (j + 1)) = (comeP (comes np s (l.take j)).1 (l.getD j nilAr).place, comeO np (comes np s (l.take j)).1 (comes np s (l.take j)).2 (l.getD j nilAr).place) := by
  unfold comes
  rw [List.take_succ_eq_append_getElem hj, List.foldl_append, List.getD_eq_getElem?_getD, List.getElem?_eq_getElem hj]
  rfl
def setT (T : Nat → Bool) (k : Nat) : Nat → Bool := fun j => if j = k then true else T j
/-- what holds of a walk's world -/
theorem WM.base {W0 H : World} {M : Nat → Prop} {q gp gt np nt : Nat} {P T : Nat → Bool} {O : List Int} {a : Option Addr} {c : Nat} {wr : World} (h : WM W0.heap.size H M q gp gt np nt P T O a c wr) (hH : Below W0.heap.size W0 H) (hM : ∀ b, M b → W0.heap.size ≤ b) : Below W0.heap.size W0 wr :=
  hH.trans (h.2.2.1.below hH.size hM)
def doT (T : Nat → Bool) (k : Nat) : Nat → Bool := if T k then T else setT T k
def doPO (np : Nat) (P T : Nat → Bool) (O : List Int) (t : Ta) (k : Nat) : PO := if T k then (P, O) else comes np (P, O) t.outs
def DoPost (B : Nat) (H : World) (M : Nat → Prop) (q gp gt np nt : Nat) (T : Nat → Bool) (s : PO) (e : Ending) (w' : World) : Prop := ∃ a' c', e = .returned (.tuple #[]) ∧ WM B H M q gp gt np nt s.1 T s.2 a' c' w'
set_option maxHeartbeats 4000000 in
set_option maxRecDepth 10000 in
theorem do_any (W0 H : World) (M : Nat → Prop) (q gp gt np nt : Nat) (P T : Nat → Bool) (O : List Int) (a : Option Addr) (c : Nat) (t : Ta) (k : Nat) (w : World) (h : WM W0.heap.size H M q gp gt np nt P T O a c w) (hH : Below W0.heap.size W0 H) (hM : ∀ b, M b → W0.heap.size ≤ b) (hnp : np ≤ 1000000) (hk : k < nt) (ht : TaOk W0 t) (hm : t.outs.length ≤ 1000000) :
    Calls Tryz.prog 57 #[.pointer (some ⟨q, 0, none⟩), t.agg, .int .i64 (k : Int)] w (DoPost W0.heap.size H M q gp gt np nt (doT T k) (doPO np P T O t k)) := by
  obtain ⟨wz, hwz⟩ : ∃ wz, wz = w.alloc (.cells #[.string t.name, .slice t.va t.vars.length t.vc, .int .i64 t.guard.kind, .int .i64 t.guard.num, .slice t.ga t.guard.kids.length t.gc, .int .i64 t.join, .int .i64 t.split, .slice t.ia t.ins.length t.ic, .slice t.oa t.outs.length t.oc, .slice t.ca t.cancel.length t.cc, .int .i64 t.after, .int .i64 t.m0, .int .i64 t.m1, .int .i64 t.m2] 53) := ⟨_, rfl⟩
  obtain ⟨b, hb⟩ : ∃ b, b = w.heap.size := ⟨_, rfl⟩
  have hz : Below w.heap.size w wz := by rw [hwz]; exact (Below.refl _ _).alloc (Nat.le_refl _) _
  have b8 : wz.cell? ⟨b, 8, none⟩ = some (.slice t.oa t.outs.length t.oc) := by rw [hwz]; exact World.cell?_alloc_at _ _ _ _ hb
  have hW := h.below hz
  obtain ⟨x0, x1, x2, x3, ql⟩ := wk_at hW
  have y0 : wz.cell? ⟨gt, k, none⟩ = some (.bool (T k)) := hW.1.2.2.1.cell hk
  have gl := hW.1.2.2.1.lt
  have hk' : (k : Int) < nt := by omega
  have HW : Hid (WM W0.heap.size H M q gp gt np nt P T O a c wz) := hW
  have HA : Hid (Below W0.heap.size W0 H ∧ (∀ b, M b → W0.heap.size ≤ b) ∧ TaOk W0 t ∧ k < nt) := ⟨hH, hM, ht, hk⟩
  unfold Ta.agg
  cases hT : T k with
  | true =>
    have FIN : Hid (DoPost W0.heap.size H M q gp gt np nt (doT T k) (doPO np P T O t k) (.returned (.tuple #[])) wz) := by
      unfold doT doPO
      rw [hT, if_pos rfl, if_pos rfl]
      exact ⟨a, c, rfl, HW.out⟩
    rw [hT] at y0
    clear h hW hH hM ht hT hz
    go_enter Tryz.func57, Tryz.ntmps57
    go_upto_region 1 with fail
    rw [← hwz, ← hb]
    clear hwz hb
    go_wp2_with fail
    refine bodyPost_ret (v := .tuple #[]) ?_ rfl FIN.out
    simp [results, Tryz.results57, go_sem]
  | false =>
    rw [hT] at y0
    have z0 : wz.frozen? ⟨gt, k, none⟩ = false := hW.1.2.2.1.frozen k
    obtain ⟨wm, hwm⟩ : ∃ wm, wm = wz.setCell ⟨gt, k, none⟩ (.bool true) := ⟨_, rfl⟩
    have hbgt : gt ≠ b := by have := h.1.2.2.1.lt; omega
    have b8 : wm.cell? ⟨b, 8, none⟩ = some (.slice t.oa t.outs.length t.oc) := by rw [hwm]; exact (cell_set_ne (by omega)).trans b8
    have H1 : Hid (WM W0.heap.size H M q gp gt np nt P (setT T k) O a c wm) := by
      have hc : Ch (fun b => b = gt) wz wm := by rw [hwm]; exact (Ch.refl (fun b => b = gt) wz).setCell (b := gt) (o := k) (.inl rfl) _
      refine ⟨⟨rowIs_ch hW.1.1 hc hW.2.1.2.1.2.1, rowIs_ch hW.1.2.1 hc hW.2.1.2.1.2.2, ?_, own_ch2 hW.1.2.2.2 hc (fun j hj e => by rw [own_block] at hj; exact (hW.2.1.2.2 j hj).2.2 e)⟩, ⟨⟨hW.2.1.1.1, hW.2.1.1.2.1, hW.2.1.1.2.2.1, Nat.le_trans hW.2.1.1.2.2.2 hc.size⟩, hW.2.1.2⟩, ?_, hW.2.2.2⟩
      · rw [hwm]
        refine (hW.1.2.2.1.set k (.bool true)).congr fun j hj => ?_
        unfold setT
        by_cases e : j = k
        · rw [if_pos e, if_pos e]
        · rw [if_neg e, if_neg e]
      · exact Ch.up2 hW.2.2.1 hc fun b e => hW.2.2.2.1 b (.inr (.inr (.inl e)))
    have HD : Hid (doT T k = setT T k ∧ doPO np P T O t k = comes np (P, O) t.outs) := by unfold doT doPO; rw [hT]; exact ⟨rfl, rfl⟩
    clear h hW hH hM ht hT hz
    go_enter Tryz.func57, Tryz.ntmps57
    go_upto_region 1 with fail
    rw [← hwz, ← hb]
    clear hwz hb
    go_upto_region 3 with fail
    rw [← hwm]
    clear hwm x0 x1 x2 x3 ql y0 z0 gl
    go_wp2_with fail
    clear b8
    go_loopw [24] (fun v wr => ∃ (j : Nat) (a' : Option Addr) (c' : Nat), v = .int .i64 (j : Int) ∧ j ≤ t.outs.length ∧ Hid (WM W0.heap.size H M q gp gt np nt (comes np (P, O) (t.outs.take j)).1 (setT T k) (comes np (P, O) (t.outs.take j)).2 a' c' wr)) (fun v _ => match v with | .int _ z => t.outs.length - z.toNat | _ => 0)
    case atStart => exact ⟨0, a, c, rfl, by omega, H1⟩
    case round =>
      obtain ⟨j, a', c', rfl, hj, HI⟩ := hrel
      by_cases hlt : j < t.outs.length
      · have hlt' : (j : Int) < t.outs.length := by omega
        have hbs := HI.out.base HA.out.1 HA.out.2.1
        obtain ⟨b2, off2, ha2, ⟨e0, e1, e2, e3⟩, _⟩ := arcs_at (HA.out.2.2.1.below hbs).2.2.2.2.1 hlt
        have hbl2 : b2 < wr.heap.size := World.block_lt_of_cell? _ _ e0
        obtain ⟨x, hx⟩ : ∃ x, x = t.outs.getD j nilAr := ⟨_, rfl⟩
        rw [← hx] at e0 e1 e2 e3
        have HC : Hid (comes np (P, O) (t.outs.take (j + 1)) = (comeP (comes np (P, O) (t.outs.take j)).1 x.place, comeO np (comes np (P, O) (t.outs.take j)).1 (comes np (P, O) (t.outs.take j)).2 x.place)) := by rw [hx]; exact comes_take np (P, O) t.outs j hlt
        clear hx hbs
        rw [ha2]
        obtain ⟨w6, hw6⟩ : ∃ w6, w6 = wr.alloc (.cells #[.int .i64 x.place, .int .i64 x.ex.kind, .int .i64 x.ex.num, .slice x.ka x.ex.kids.length x.kc] 65) := ⟨_, rfl⟩
        obtain ⟨r, hr⟩ : ∃ r, r = wr.heap.size := ⟨_, rfl⟩
        have y0 : w6.cell? ⟨r, 0, none⟩ = some (.int .i64 x.place) := by rw [hw6]; exact World.cell?_alloc_at _ _ _ _ hr
        have C6 : Hid (Calls Tryz.prog 55 #[.pointer (some ⟨q, 0, none⟩), .int .i64 x.place] w6 (ComePost W0.heap.size H M q gp gt np nt (comeP (comes np (P, O) (t.outs.take j)).1 x.place) (setT T k) (comeO np (comes np (P, O) (t.outs.take j)).1 (comes np (P, O) (t.outs.take j)).2 x.place))) :=
          come_any W0.heap.size H M q gp gt np nt _ _ _ a' c' x.place w6 (HI.out.below (by rw [hw6]; exact (Below.refl _ _).alloc (Nat.le_refl _) _)) hnp
        go_upto_region 6 with fail
        rw [← hw6, ← hr]
        clear hw6 hr e0 e1 e2 e3 hbl2
        go_wp2_with fail
        refine C6.out.mono ?_
        rintro e w7 ⟨a2, c2, he, h7⟩
        subst he
        have NX : Hid (WM W0.heap.size H M q gp gt np nt (comes np (P, O) (t.outs.take (j + 1))).1 (setT T k) (comes np (P, O) (t.outs.take (j + 1))).2 a2 c2 w7) := by rw [HC.out]; exact h7
        clear h7 y0 C6
        go_wp2_with fail
        go_roundw
        case rel => exact ⟨j + 1, a2, c2, by simp, by omega, NX⟩
        case measure => simp; omega
      · have hlt' : ¬ (j : Int) < t.outs.length := by omega
        have FIN : Hid (DoPost W0.heap.size H M q gp gt np nt (doT T k) (doPO np P T O t k) (.returned (.tuple #[])) wr) := by
          rw [HD.out.1, HD.out.2]
          have := HI.out
          rw [List.take_of_length_le (by omega)] at this
          exact ⟨a', c', rfl, this⟩
        go_wp2_with fail
        go_end0
        exact FIN.out
end Go.Proofs.YtgdkomkflfodaaaGreat.Check
/- The tasks that may take from each place: what lies in memory. -/
namespace Go.Proofs.YtgdkomkflfodaaaGreat.Check
open Go.Proofs.YtgdkomkflfodaaaGreat.Dag Go.RowKit Go.Proofs.YtgdkomkflfodaaaGreat.Frame Go.Proofs.YtgdkomkflfodaaaGreat.Colour Go.Proofs.YtgdkomkflfodaaaGreat.Expr
set_option linter.unusedVariables false
set_option linter.unusedSimpArgs false

/-- rows of numbers, each of the call's own, apart from one another -/
def TkM (B g np : Nat) (L : Nat → List Int) (sa : Nat → Option Addr) (cs : Nat → Nat) (wr : World) : Prop :=
  wr.rowIs g 36 np (fun p => .slice (sa p) (L p).length (cs p)) ∧ (B ≤ g ∧ B ≤ wr.heap.size) ∧ (∀ p, p < np → wr.ownsRow B 3 1 (.slice (sa p) (L p).length (cs p)) (L p).length (ints (L p))) ∧
  (∀ p, p < np → ∀ k, (sa p).map Addr.block = some k → k ≠ g) ∧ ∀ p p' k, p < np → p' < np → (sa p).map Addr.block = some k → (sa p').map Addr.block = some k → p = p'
theorem TkM.ch {B g np : Nat} {L : Nat → List Int} {sa : Nat → Option Addr} {cs : Nat → Nat} {wr w' : World} {M : Nat → Prop} (h : TkM B g np L sa cs wr) (hc : Ch M wr w') (hg : ¬ M g) (hm : ∀ p, p < np → ∀ k, (sa p).map Addr.block = some k → ¬ M k) : TkM B g np L sa cs w' :=
  ⟨rowIs_ch h.1 hc hg, ⟨h.2.1.1, Nat.le_trans h.2.1.2 hc.size⟩, fun p hp => own_ch2 (h.2.2.1 p hp) hc (fun k hk => hm p hp k (by rw [own_block] at hk; exact hk)), h.2.2.2⟩
theorem TkM.below {B g np : Nat} {L : Nat → List Int} {sa : Nat → Option Addr} {cs : Nat → Nat} {wr w' : World} (h : TkM B g np L sa cs wr) (hb : Below wr.heap.size wr w') : TkM B g np L sa cs w' :=
  h.ch (M := fun _ => False) (Ch.of_below hb) (fun h => h) (fun _ _ _ _ h => h)
def upd {α : Type} (f : Nat → α) (p : Nat) (x : α) : Nat → α := fun j => if j = p then x else f j
/-- one number more in one of the rows, and the row's cell written -/
theorem TkM.push {B g np : Nat} {L : Nat → List Int} {sa : Nat → Option Addr} {cs : Nat → Nat} {wr w1 w2 : World} {p : Nat} {x : Int} {a' : Option Addr} {c' : Nat} (h : TkM B g np L sa cs wr) (hp : p < np) (h1 : Below wr.heap.size wr w1)
    (hown : w2.ownsRow B 3 1 (.slice a' ((L p).length + 1) c') ((L p).length + 1) (ints (L p ++ [x]))) (hg : w1.grownBy w2 ((sa p).map Addr.block)) (hat : a'.map Addr.block = (sa p).map Addr.block ∨ a'.map Addr.block = some w1.heap.size) :
    TkM B g np (upd L p (L p ++ [x])) (upd sa p a') (upd cs p c') (w2.setCell ⟨g, p, none⟩ (.slice a' ((L p).length + 1) c')) := by
  have hw1 := h.below h1
  have hc : Ch (fun b => (sa p).map Addr.block = some b) w1 w2 := Ch.grown hg fun b e => e
  have hgl := hw1.1.lt
  have hblt : ∀ j, j < np → ∀ k, (sa j).map Addr.block = some k → k < w1.heap.size := fun j hj k hk => (own_lt (hw1.2.2.1 j hj) hk).2
  have hna : ∀ k, a'.map Addr.block = some k → k ≠ g := fun k hk => by
    rcases hat with e | e
    · exact h.2.2.2.1 p hp k (by rw [← e]; exact hk)
    · rw [hk] at e; injection e with e; omega
  have hc2 : Ch (fun b => b = g) w2 (w2.setCell ⟨g, p, none⟩ (.slice a' ((L p).length + 1) c')) := (Ch.refl (fun b => b = g) w2).setCell (b := g) (o := p) (.inl rfl) _
  refine ⟨?_, ⟨h.2.1.1, Nat.le_trans hw1.2.1.2 (Nat.le_trans hc.size hc2.size)⟩, fun j hj => ?_, fun j hj k hk => ?_, fun i j k hi hj e1 e2 => ?_⟩
  · refine ((rowIs_ch hw1.1 hc (fun e => h.2.2.2.1 p hp g e rfl)).set p _).congr fun j hj => ?_
    unfold upd
    by_cases e : j = p
    · rw [if_pos e, if_pos e, if_pos e, if_pos e, List.length_append]; rfl
    · rw [if_neg e, if_neg e, if_neg e, if_neg e]
  · unfold upd
    by_cases e : j = p
    · rw [if_pos e, if_pos e, if_pos e, List.length_append]
      exact own_ch2 hown hc2 (fun k hk e => hna k (by rw [own_block] at hk; exact hk) e)
    · rw [if_neg e, if_neg e, if_neg e]
      refine own_ch2 (own_ch2 (hw1.2.2.1 j hj) hc ?_) hc2 ?_
      · intro k hk e2
        rw [own_block] at hk
        exact e (h.2.2.2.2 j p k hj hp hk e2)
      · intro k hk e2
        rw [own_block] at hk
        exact h.2.2.2.1 j hj k hk e2
  · unfold upd at hk
    by_cases e : j = p
    · rw [if_pos e] at hk; exact hna k hk
    · rw [if_neg e] at hk; exact h.2.2.2.1 j hj k hk
  · unfold upd at e1 e2
    have key : ∀ j, j < np → j ≠ p → ∀ k, a'.map Addr.block = some k → (sa j).map Addr.block = some k → False := fun j hj hne k hk hk2 => by
      rcases hat with e | e
      · exact hne (h.2.2.2.2 j p k hj hp hk2 (by rw [← e]; exact hk))
      · rw [hk] at e; injection e with e
        have := hblt j hj k hk2
        omega
    by_cases f1 : i = p
    · by_cases f2 : j = p
      · omega
      · rw [if_pos f1] at e1; rw [if_neg f2] at e2
        exact (key j hj f2 k e1 e2).elim
    · by_cases f2 : j = p
      · rw [if_neg f1] at e1; rw [if_pos f2] at e2
        exact (key i hi f1 k e2 e1).elim
      · rw [if_neg f1] at e1; rw [if_neg f2] at e2
        exact h.2.2.2.2 i j k hi hj e1 e2
theorem TkM.at {B g np : Nat} {L : Nat → List Int} {sa : Nat → Option Addr} {cs : Nat → Nat} {wr : World} (h : TkM B g np L sa cs wr) {p : Nat} (hp : p < np) : wr.cell? ⟨g, p, none⟩ = some (.slice (sa p) (L p).length (cs p)) ∧ wr.frozen? ⟨g, p, none⟩ = false ∧ g < wr.heap.size := ⟨h.1.cell hp, h.1.frozen p, h.1.lt⟩
/-- the rows as they are made -/
theorem TkM.made {B np : Nat} {w : World} (hB : B ≤ w.heap.size) : TkM B w.heap.size np (fun _ => []) (fun _ => none) (fun _ => 0) (w.alloc (.cells (madeCells #[.slice none 0 0] np) 36)) :=
  ⟨World.rowIs_made _ _ _ _, ⟨hB, by simp; omega⟩, fun p hp => World.ownsRow_nil _ _ _ _, fun p hp k hk => (by cases hk), fun p p' k _ _ hk => (by cases hk)⟩

/- what the rows hold -/
/-- the tasks that may take from each place, after some of a task's arcs -/
def tkArcs (np : Nat) (i : Int) (L : Nat → List Int) (l : List Ar) : Nat → List Int := l.foldl (fun L x => if inB x.place np then upd L x.place.toNat (L x.place.toNat ++ [i]) else L) L
theorem tkArcs_take (np : Nat) (i : Int) (L : Nat → List Int) (l : List Ar) (j : Nat) (hj : j < l.length) : tkArcs np i L (l.take (j + 1)) = if inB (l.getD j nilAr).place np then upd (tkArcs np i L (l.take j)) (l.getD j nilAr).place.toNat (tkArcs np i L (l.take j) (l.getD j nilAr).place.toNat ++ [i]) else tkArcs np i L (l.take j) := by
  unfold tkArcs
  rw [List.take_succ_eq_append_getElem hj, List.foldl_append, List.getD_eq_getElem?_getD, List.getElem?_eq_getElem hj]
  rfl
def tkAll (n : Ne) : Nat → Nat → List Int
  | 0 => fun _ => []
  | i + 1 => tkArcs n.places.length i (tkAll n i) (n.tasks.getD i nilTa).ins
end Go.Proofs.YtgdkomkflfodaaaGreat.Check
