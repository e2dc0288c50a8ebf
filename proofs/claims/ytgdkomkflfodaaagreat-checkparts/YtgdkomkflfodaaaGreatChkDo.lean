/- A walk that does a task: a contract of the call, over the turned program. -/
import Derived.Test.YtgdkomkflfodaaaGreatChkCome
import Derived.Test.YtgdkomkflfodaaaGreatChkTak
namespace Go.Proofs.YtgdkomkflfodaaaGreat.Check
open Go.RowKit Go.Proofs.YtgdkomkflfodaaaGreat.Frame Go.Proofs.YtgdkomkflfodaaaGreat.Colour Go.Proofs.YtgdkomkflfodaaaGreat.Expr
set_option linter.unusedVariables false
set_option linter.unusedSimpArgs false

abbrev PO := (Nat → Bool) × List Int
/-- the places of these arcs are come to, one behind the other -/
def comes (np : Nat) (s : PO) (l : List Ar) : PO := l.foldl (fun s x => (comeP s.1 x.place, comeO np s.1 s.2 x.place)) s
theorem comes_take (np : Nat) (s : PO) (l : List Ar) (j : Nat) (hj : j < l.length) : comes np s (l.take (j + 1)) = (comeP (comes np s (l.take j)).1 (l.getD j nilAr).place, comeO np (comes np s (l.take j)).1 (comes np s (l.take j)).2 (l.getD j nilAr).place) := by
  unfold comes
  rw [List.take_succ_eq_append_getElem hj, List.foldl_append, List.getD_eq_getElem?_getD, List.getElem?_eq_getElem hj]
  rfl
def setT (T : Nat → Bool) (k : Nat) : Nat → Bool := fun j => if j = k then true else T j
/-- what holds of a walk's world -/
theorem WM.base {W0 H : World} {M : Nat → Prop} {q gp gt np nt : Nat} {P T : Nat → Bool} {O : List Int} {a : Option Addr} {c : Nat} {wr : World} (h : WM W0.heap.size H M q gp gt np nt P T O a c wr) (hH : Below W0.heap.size W0 H) (hM : ∀ b, M b → W0.heap.size ≤ b) : Below W0.heap.size W0 wr :=
  hH.trans (h.2.2.1.below hH.size hM)
def doT (T : Nat → Bool) (k : Nat) : Nat → Bool := if T k then T else setT T k
def doPO (np : Nat) (P T : Nat → Bool) (O : List Int) (t : Ta) (k : Nat) : PO := if T k then (P, O) else comes np (P, O) t.outs
def DoPost (B : Nat) (H : World) (M : Nat → Prop) (q gp gt np nt : Nat) (T : Nat → Bool) (s : PO) (e : Ending) (w' : World) : Prop := ∃ a' c', e = .returned (.tuple #[]) ∧ WM B H M q gp gt np nt s.1 T s.2 a' c' w'
set_option maxHeartbeats 4000000 in
set_option maxRecDepth 10000 in
theorem do_any (W0 H : World) (M : Nat → Prop) (q gp gt np nt : Nat) (P T : Nat → Bool) (O : List Int) (a : Option Addr) (c : Nat) (t : Ta) (k : Nat) (w : World) (h : WM W0.heap.size H M q gp gt np nt P T O a c w) (hH : Below W0.heap.size W0 H) (hM : ∀ b, M b → W0.heap.size ≤ b) (hnp : np ≤ 1000000) (hk : k < nt) (ht : TaOk W0 t) (hm : t.outs.length ≤ 1000000) :
    Calls Tryz.prog 57 #[.pointer (some ⟨q, 0, none⟩), t.agg, .int .i64 (k : Int)] w (DoPost W0.heap.size H M q gp gt np nt (doT T k) (doPO np P T O t k)) := by
  obtain ⟨wz, hwz⟩ : ∃ wz, wz = w.alloc (.cells #[.string t.name, .slice t.va t.vars.length t.vc, .int .i64 t.guard.kind, .int .i64 t.guard.num, .slice t.ga t.guard.kids.length t.gc, .int .i64 t.join, .int .i64 t.split, .slice t.ia t.ins.length t.ic, .slice t.oa t.outs.length t.oc, .slice t.ca t.cancel.length t.cc, .int .i64 t.after, .int .i64 t.m0, .int .i64 t.m1, .int .i64 t.m2] 53) := ⟨_, rfl⟩
  obtain ⟨b, hb⟩ : ∃ b, b = w.heap.size := ⟨_, rfl⟩
  have hz : Below w.heap.size w wz := by rw [hwz]; exact (Below.refl _ _).alloc (Nat.le_refl _) _
  have b8 : wz.cell? ⟨b, 8, none⟩ = some (.slice t.oa t.outs.length t.oc) := by rw [hwz]; exact World.cell?_alloc_at _ _ _ _ hb
  have hW := h.below hz
  obtain ⟨x0, x1, x2, x3, ql⟩ := wk_at hW
  have y0 : wz.cell? ⟨gt, k, none⟩ = some (.bool (T k)) := hW.1.2.2.1.cell hk
  have gl := hW.1.2.2.1.lt
  have hk' : (k : Int) < nt := by omega
  have HW : Hid (WM W0.heap.size H M q gp gt np nt P T O a c wz) := hW
  have HA : Hid (Below W0.heap.size W0 H ∧ (∀ b, M b → W0.heap.size ≤ b) ∧ TaOk W0 t ∧ k < nt) := ⟨hH, hM, ht, hk⟩
  unfold Ta.agg
  cases hT : T k with
  | true =>
    have FIN : Hid (DoPost W0.heap.size H M q gp gt np nt (doT T k) (doPO np P T O t k) (.returned (.tuple #[])) wz) := by
      unfold doT doPO
      rw [hT, if_pos rfl, if_pos rfl]
      exact ⟨a, c, rfl, HW.out⟩
    rw [hT] at y0
    clear h hW hH hM ht hT hz
    go_enter Tryz.func57, Tryz.ntmps57
    go_upto_region 1 with fail
    rw [← hwz, ← hb]
    clear hwz hb
    go_wp2_with fail
    refine bodyPost_ret (v := .tuple #[]) ?_ rfl FIN.out
    simp [results, Tryz.results57, go_sem]
  | false =>
    rw [hT] at y0
    have z0 : wz.frozen? ⟨gt, k, none⟩ = false := hW.1.2.2.1.frozen k
    obtain ⟨wm, hwm⟩ : ∃ wm, wm = wz.setCell ⟨gt, k, none⟩ (.bool true) := ⟨_, rfl⟩
    have hbgt : gt ≠ b := by have := h.1.2.2.1.lt; omega
    have b8 : wm.cell? ⟨b, 8, none⟩ = some (.slice t.oa t.outs.length t.oc) := by rw [hwm]; exact (cell_set_ne (by omega)).trans b8
    have H1 : Hid (WM W0.heap.size H M q gp gt np nt P (setT T k) O a c wm) := by
      have hc : Ch (fun b => b = gt) wz wm := by rw [hwm]; exact (Ch.refl (fun b => b = gt) wz).setCell (b := gt) (o := k) (.inl rfl) _
      refine ⟨⟨rowIs_ch hW.1.1 hc hW.2.1.2.1.2.1, rowIs_ch hW.1.2.1 hc hW.2.1.2.1.2.2, ?_, own_ch2 hW.1.2.2.2 hc (fun j hj e => by rw [own_block] at hj; exact (hW.2.1.2.2 j hj).2.2 e)⟩, ⟨⟨hW.2.1.1.1, hW.2.1.1.2.1, hW.2.1.1.2.2.1, Nat.le_trans hW.2.1.1.2.2.2 hc.size⟩, hW.2.1.2⟩, ?_, hW.2.2.2⟩
      · rw [hwm]
        refine (hW.1.2.2.1.set k (.bool true)).congr fun j hj => ?_
        unfold setT
        by_cases e : j = k
        · rw [if_pos e, if_pos e]
        · rw [if_neg e, if_neg e]
      · exact Ch.up2 hW.2.2.1 hc fun b e => hW.2.2.2.1 b (.inr (.inr (.inl e)))
    have HD : Hid (doT T k = setT T k ∧ doPO np P T O t k = comes np (P, O) t.outs) := by unfold doT doPO; rw [hT]; exact ⟨rfl, rfl⟩
    clear h hW hH hM ht hT hz
    go_enter Tryz.func57, Tryz.ntmps57
    go_upto_region 1 with fail
    rw [← hwz, ← hb]
    clear hwz hb
    go_upto_region 3 with fail
    rw [← hwm]
    clear hwm x0 x1 x2 x3 ql y0 z0 gl
    go_wp2_with fail
    clear b8
    go_loopw [24] (fun v wr => ∃ (j : Nat) (a' : Option Addr) (c' : Nat), v = .int .i64 (j : Int) ∧ j ≤ t.outs.length ∧ Hid (WM W0.heap.size H M q gp gt np nt (comes np (P, O) (t.outs.take j)).1 (setT T k) (comes np (P, O) (t.outs.take j)).2 a' c' wr)) (fun v _ => match v with | .int _ z => t.outs.length - z.toNat | _ => 0)
    case atStart => exact ⟨0, a, c, rfl, by omega, H1⟩
    case round =>
      obtain ⟨j, a', c', rfl, hj, HI⟩ := hrel
      by_cases hlt : j < t.outs.length
      · have hlt' : (j : Int) < t.outs.length := by omega
        have hbs := HI.out.base HA.out.1 HA.out.2.1
        obtain ⟨b2, off2, ha2, ⟨e0, e1, e2, e3⟩, _⟩ := arcs_at (HA.out.2.2.1.below hbs).2.2.2.2.1 hlt
        have hbl2 : b2 < wr.heap.size := World.block_lt_of_cell? _ _ e0
        obtain ⟨x, hx⟩ : ∃ x, x = t.outs.getD j nilAr := ⟨_, rfl⟩
        rw [← hx] at e0 e1 e2 e3
        have HC : Hid (comes np (P, O) (t.outs.take (j + 1)) = (comeP (comes np (P, O) (t.outs.take j)).1 x.place, comeO np (comes np (P, O) (t.outs.take j)).1 (comes np (P, O) (t.outs.take j)).2 x.place)) := by rw [hx]; exact comes_take np (P, O) t.outs j hlt
        clear hx hbs
        rw [ha2]
        obtain ⟨w6, hw6⟩ : ∃ w6, w6 = wr.alloc (.cells #[.int .i64 x.place, .int .i64 x.ex.kind, .int .i64 x.ex.num, .slice x.ka x.ex.kids.length x.kc] 65) := ⟨_, rfl⟩
        obtain ⟨r, hr⟩ : ∃ r, r = wr.heap.size := ⟨_, rfl⟩
        have y0 : w6.cell? ⟨r, 0, none⟩ = some (.int .i64 x.place) := by rw [hw6]; exact World.cell?_alloc_at _ _ _ _ hr
        have C6 : Hid (Calls Tryz.prog 55 #[.pointer (some ⟨q, 0, none⟩), .int .i64 x.place] w6 (ComePost W0.heap.size H M q gp gt np nt (comeP (comes np (P, O) (t.outs.take j)).1 x.place) (setT T k) (comeO np (comes np (P, O) (t.outs.take j)).1 (comes np (P, O) (t.outs.take j)).2 x.place))) :=
          come_any W0.heap.size H M q gp gt np nt _ _ _ a' c' x.place w6 (HI.out.below (by rw [hw6]; exact (Below.refl _ _).alloc (Nat.le_refl _) _)) hnp
        go_upto_region 6 with fail
        rw [← hw6, ← hr]
        clear hw6 hr e0 e1 e2 e3 hbl2
        go_wp2_with fail
        refine C6.out.mono ?_
        rintro e w7 ⟨a2, c2, he, h7⟩
        subst he
        have NX : Hid (WM W0.heap.size H M q gp gt np nt (comes np (P, O) (t.outs.take (j + 1))).1 (setT T k) (comes np (P, O) (t.outs.take (j + 1))).2 a2 c2 w7) := by rw [HC.out]; exact h7
        clear h7 y0 C6
        go_wp2_with fail
        go_roundw
        case rel => exact ⟨j + 1, a2, c2, by simp, by omega, NX⟩
        case measure => simp; omega
      · have hlt' : ¬ (j : Int) < t.outs.length := by omega
        have FIN : Hid (DoPost W0.heap.size H M q gp gt np nt (doT T k) (doPO np P T O t k) (.returned (.tuple #[])) wr) := by
          rw [HD.out.1, HD.out.2]
          have := HI.out
          rw [List.take_of_length_le (by omega)] at this
          exact ⟨a', c', rfl, this⟩
        go_wp2_with fail
        go_end0
        exact FIN.out
end Go.Proofs.YtgdkomkflfodaaaGreat.Check
