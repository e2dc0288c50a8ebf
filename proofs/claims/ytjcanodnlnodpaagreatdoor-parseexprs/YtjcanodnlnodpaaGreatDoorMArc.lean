/- Arcs of a task: a contract of the call, over the turned program. -/
import Derived.Test.YtjcanodnlnodpaaGreatDoorMTK
namespace Go.Proofs.YtjcanodnlnodpaaGreatDoor.Parse
open Go.RowKit Go.Maps Go.Proofs.YtjcanodnlnodpaaGreatDoor.Frame Go.Proofs.YtjcanodnlnodpaaGreatDoor.Token Go.Proofs.YtjcanodnlnodpaaGreatDoor.Expr Go.Proofs.YtjcanodnlnodpaaGreatDoor.Calc
set_option linter.unusedVariables false
set_option linter.unusedSimpArgs false

def arcZ : List Value := [.int .i64 0, .int .i64 0, .int .i64 0, .slice none 0 0]
def ArcPost (B p : Nat) (en : Int) (st : St) (n : PNet) (names : List (List UInt8)) (w : World) (e : Ending) (w' : World) : Prop := ∃ (z : Int) (t : Ex) (a : Option Addr) (c : Nat) (st' : St), e = .returned (.agg #[.int .i64 z, .int .i64 t.kind, .int .i64 t.num, .slice a t.kids.length c]) ∧ XG (fun b _ => w.heap.size ≤ b) w' t a ∧ RS B w' p en st' ∧ RCh p w w' ∧ Res en st (arcP n names) st' fun u => u = (z, t)
theorem arc_res {en : Int} {n : PNet} {names : List (List UInt8)} {s0 s1 s2 s3 s4 : St} {z : Int} {t : Ex} (h1 : Res en s0 (findP (n.places.map PPlace.name)) s1 fun u => u = z) (h2 : Res en s1 (wantP [40]) s2 fun _ => True) (h3 : Res en s2 (exprP names) s3 fun u => u = t) (h4 : Res en s3 (wantP [41]) s4 fun _ => True) : Res en s0 (arcP n names) s4 fun u => u = (z, t) := by
  unfold arcP
  refine Res.bindp h1 ?_
  dsimp only
  refine Res.want h2 (Res.bindp h3 ?_)
  dsimp only
  exact Res.want h4 (Res.pure rfl)
theorem four {W : World} {q : Nat} {x0 x1 x2 x3 : Value} (h : Bx W q [x0, x1, x2, x3]) : (W.cell? ⟨q, 0, none⟩ = some x0 ∧ W.cell? ⟨q, 1, none⟩ = some x1 ∧ W.cell? ⟨q, 2, none⟩ = some x2 ∧ W.cell? ⟨q, 3, none⟩ = some x3 ∧ q < W.heap.size) ∧ (W.frozen? ⟨q, 0, none⟩ = false ∧ W.frozen? ⟨q, 1, none⟩ = false ∧ W.frozen? ⟨q, 2, none⟩ = false ∧ W.frozen? ⟨q, 3, none⟩ = false) :=
  ⟨⟨h.1 0, h.1 1, h.1 2, h.1 3, h.2.2⟩, h.2.1 0, h.2.1 1, h.2.1 2, h.2.1 3⟩
/-- the boxes of an arc's reading: the answer's, and its own -/
def A2 (B p : Nat) (en : Int) (w : World) (x : Nat) (us : List Value) (st : St) (W : World) : Prop := CB B p en w x us st W ∧ Bx W w.heap.size arcZ ∧ w.heap.size < x
theorem A2.on {B p : Nat} {en : Int} {w : World} {x : Nat} {us : List Value} {st st' : St} {W W' : World} (h : A2 B p en w x us st W) (hR : RS B W' p en st') (hr : RCh p W W') : A2 B p en w x us st' W' :=
  ⟨h.1.on hR hr, h.2.1.ch hr.1 (by have := h.1.2.2.2.2; omega), h.2.2⟩
theorem A2.st {B p : Nat} {en : Int} {w : World} {x : Nat} {us : List Value} {st : St} {W : World} (h : A2 B p en w x us st W) (i : Nat) (v : Value) (hi : i < us.length) : A2 B p en w x (us.set i v) st (W.setCell ⟨x, i, none⟩ v) :=
  ⟨h.1.st i v hi, h.2.1.set (by have := h.2.2; omega), h.2.2⟩

set_option maxRecDepth 100000 in
set_option maxHeartbeats 8000000 in
theorem arc_any (B L p q : Nat) (en : Int) (st : St) (n : PNet) (mN : NM) (t : PTask) (m : TM) (w : World) (h : TPre B L w p q en st n mN t m) : Calls Tryz.prog 238 #[ptr q] w (ArcPost B p en st n (t.vars.map Prod.fst) w) := by
  obtain ⟨d0, d15, d9, d10, ql, pl⟩ := h.cells
  have H0 : Hid (TPre B L w p q en st n mN t m) := h
  have HNE : Hid (mN.mp ≠ p) := h.2.2.1.now.ne.2.1
  obtain ⟨wz, hwz⟩ : ∃ wz, wz = w.alloc (.cells #[.int .i64 0, .int .i64 0, .int .i64 0, .slice none 0 0] 65) := ⟨_, rfl⟩
  have hz0 : Below w.heap.size w wz := by rw [hwz]; exact (Below.refl _ _).alloc (Nat.le_refl _) _
  have hzs : wz.heap.size = w.heap.size + 1 := by rw [hwz]; simp
  have hzb : Bx wz w.heap.size arcZ := by rw [hwz]; exact Bx.new w #[.int .i64 0, .int .i64 0, .int .i64 0, .slice none 0 0] _
  have HW : Hid (wz = w.alloc (.cells #[.int .i64 0, .int .i64 0, .int .i64 0, .slice none 0 0] 65)) := hwz
  have HZ : Hid (Below w.heap.size w wz ∧ wz.heap.size = w.heap.size + 1 ∧ Bx wz w.heap.size arcZ) := ⟨hz0, hzs, hzb⟩
  have KN : Hid (∀ W, Below wz.heap.size wz W → Calls Tryz.prog 82 #[.pointer (some ⟨p, 0, none⟩), .map (some mN.mp)] W (KnownPost B p en (n.places.map PPlace.name) st W)) := fun W hW => by
    have hT := (h.below hz0).below hW
    exact known_post B p mN.mp _ _ mN.fp _ h.2.2.2.1.2.1.1 (by rw [List.length_map]; have := h.2.2.2.2.2.1.2; omega) en st W hT.1 hT.2.2.1.now.2.2.1.2.1 h.2.2.1.now.ne.2.1
  have e0 : wz.cell? ⟨q, 0, none⟩ = some (.pointer (some ⟨p, 0, none⟩)) := (hz0.cell (p := ⟨q, 0, none⟩) ql).trans d0
  have e10 : wz.cell? ⟨p, 10, none⟩ = some (.map (some mN.mp)) := (hz0.cell (p := ⟨p, 10, none⟩) pl).trans d10
  have qz : q < wz.heap.size := by omega
  have pz : p < wz.heap.size := by omega
  clear h hwz hz0 hzb d15 d9 hzs
  unfold ptr
  go_enter Tryz.func238, Tryz.ntmps238
  go_upto_region 1 with fail
  rw [← HW.out]
  go_cut [3] from 4 (fun s wr => ∃ x z s1, s = .pointer (some ⟨x, 0, none⟩) ∧ Hid (A2 B p en w x [.int .i64 z, .int .i64 0, .int .i64 0, .slice none 0 0] s1 wr ∧ Res en st (findP (n.places.map PPlace.name)) s1 fun u => u = z))
  case first =>
    go_region_law (first
      | (go_simp; go_at_call 82; refine (KN.out wz.drew (Below.refl _ _).drew).mono ?_; rintro e w1 ⟨z, s1, he, h1, hr1, R1, -⟩; subst he; have KA : Hid (∀ cs ty, A2 B p en w w1.heap.size cs.toList s1 (w1.alloc (.cells cs ty))) := (fun cs ty => ⟨CB.new h1 ((RCh.of_below pl HZ.out.1).drew.trans hr1) pl cs ty, (HZ.out.2.2.ch (RCh.trans ((RCh.refl p wz).drew) hr1).1 (by show ¬ w.heap.size = p; omega)).below ((Below.refl _ _).alloc (Nat.le_refl _) _), by have := hr1.1.size; have := HZ.out.2.1; simp at *; omega⟩); have KB : Hid (Res en st (findP (n.places.map PPlace.name)) s1 fun u => u = z) := R1; clear h1 hr1 R1)
      | (go_simp; go_at_call 82; refine (KN.out (wz.alloc (.cells #[.int .i64 0, .int .i64 0, .int .i64 0, .slice none 0 0] 65)).drew ((Below.refl _ _).alloc (Nat.le_refl _) _).drew).mono ?_; rintro e w1 ⟨z, s1, he, h1, hr1, R1, -⟩; subst he; have KA : Hid (A2 B p en w wz.heap.size [.int .i64 0, .int .i64 0, .int .i64 0, .slice none 0 0] s1 w1) := (show A2 _ _ _ _ _ _ _ _ from ⟨⟨h1, (RCh.of_below pl (HZ.out.1.trans (((Below.refl wz.heap.size wz).alloc (Nat.le_refl _) (.cells #[.int .i64 0, .int .i64 0, .int .i64 0, .slice none 0 0] 65)).drew.mono (by have := HZ.out.2.1; omega)))).trans hr1, ((Bx.new wz #[.int .i64 0, .int .i64 0, .int .i64 0, .slice none 0 0] 65).below (Below.refl _ _).drew).ch hr1.1 (by show ¬ wz.heap.size = p; have := HZ.out.2.1; omega), by have := HZ.out.2.1; omega, pl⟩, (HZ.out.2.2.below ((Below.refl _ _).alloc (Nat.le_refl _) _).drew).ch hr1.1 (by show ¬ w.heap.size = p; omega), by have := HZ.out.2.1; omega⟩); have KB : Hid (Res en st (findP (n.places.map PPlace.name)) s1 fun u => u = z) := R1; obtain ⟨⟨g0, g1, g2, g3, gl⟩, f0, f1, f2, f3⟩ := four KA.out.1.2.2.1; clear h1 hr1 R1))
    all_goals
      go_wp2_with fail
      go_meet
      case rel =>
        refine ⟨_, z, s1, rfl, ?_⟩
        first
          | exact ⟨KA.out _ _, KB.out⟩
          | exact ⟨(((KA.out.st 0 _ (by simp)).st 1 _ (by simp)).st 2 _ (by simp)).st 3 _ (by simp), KB.out⟩
  case rest =>
    obtain ⟨x, z, s1, rfl, HC⟩ := hcut
    clear KN HZ HW e0 e10 qz pz wz
    have d0 : wc.cell? ⟨q, 0, none⟩ = some (.pointer (some ⟨p, 0, none⟩)) := (H0.out.on HC.out.1.1.1 HC.out.1.1.2.1).cells.1
    have ql : q < wc.heap.size := (H0.out.on HC.out.1.1.1 HC.out.1.1.2.1).cells.2.2.2.2.1
    go_wp2_with fail
    refine (must_l B p en s1 _ [40] wc HC.out.1.1.1 rfl (by decide)).mono ?_
    rintro e w2 ⟨he, s2, h2, hr2, R2⟩
    subst he
    have K2 : Hid (A2 B p en w x [.int .i64 z, .int .i64 0, .int .i64 0, .slice none 0 0] s2 w2 ∧ Res en s1 (wantP [40]) s2 fun _ => True) := ⟨HC.out.1.on h2 hr2, R2⟩
    have T2 : Hid (TPre B L w2 p q en s2 n mN t m) := H0.out.on K2.out.1.1.1 K2.out.1.1.2.1
    clear h2 hr2 R2 d0 ql
    go_wp2_with fail
    refine (texpr_any B L p q en s2 n mN t m w2 T2.out).mono ?_
    rintro e w3 ⟨t3, a3, c3, s3, he, hx3, h3, hr3, R3⟩
    subst he
    have hw2 : w.heap.size ≤ w2.heap.size := K2.out.1.1.2.1.1.size
    have hx2 : x < w2.heap.size := K2.out.1.1.2.2.1.2.2
    have K3 : Hid (A2 B p en w x [.int .i64 z, .int .i64 0, .int .i64 0, .slice none 0 0] s3 w3) := K2.out.1.on h3 hr3
    have X3 : Hid (XG (fun b _ => w2.heap.size ≤ b) w3 t3 a3 ∧ Res en s2 (exprP (t.vars.map Prod.fst)) s3 fun u => u = t3) := ⟨hx3, R3⟩
    obtain ⟨⟨g0, g1, g2, g3, gl⟩, f0, f1, f2, f3⟩ := four K3.out.1.2.2.1
    have K4 : Hid (A2 B p en w x [.int .i64 z, .int .i64 t3.kind, .int .i64 t3.num, .slice a3 t3.kids.length c3] s3 (((w3.setCell ⟨x, 1, none⟩ (.int .i64 t3.kind)).setCell ⟨x, 2, none⟩ (.int .i64 t3.num)).setCell ⟨x, 3, none⟩ (.slice a3 t3.kids.length c3))) := ((K3.out.st 1 _ (by simp)).st 2 _ (by simp)).st 3 _ (by simp)
    have X4 : Hid (XG (fun b _ => w2.heap.size ≤ b) (((w3.setCell ⟨x, 1, none⟩ (.int .i64 t3.kind)).setCell ⟨x, 2, none⟩ (.int .i64 t3.num)).setCell ⟨x, 3, none⟩ (.slice a3 t3.kids.length c3)) t3 a3) := xg_ch (M := fun b => b = x) X3.out.1 ((((Ch.refl (fun b => b = x) w3).setCell (b := x) (o := 1) (.inl rfl) _).setCell (b := x) (o := 2) (.inl rfl) _).setCell (b := x) (o := 3) (.inl rfl) _) (fun b hb => by subst hb; exact hx2)
    have d0 : w3.cell? ⟨q, 0, none⟩ = some (.pointer (some ⟨p, 0, none⟩)) := (H0.out.on K3.out.1.1 K3.out.1.2.1).cells.1
    have ql : q < w3.heap.size := (H0.out.on K3.out.1.1 K3.out.1.2.1).cells.2.2.2.2.1
    have hqx : ¬ q = x := by have := H0.out.cells.2.2.2.2.1; have := K3.out.2.2; omega
    have hxq : ¬ x = q := fun e => hqx e.symm
    clear hx3 h3 hr3 R3 T2
    go_wp2_with fail
    refine (must_l B p en s3 _ [41] _ K4.out.1.1 rfl (by decide)).mono ?_
    rintro e w5 ⟨he, s5, h5, hr5, R5⟩
    subst he
    have K5 : Hid (A2 B p en w x [.int .i64 z, .int .i64 t3.kind, .int .i64 t3.num, .slice a3 t3.kids.length c3] s5 w5) := K4.out.on h5 hr5
    have X5 : Hid (XG (fun b _ => w2.heap.size ≤ b) w5 t3 a3) := xg_ch X4.out hr5.1 (fun b hb => by have hb : b = p := hb; omega)
    have RR : Hid (Res en st (arcP n (t.vars.map Prod.fst)) s5 fun u => u = (z, t3)) := arc_res HC.out.2 K2.out.2 X3.out.2 R5
    clear h5 hr5 R5 g0 g1 g2 g3 gl f0 f1 f2 f3 d0 ql
    obtain ⟨⟨g0, g1, g2, g3, gl⟩, -⟩ := four K5.out.1.2.2.1
    obtain ⟨⟨y0, y1, y2, y3, yl⟩, f0, f1, f2, f3⟩ := four K5.out.2.1
    have FIN : Hid (∀ v0 v1 v2 v3 : Value, RS B ((((w5.setCell ⟨w.heap.size, 0, none⟩ v0).setCell ⟨w.heap.size, 1, none⟩ v1).setCell ⟨w.heap.size, 2, none⟩ v2).setCell ⟨w.heap.size, 3, none⟩ v3) p en s5 ∧ RCh p w ((((w5.setCell ⟨w.heap.size, 0, none⟩ v0).setCell ⟨w.heap.size, 1, none⟩ v1).setCell ⟨w.heap.size, 2, none⟩ v2).setCell ⟨w.heap.size, 3, none⟩ v3) ∧ XG (fun b _ => w.heap.size ≤ b) ((((w5.setCell ⟨w.heap.size, 0, none⟩ v0).setCell ⟨w.heap.size, 1, none⟩ v1).setCell ⟨w.heap.size, 2, none⟩ v2).setCell ⟨w.heap.size, 3, none⟩ v3) t3 a3) := fun v0 v1 v2 v3 => by
      have hc : Ch (fun y => y = w.heap.size) w5 ((((w5.setCell ⟨w.heap.size, 0, none⟩ v0).setCell ⟨w.heap.size, 1, none⟩ v1).setCell ⟨w.heap.size, 2, none⟩ v2).setCell ⟨w.heap.size, 3, none⟩ v3) := ((((Ch.refl (fun y => y = w.heap.size) w5).setCell (b := w.heap.size) (o := 0) (.inl rfl) v0).setCell (b := w.heap.size) (o := 1) (.inl rfl) v1).setCell (b := w.heap.size) (o := 2) (.inl rfl) v2).setCell (b := w.heap.size) (o := 3) (.inl rfl) v3
      have hB := K5.out.1.1.1.1
      exact ⟨K5.out.1.1.ch hc (fun b hb => by subst hb; omega) (by omega), rch_own (L := w.heap.size) (Nat.le_refl _) K5.out.1.2.1 (hc.mono fun b _ e => by omega) pl, xg_up (xg_ch X5.out hc (fun b hb => by have hb : b = w.heap.size := hb; have := K5.out.2.2; omega)) hw2⟩
    have nxz : ¬ x = w.heap.size := by have := K5.out.2.2; omega
    have nzx : ¬ w.heap.size = x := fun e => nxz e.symm
    clear K3 K4 K5 X3 X4 X5 K2 HC H0
    go_wp2_with fail
    refine bodyPost_ret (v := .agg #[.int .i64 z, .int .i64 t3.kind, .int .i64 t3.num, .slice a3 t3.kids.length c3]) ?_ rfl ⟨z, t3, a3, c3, s5, rfl, (FIN.out _ _ _ _).2.2, (FIN.out _ _ _ _).1, (FIN.out _ _ _ _).2.1, RR.out⟩
    simp [results, Tryz.results238, go_sem, y0, y1, y2, y3]
end Go.Proofs.YtjcanodnlnodpaaGreatDoor.Parse
