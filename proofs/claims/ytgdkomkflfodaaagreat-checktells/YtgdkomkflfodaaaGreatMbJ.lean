/- Contracts and plain mathematics, together: ChkSml, ChkSmall. -/
import Derived.Test.YtgdkomkflfodaaaGreatMbF
import Derived.Test.YtgdkomkflfodaaaGreatMbI
/- The small case of the laws of layer 8: over the turned program. -/
namespace Go.Proofs.YtgdkomkflfodaaaGreat.Check
open Go.Proofs.YtgdkomkflfodaaaGreat.Dag Go.RowKit Go.Proofs.YtgdkomkflfodaaaGreat.Frame Go.Proofs.YtgdkomkflfodaaaGreat.Colour Go.Proofs.YtgdkomkflfodaaaGreat.Expr
set_option linter.unusedVariables false
set_option linter.unusedSimpArgs false

theorem som_sm (B : Nat) (c : Int) : Sm (somN B c) := by
  refine ⟨⟨by show 1 ≤ 1000000; omega, by show 3 ≤ 1000000; omega, by show 1 ≤ 1000000; omega⟩, fun p hp => ?_, fun t ht => ?_, fun c hc => ?_⟩
  · simp only [somN, List.mem_cons, List.not_mem_nil, or_false] at hp
    rcases hp with rfl | rfl | rfl <;> simp
  · simp only [somN, List.mem_cons, List.not_mem_nil, or_false] at ht
    subst ht
    simp [somT]
  · simp only [somN, List.mem_cons, List.not_mem_nil, or_false] at hc
    subst hc
    simp
theorem som_wrong (B : Nat) (c : Int) : wrongF (somN B c).cols = 1 := by kernel_rfl
theorem som_whole (B : Nat) (c : Int) : wholeF (somN B c) = 0 := by kernel_rfl
theorem som_place (B : Nat) : placeF (somN B 0) 0 = 0 ∧ placeF (somN B 0) 1 = 0 ∧ placeF (somN B 0) 2 = 0 := ⟨by kernel_rfl, by kernel_rfl, by kernel_rfl⟩
theorem right1 : Expr.rightB ((1 : Nat) : Int) ⟨1, 1, []⟩ = true := by
  unfold Expr.rightB
  rw [Expr.parts_eq]
  simp [Expr.depth_eq, Expr.size_eq, Expr.nodeB, Expr.mx, Expr.sm]
theorem right2 : Expr.rightB ((1 : Nat) : Int) ⟨2, 0, []⟩ = true := by
  unfold Expr.rightB
  rw [Expr.parts_eq]
  simp [Expr.depth_eq, Expr.size_eq, Expr.nodeB, Expr.mx, Expr.sm]
theorem som_arc (B : Nat) (c : Int) (p : Int) (hp : inB p 3 = true) : arcF (somN B c) ⟨p, ⟨2, 0, []⟩, none, 0⟩ 1 = 0 := by
  show firstNZ [errB (!inB p 3) 3, errB (!Expr.rightB ((1 : Nat) : Int) ⟨2, 0, []⟩) 1] = 0
  rw [right2, hp]
  rfl
theorem som_task (B : Nat) : taskF (somN B 0) 0 = 0 := by
  unfold taskF
  refine firstNZ_none fun j hj => ?_
  match j, hj with
  | 0, _ => show (taskL (somN B 0) 0 ((somN B 0).tasks.getD 0 nilTa)).getD 0 0 = 0; kernel_rfl
  | 1, _ => show (taskL (somN B 0) 0 ((somN B 0).tasks.getD 0 nilTa)).getD 1 0 = 0; kernel_rfl
  | 2, _ => show (taskL (somN B 0) 0 ((somN B 0).tasks.getD 0 nilTa)).getD 2 0 = 0; kernel_rfl
  | 3, _ => show (taskL (somN B 0) 0 ((somN B 0).tasks.getD 0 nilTa)).getD 3 0 = 0; kernel_rfl
  | 4, _ =>
    show errB (!Expr.rightB ((1 : Nat) : Int) ⟨1, 1, []⟩) 1 = 0
    rw [right1]
    rfl
  | 5, _ => show (taskL (somN B 0) 0 ((somN B 0).tasks.getD 0 nilTa)).getD 5 0 = 0; kernel_rfl
  | 6, _ =>
    refine eachF_none fun i hi => ?_
    have hi : i < 1 := hi
    obtain rfl : i = 0 := by omega
    exact som_arc B 0 0 (by decide)
  | 7, _ =>
    refine eachF_none fun i hi => ?_
    have hi : i < 1 := hi
    obtain rfl : i = 0 := by omega
    exact som_arc B 0 1 (by decide)
  | 8, _ => show (taskL (somN B 0) 0 ((somN B 0).tasks.getD 0 nilTa)).getD 8 0 = 0; kernel_rfl
  | 9, _ => show (taskL (somN B 0) 0 ((somN B 0).tasks.getD 0 nilTa)).getD 9 0 = 0; kernel_rfl
  | 10, _ => show (taskL (somN B 0) 0 ((somN B 0).tasks.getD 0 nilTa)).getD 10 0 = 0; kernel_rfl
theorem som_binds (B : Nat) : bindsF (somN B 0).cols ((somN B 0).tasks.getD 0 nilTa).vars = 4 := by kernel_rfl
theorem som_bad (B : Nat) : placeF (somN B 5) 0 = 3 := by kernel_rfl
theorem som_net (B : Nat) : NetIs (somN B 0) 0 0 0 := .inl ⟨rfl, rfl, rfl, fun i hi k hk => by
  match i, hi with
  | 0, _ => exact som_whole B 0
  | 1, _ =>
    have hk : k < 1 := hk
    show colF (wrongF (somN B 0).cols) k = 0
    rw [som_wrong]
    unfold colF errB
    rw [if_neg (by simp; omega)]
  | 2, _ =>
    have hk : k < 3 := hk
    show placeF (somN B 0) k = 0
    match k, hk with
    | 0, _ => exact (som_place B).1
    | 1, _ => exact (som_place B).2.1
    | 2, _ => exact (som_place B).2.2
  | 3, _ =>
    have hk : k < 1 := hk
    obtain rfl : k = 0 := by omega
    exact som_task B⟩
theorem som_netbad (B : Nat) : NetIs (somN B 5) 3 0 3 := .inr ⟨2, 0, by omega, by show 0 < 3; omega, rfl, rfl, (som_bad B).symm, by omega, fun j hj => absurd hj (Nat.not_lt_zero _), fun i hi k hk => by
  match i, hi with
  | 0, _ => exact som_whole B 5
  | 1, _ =>
    have hk : k < 1 := hk
    show colF (wrongF (somN B 5).cols) k = 0
    rw [som_wrong]
    unfold colF errB
    rw [if_neg (by simp; omega)]⟩
theorem som_told {B : Nat} {P T : Nat → Bool} (h : Told (somN B 0) P T) : trueL 3 P = [0, 1] ∧ trueL 1 T = [0] := by
  have r0 : Rp (somN B 0) 0 := Rp.ori (by show 0 < 3; omega) (.inl rfl)
  have i0 : TI (somN B 0) 0 0 := ⟨⟨0, ⟨2, 0, []⟩, none, 0⟩, List.mem_cons_self, rfl⟩
  have o1 : TO (somN B 0) 0 1 := ⟨⟨1, ⟨2, 0, []⟩, none, 0⟩, List.mem_cons_self, rfl⟩
  have r1 : Rp (somN B 0) 1 := Rp.step (t := 0) (p := 0) (by show 0 < 1; omega) (by show 0 < 3; omega) i0 r0 (by show 1 < 3; omega) o1
  have r2 : ¬ Rp (somN B 0) 2 := fun h2 => by
    have : (2 : Nat) < 2 := h2 (fun k => k < 2) ⟨fun k hk ho => by
      have hk : k < 3 := hk
      match k, hk with
      | 0, _ => omega
      | 1, _ => omega
      | 2, _ =>
        rcases ho with ho | ho
        · exact absurd ho (by show ¬ (0 : Int) = 2; omega)
        · exact absurd rfl ho, fun t ht p hp hi hs k hk ho => by
      have ht : t < 1 := ht
      obtain rfl : t = 0 := by omega
      obtain ⟨x, hx, hxk⟩ := ho
      have hx : x ∈ [(⟨1, ⟨2, 0, []⟩, none, 0⟩ : Ar)] := hx
      rw [List.mem_singleton] at hx
      subst hx
      have hxk : (1 : Int) = (k : Int) := hxk
      show k < 2
      omega⟩
    omega
  have t0 : Rt (somN B 0) 0 := ⟨0, by show 0 < 3; omega, r0, i0⟩
  have p0 : P 0 = true := (h.1 0 (by show 0 < 3; omega)).2 r0
  have p1 : P 1 = true := (h.1 1 (by show 1 < 3; omega)).2 r1
  have p2 : P 2 = false := by
    cases hp : P 2 with
    | false => rfl
    | true => exact absurd ((h.1 2 (by show 2 < 3; omega)).1 hp) r2
  have q0 : T 0 = true := (h.2 0 (by show 0 < 1; omega)).2 t0
  have e3 : List.range 3 = [0, 1, 2] := rfl
  have e1 : List.range 1 = [0] := rfl
  unfold trueL
  rw [e3, e1]
  simp [p0, p1, p2, q0]
/-- the calls at the small net -/
theorem som_net_any (B : Nat) (c kd at_ er : Int) (w : World) (h : SomM B c w) (hc : In64 c) (hn : NetIs (somN B c) kd at_ er) : Calls Tryz.prog 9 #[.agg (netC (somN B c))] w fun e w' => e = .returned (.tuple #[.agg #[.int .i64 kd, .int .i64 at_], .int .i64 er]) ∧ Below w.heap.size w w' := by
  refine (net_any (somN B c) w (h.ok hc) (som_sm B c)).mono ?_
  rintro e w' ⟨a, b, d, he, hi, hb⟩
  obtain ⟨rfl, rfl, rfl⟩ := hi.uniq hn
  exact ⟨he, hb⟩
def IRs (w w' : World) (a : Option Addr) (c : Nat) (l : List Int) : Prop := Ns w' a l ∧ Below w.heap.size w w'
theorem i64_nat {k : Nat} (h : k < 1000) : In64 (k : Int) := by unfold In64; omega
theorem som_reached (B : Nat) (w : World) (h : SomM B 0 w) : Calls Tryz.prog 15 #[.agg (netC (somN B 0))] w fun e w' => ∃ a1 c1 a2 c2, e = .returned (.tuple #[.slice a1 2 c1, .slice a2 1 c2]) ∧ Ns w' a1 [0, 1] ∧ Ns w' a2 [0] ∧ Below w.heap.size w w' := by
  refine (Reached_any (somN B 0) w (h.ok (i64_nat (k := 0) (by omega))) (som_sm B 0) (of_decide_eq_true (by kernel_rfl))).mono ?_
  rintro e w' ⟨P, T, a1, c1, a2, c2, he, ht, h1, h2⟩
  obtain ⟨e1, e2⟩ := som_told ht
  have e1 : trueL (somN B 0).places.length P = [0, 1] := e1
  have e2 : trueL (somN B 0).tasks.length T = [0] := e2
  rw [e1] at h1 he
  rw [e2] at h2 he
  exact ⟨a1, c1, a2, c2, he, h1.ns (fun z hz => by simp at hz; rcases hz with rfl | rfl <;> (unfold In64; omega)), h2.ns (fun z hz => by simp at hz; subst hz; unfold In64; omega), h1.2⟩
theorem som_takers (B : Nat) (w : World) (h : SomM B 0 w) : Calls Tryz.prog 23 #[.agg (netC (somN B 0)), .int .i64 0] w fun e w' => ∃ a c, e = .returned (.slice a 1 c) ∧ Ns w' a [0] ∧ Below w.heap.size w w' := by
  refine (Takers_any (somN B 0) 0 w (h.ok (i64_nat (k := 0) (by omega))) (som_sm B 0)).mono ?_
  rintro e w' ⟨a, c, he, h1⟩
  have e1 : (trueL (somN B 0).tasks.length fun k => arcB ((somN B 0).tasks.getD k nilTa).ins 0) = [0] := by kernel_rfl
  rw [e1] at h1 he
  exact ⟨a, c, he, h1.ns (fun z hz => by simp at hz; subst hz; unfold In64; omega), h1.2⟩
theorem som_givers (B : Nat) (w : World) (h : SomM B 0 w) : Calls Tryz.prog 24 #[.agg (netC (somN B 0)), .int .i64 0] w fun e w' => ∃ a c, e = .returned (.slice a 0 c) ∧ Below w.heap.size w w' := by
  refine (Givers_any (somN B 0) 0 w (h.ok (i64_nat (k := 0) (by omega))) (som_sm B 0)).mono ?_
  rintro e w' ⟨a, c, he, h1⟩
  have e1 : (trueL (somN B 0).tasks.length fun k => arcB ((somN B 0).tasks.getD k nilTa).outs 0) = [] := by kernel_rfl
  rw [e1] at h1 he
  exact ⟨a, c, he, h1.2⟩
theorem som_binds_any (B : Nat) (w : World) (h : SomM B 0 w) : Calls Tryz.prog 16 #[.agg (netC (somN B 0)), .int .i64 0] w fun e w' => e = .returned (.int .i64 4) ∧ Below w.heap.size w w' := by
  have := Binds_any (somN B 0) 0 w (h.ok (i64_nat (k := 0) (by omega))) (som_sm B 0)
  have e1 : (if inB 0 (somN B 0).tasks.length then bindsF (somN B 0).cols ((somN B 0).tasks.getD (0 : Int).toNat nilTa).vars else 0) = 4 := by kernel_rfl
  rw [e1] at this
  exact this
theorem som_task_any (B : Nat) (w : World) (h : SomM B 0 w) : Calls Tryz.prog 13 #[.agg (netC (somN B 0)), .int .i64 1] w fun e w' => e = .returned (.int .i64 3) ∧ Below w.heap.size w w' := by
  have := Task_any (somN B 0) 1 w (h.ok (i64_nat (k := 0) (by omega))) (som_sm B 0)
  have e1 : taskT (somN B 0) 1 = 3 := by kernel_rfl
  rw [e1] at this
  exact this
end Go.Proofs.YtgdkomkflfodaaaGreat.Check
/- The small case of the laws of layer 8, its walk: over the turned program. -/
namespace Go.Proofs.YtgdkomkflfodaaaGreat.Check
open Go.Proofs.YtgdkomkflfodaaaGreat.Dag Go.RowKit Go.Proofs.YtgdkomkflfodaaaGreat.Frame Go.Proofs.YtgdkomkflfodaaaGreat.Colour Go.Proofs.YtgdkomkflfodaaaGreat.Expr
set_option linter.unusedVariables false
set_option linter.unusedSimpArgs false

/-- the small net at its addresses -/
def Adr (B ac ap at_ : Nat) : Prop := ac = B + 1 + 1 + 1 ∧ ap = B + 1 + 1 + 1 + 1 + 1 ∧ at_ = B + 1 + 1 + 1 + 1 + 1 + 1 + 1 + 1 + 1
def BoxA (w : World) (q ac ap at_ : Nat) : Prop := w.cell? ⟨q, 0, none⟩ = some (.slice (some ⟨ac, 0, none⟩) 1 1) ∧ w.cell? ⟨q, 1, none⟩ = some (.slice (some ⟨ap, 0, none⟩) 3 3) ∧ w.cell? ⟨q, 2, none⟩ = some (.slice (some ⟨at_, 0, none⟩) 1 1) ∧ w.cell? ⟨q, 3, none⟩ = some (.int .i64 0) ∧ w.cell? ⟨q, 4, none⟩ = some (.int .i64 1)
theorem BoxA.below {w w' : World} {q ac ap at_ : Nat} (h : BoxA w q ac ap at_) (hb : Below w.heap.size w w') : BoxA w' q ac ap at_ := ⟨box_below h.1 hb, box_below h.2.1 hb, box_below h.2.2.1 hb, box_below h.2.2.2.1 hb, box_below h.2.2.2.2 hb⟩
theorem BoxA.new (w : World) (q ac ap at_ : Nat) (hq : q = w.heap.size) (T : TypeId) : BoxA (w.alloc (.cells #[.slice (some ⟨ac, 0, none⟩) 1 1, .slice (some ⟨ap, 0, none⟩) 3 3, .slice (some ⟨at_, 0, none⟩) 1 1, .int .i64 0, .int .i64 1] T)) q ac ap at_ := by
  refine ⟨?_, ?_, ?_, ?_, ?_⟩ <;> exact (World.cell?_alloc_at _ _ _ _ hq)
theorem some_adr (w : World) : Calls Tryz.prog 21 #[] w fun e w' => ∃ ac ap at_, Adr w.heap.size ac ap at_ ∧ e = .returned (.agg #[.slice (some ⟨ac, 0, none⟩) 1 1, .slice (some ⟨ap, 0, none⟩) 3 3, .slice (some ⟨at_, 0, none⟩) 1 1, .int .i64 0, .int .i64 1]) ∧ SomM w.heap.size 0 w' ∧ Below w.heap.size w w' := by
  refine (some_any w).mono ?_
  rintro e w' ⟨he, h⟩
  exact ⟨_, _, _, ⟨rfl, rfl, rfl⟩, he, h⟩
section
variable {B ac ap at_ : Nat}
theorem net_adr (c kd at1 er : Int) (w : World) (ha : Adr B ac ap at_) (h : SomM B c w) (hc : In64 c) (hn : NetIs (somN B c) kd at1 er) : Calls Tryz.prog 9 #[.agg #[.slice (some ⟨ac, 0, none⟩) 1 1, .slice (some ⟨ap, 0, none⟩) 3 3, .slice (some ⟨at_, 0, none⟩) 1 1, .int .i64 0, .int .i64 1]] w fun e w' => e = .returned (.tuple #[.agg #[.int .i64 kd, .int .i64 at1], .int .i64 er]) ∧ Below w.heap.size w w' := by
  obtain ⟨rfl, rfl, rfl⟩ := ha
  exact som_net_any B c kd at1 er w h hc hn
theorem reached_adr (w : World) (ha : Adr B ac ap at_) (h : SomM B 0 w) : Calls Tryz.prog 15 #[.agg #[.slice (some ⟨ac, 0, none⟩) 1 1, .slice (some ⟨ap, 0, none⟩) 3 3, .slice (some ⟨at_, 0, none⟩) 1 1, .int .i64 0, .int .i64 1]] w fun e w' => ∃ a1 c1 a2 c2, e = .returned (.tuple #[.slice a1 2 c1, .slice a2 1 c2]) ∧ Ns w' a1 [0, 1] ∧ Ns w' a2 [0] ∧ Below w.heap.size w w' := by
  obtain ⟨rfl, rfl, rfl⟩ := ha
  exact som_reached B w h
theorem takers_adr (w : World) (ha : Adr B ac ap at_) (h : SomM B 0 w) : Calls Tryz.prog 23 #[.agg #[.slice (some ⟨ac, 0, none⟩) 1 1, .slice (some ⟨ap, 0, none⟩) 3 3, .slice (some ⟨at_, 0, none⟩) 1 1, .int .i64 0, .int .i64 1], .int .i64 0] w fun e w' => ∃ a c, e = .returned (.slice a 1 c) ∧ Ns w' a [0] ∧ Below w.heap.size w w' := by
  obtain ⟨rfl, rfl, rfl⟩ := ha
  exact som_takers B w h
theorem givers_adr (w : World) (ha : Adr B ac ap at_) (h : SomM B 0 w) : Calls Tryz.prog 24 #[.agg #[.slice (some ⟨ac, 0, none⟩) 1 1, .slice (some ⟨ap, 0, none⟩) 3 3, .slice (some ⟨at_, 0, none⟩) 1 1, .int .i64 0, .int .i64 1], .int .i64 0] w fun e w' => ∃ a c, e = .returned (.slice a 0 c) ∧ Below w.heap.size w w' := by
  obtain ⟨rfl, rfl, rfl⟩ := ha
  exact som_givers B w h
theorem binds_adr (w : World) (ha : Adr B ac ap at_) (h : SomM B 0 w) : Calls Tryz.prog 16 #[.agg #[.slice (some ⟨ac, 0, none⟩) 1 1, .slice (some ⟨ap, 0, none⟩) 3 3, .slice (some ⟨at_, 0, none⟩) 1 1, .int .i64 0, .int .i64 1], .int .i64 0] w fun e w' => e = .returned (.int .i64 4) ∧ Below w.heap.size w w' := by
  obtain ⟨rfl, rfl, rfl⟩ := ha
  exact som_binds_any B w h
theorem task_adr (w : World) (ha : Adr B ac ap at_) (h : SomM B 0 w) : Calls Tryz.prog 13 #[.agg #[.slice (some ⟨ac, 0, none⟩) 1 1, .slice (some ⟨ap, 0, none⟩) 3 3, .slice (some ⟨at_, 0, none⟩) 1 1, .int .i64 0, .int .i64 1], .int .i64 1] w fun e w' => e = .returned (.int .i64 3) ∧ Below w.heap.size w w' := by
  obtain ⟨rfl, rfl, rfl⟩ := ha
  exact som_task_any B w h
end
/-- what stands while the small case goes on -/
def Ks (B ac ap at_ q : Nat) (w W : World) : Prop := Below w.heap.size w W ∧ Adr B ac ap at_ ∧ SomM B 0 W ∧ BoxA W q ac ap at_
theorem Ks.on {B ac ap at_ q : Nat} {w W W' : World} (h : Ks B ac ap at_ q w W) (hb : Below W.heap.size W W') : Ks B ac ap at_ q w W' := ⟨then_ h.1 hb, h.2.1, h.2.2.1.below hb, h.2.2.2.below hb⟩
theorem part_new (w : World) (a b : Int) (q : Nat) (hq : q = w.heap.size) (T : TypeId) : (w.alloc (.cells #[.int .i64 a, .int .i64 b] T)).cell? ⟨q, 0, none⟩ = some (.int .i64 a) ∧ (w.alloc (.cells #[.int .i64 a, .int .i64 b] T)).cell? ⟨q, 1, none⟩ = some (.int .i64 b) := by
  refine ⟨?_, ?_⟩ <;> exact (World.cell?_alloc_at _ _ _ _ hq)
/-- the small net with one number written into it -/
theorem SomM.written {B ac ap at_ q : Nat} {W : World} (ha : Adr B ac ap at_) (h : SomM B 0 W) (hq : BoxA W q ac ap at_) (hne : ap < q) : SomM B 5 (W.setCell ⟨ap, 1, none⟩ (.int .i64 5)) ∧ BoxA (W.setCell ⟨ap, 1, none⟩ (.int .i64 5)) q ac ap at_ := by
  have e : ∀ j, (W.setCell ⟨ap, 1, none⟩ (.int .i64 5)).cell? ⟨q, j, none⟩ = W.cell? ⟨q, j, none⟩ := fun j => cell_other (by omega)
  obtain ⟨rfl, rfl, rfl⟩ := ha
  exact ⟨h.store 5, (e 0).trans hq.1, (e 1).trans hq.2.1, (e 2).trans hq.2.2.1, (e 3).trans hq.2.2.2.1, (e 4).trans hq.2.2.2.2⟩
theorem SomM.place {B ac ap at_ : Nat} {W : World} (ha : Adr B ac ap at_) (h : SomM B 0 W) : W.cell? ⟨ap, 1, none⟩ = some (.int .i64 0) ∧ W.frozen? ⟨ap, 1, none⟩ = false ∧ ap < W.heap.size := by
  obtain ⟨rfl, rfl, rfl⟩ := ha
  obtain ⟨h3, h4, h5, h6, h7, h8, h9⟩ := h
  exact ⟨h5.cell (i := 1) (by decide), h5.frozen 1, h5.lt⟩
theorem nm_of {w : World} {a : Option Addr} {l : List Int} (h : Ns w a l) : Nm w a l.length l := by
  refine ⟨⟨rfl, fun i hi => ?_⟩, ?_⟩
  · obtain ⟨b, off, _, _, hk⟩ := RowM.at h hi
    exact hk
  · rcases h with h | ⟨b, off, ha, h⟩
    · exact .inl h
    · exact .inr ⟨b, off, ha, fun i hi => by
        have := (h i hi).1 0 _ rfl
        rw [Nat.mul_one, Nat.add_zero] at this
        exact this⟩
theorem nm_new1 (W : World) (z : Int) (hz : In64 z) (T : TypeId) : Nm (W.alloc (.cells #[.int .i64 z] T)) (some ⟨W.heap.size, 0, none⟩) 1 [z] :=
  ⟨⟨rfl, fun i hi => by match i, hi with | 0, _ => exact hz⟩, .inr ⟨_, 0, rfl, fun i hi => by match i, hi with | 0, _ => exact World.cell?_alloc_at _ _ _ _ rfl⟩⟩
theorem nm_new2 (W : World) (z y : Int) (hz : In64 z) (hy : In64 y) (T : TypeId) : Nm (W.alloc (.cells #[.int .i64 z, .int .i64 y] T)) (some ⟨W.heap.size, 0, none⟩) 2 [z, y] :=
  ⟨⟨rfl, fun i hi => by match i, hi with | 0, _ => exact hz | 1, _ => exact hy⟩, .inr ⟨_, 0, rfl, fun i hi => by match i, hi with | 0, _ => exact World.cell?_alloc_at _ _ _ _ rfl | 1, _ => exact World.cell?_alloc_at _ _ _ _ rfl⟩⟩
theorem al_ (W : World) (o : Obj) : Below W.heap.size W (W.alloc o) := (Below.refl _ _).alloc (Nat.le_refl _) _
theorem eqI1 : eqI [0] [0] = true := by decide
theorem eqI2 : eqI [0, 1] [0, 1] = true := by decide
/-- two lists of one, and of two numbers are the same -/
theorem ints_1 (a : Option Addr) (c c' : Nat) (W : World) (h : Ns W a [0]) (T : TypeId) : Calls Tryz.prog 22 #[.slice a 1 c, .slice (some ⟨W.heap.size, 0, none⟩) 1 c'] (W.alloc (.cells #[.int .i64 0] T)) fun e w' => e = .returned (.bool true) ∧ Below W.heap.size W w' := by
  refine (ints_any a _ 1 c 1 c' [0] [0] _ (nm_of (h.below (al_ W _))) (nm_new1 W 0 (i64_nat (k := 0) (by omega)) T) (by omega) (by omega)).mono ?_
  rintro e w' ⟨he, hb⟩
  exact ⟨by rw [he, eqI1], then_ (al_ W _) hb⟩
theorem ints_2 (a : Option Addr) (c c' : Nat) (W : World) (h : Ns W a [0, 1]) (T : TypeId) : Calls Tryz.prog 22 #[.slice a 2 c, .slice (some ⟨W.heap.size, 0, none⟩) 2 c'] (W.alloc (.cells #[.int .i64 0, .int .i64 1] T)) fun e w' => e = .returned (.bool true) ∧ Below W.heap.size W w' := by
  refine (ints_any a _ 2 c 2 c' [0, 1] [0, 1] _ (nm_of (h.below (al_ W _))) (nm_new2 W 0 1 (i64_nat (k := 0) (by omega)) (i64_nat (k := 1) (by omega)) T) (by omega) (by omega)).mono ?_
  rintro e w' ⟨he, hb⟩
  exact ⟨by rw [he, eqI2], then_ (al_ W _) hb⟩
def Kt (B ac ap at_ q : Nat) (w W : World) (a1 a2 : Option Addr) : Prop := Ks B ac ap at_ q w W ∧ Ns W a1 [0, 1] ∧ Ns W a2 [0]
theorem Kt.on {B ac ap at_ q : Nat} {w W W' : World} {a1 a2 : Option Addr} (h : Kt B ac ap at_ q w W a1 a2) (hb : Below W.heap.size W W') : Kt B ac ap at_ q w W' a1 a2 := ⟨h.1.on hb, h.2.1.below hb, h.2.2.below hb⟩
set_option maxRecDepth 100000 in
set_option maxHeartbeats 4000000 in
theorem small_any (w : World) : Calls Tryz.prog 7 #[] w fun e w' => e = .returned (.bool true) ∧ Below w.heap.size w w' := by
  go_enter Tryz.func7, Tryz.ntmps7
  go_wp2_with fail
  refine (some_adr w).mono ?_
  rintro e w1 ⟨ac, ap, at_, ha, he, hm, hb⟩
  subst he
  go_upto_region 2 with fail
  obtain ⟨q, hq⟩ : ∃ q, q = w1.heap.size := ⟨_, rfl⟩
  obtain ⟨w2, hw2⟩ : ∃ w2, w2 = w1.alloc (.cells #[.slice (some ⟨ac, 0, none⟩) 1 1, .slice (some ⟨ap, 0, none⟩) 3 3, .slice (some ⟨at_, 0, none⟩) 1 1, .int .i64 0, .int .i64 1] 26) := ⟨_, rfl⟩
  have hb2 : Below w1.heap.size w1 w2 := by rw [hw2]; exact (Below.refl _ _).alloc (Nat.le_refl _) _
  have K2 : Hid (Ks w.heap.size ac ap at_ q w w2) := ⟨then_ hb hb2, ha, hm.below hb2, by rw [hw2]; exact BoxA.new _ _ _ _ _ hq _⟩
  rw [← hw2, ← hq]
  clear hw2 hq ha hm hb hb2
  obtain ⟨c0, c1, c2, c3, c4⟩ := K2.out.2.2.2
  go_wp2_with fail
  refine (net_adr 0 0 0 0 w2 K2.out.2.1 K2.out.2.2.1 (i64_nat (k := 0) (by omega)) (som_net _)).mono ?_
  rintro e w3 ⟨he, hb3⟩
  subst he
  clear c0 c1 c2 c3 c4
  go_upto_region 3 with fail
  obtain ⟨w4, hw4⟩ : ∃ w4, w4 = w3.alloc (.cells #[.int .i64 0, .int .i64 0] 30) := ⟨_, rfl⟩
  have K4 : Hid (Ks w.heap.size ac ap at_ q w w4) := (K2.out.on hb3).on (by rw [hw4]; exact (Below.refl _ _).alloc (Nat.le_refl _) _)
  rw [← hw4]
  clear hw4 hb3 K2
  go_wp2_with fail
  refine (some_adr w4).mono ?_
  rintro e w5 ⟨bc, bp, bt, ha, he, hm, hb⟩
  subst he
  go_upto_region 4 with fail
  obtain ⟨r, hr⟩ : ∃ r, r = w5.heap.size := ⟨_, rfl⟩
  obtain ⟨w6, hw6⟩ : ∃ w6, w6 = w5.alloc (.cells #[.slice (some ⟨bc, 0, none⟩) 1 1, .slice (some ⟨bp, 0, none⟩) 3 3, .slice (some ⟨bt, 0, none⟩) 1 1, .int .i64 0, .int .i64 1] 26) := ⟨_, rfl⟩
  have hb6 : Below w5.heap.size w5 w6 := by rw [hw6]; exact (Below.refl _ _).alloc (Nat.le_refl _) _
  have hlt : bp < r := by rw [hr]; exact (hm.place ha).2.2
  have K6 : Hid ((Adr w4.heap.size bc bp bt ∧ SomM w4.heap.size 0 w6 ∧ BoxA w6 r bc bp bt ∧ bp < r) ∧ Below w4.heap.size w4 w6) := ⟨⟨ha, hm.below hb6, by rw [hw6]; exact BoxA.new _ _ _ _ _ hr _, hlt⟩, then_ hb hb6⟩
  rw [← hw6, ← hr]
  clear hw6 hr ha hm hb hb6 hlt
  obtain ⟨c0, c1, c2, c3, c4⟩ := K6.out.1.2.2.1
  obtain ⟨d0, d1, d2⟩ := K6.out.1.2.1.place K6.out.1.1
  go_upto_region 5 with fail
  obtain ⟨w7, hw7⟩ : ∃ w7, w7 = w6.setCell ⟨bp, 1, none⟩ (.int .i64 5) := ⟨_, rfl⟩
  have hb7 : Below w4.heap.size w4 w7 := by rw [hw7]; exact K6.out.2.setCell (p := ⟨bp, 1, none⟩) (by have := K6.out.1.1.2.1; show w4.heap.size ≤ bp; omega) _
  have HK7 := SomM.written K6.out.1.1 K6.out.1.2.1 K6.out.1.2.2.1 K6.out.1.2.2.2
  rw [← hw7] at HK7
  have K7 : Hid (Ks w.heap.size ac ap at_ q w w7 ∧ Adr w4.heap.size bc bp bt ∧ SomM w4.heap.size 5 w7 ∧ BoxA w7 r bc bp bt) := ⟨K4.out.on hb7, K6.out.1.1, HK7⟩
  rw [← hw7]
  clear hw7 hb7 HK7 K4 K6 c0 c1 c2 c3 c4 d0 d1 d2
  obtain ⟨c0, c1, c2, c3, c4⟩ := K7.out.2.2.2
  go_wp2_with fail
  refine (net_adr 5 3 0 3 w7 K7.out.2.1 K7.out.2.2.1 (i64_nat (k := 5) (by omega)) (som_netbad _)).mono ?_
  rintro e w8 ⟨he, hb8⟩
  subst he
  clear c0 c1 c2 c3 c4
  go_upto_region 6 with fail
  obtain ⟨p5, hp5⟩ : ∃ p5, p5 = w8.heap.size := ⟨_, rfl⟩
  obtain ⟨w9, hw9⟩ : ∃ w9, w9 = w8.alloc (.cells #[.int .i64 3, .int .i64 0] 30) := ⟨_, rfl⟩
  have K9 : Hid (Ks w.heap.size ac ap at_ q w w9 ∧ w9.cell? ⟨p5, 0, none⟩ = some (.int .i64 3) ∧ w9.cell? ⟨p5, 1, none⟩ = some (.int .i64 0)) := ⟨(K7.out.1.on hb8).on (by rw [hw9]; exact (Below.refl _ _).alloc (Nat.le_refl _) _), by rw [hw9]; exact part_new w8 3 0 p5 hp5 _⟩
  rw [← hw9, ← hp5]
  clear hw9 hb8 K7 hp5
  obtain ⟨c0, c1, c2, c3, c4⟩ := K9.out.1.2.2.2
  go_wp2_with fail
  refine (reached_adr w9 K9.out.1.2.1 K9.out.1.2.2.1).mono ?_
  rintro e w10 ⟨a1, k1, a2, k2, he, n1, n2, hb10⟩
  subst he
  have K10 : Hid ((Ks w.heap.size ac ap at_ q w w10 ∧ w10.cell? ⟨p5, 0, none⟩ = some (.int .i64 3) ∧ w10.cell? ⟨p5, 1, none⟩ = some (.int .i64 0)) ∧ Ns w10 a1 [0, 1] ∧ Ns w10 a2 [0]) := ⟨⟨K9.out.1.on hb10, box_below K9.out.2.1 hb10, box_below K9.out.2.2 hb10⟩, n1, n2⟩
  clear n1 n2 hb10 K9 c0 c1 c2 c3 c4
  go_upto_region 7 with fail
  obtain ⟨c0, c1, c2, c3, c4⟩ := K10.out.1.1.2.2.2
  obtain ⟨d0, d1⟩ := K10.out.1.2
  have KB : Hid (Kt w.heap.size ac ap at_ q w w10 a1 a2) := ⟨K10.out.1.1, K10.out.2.1, K10.out.2.2⟩
  clear K10
  go_wp2_with fail
  refine (binds_adr w10 KB.out.1.2.1 KB.out.1.2.2.1).mono ?_
  rintro e w11 ⟨he, hb⟩
  subst he
  have KC : Hid (Kt w.heap.size ac ap at_ q w w11 a1 a2) := KB.out.on hb
  clear KB hb c0 c1 c2 c3 c4 d0 d1
  obtain ⟨c0, c1, c2, c3, c4⟩ := KC.out.1.2.2.2
  go_wp2_with fail
  refine (takers_adr w11 KC.out.1.2.1 KC.out.1.2.2.1).mono ?_
  rintro e w12 ⟨a3, k3, he, n3, hb⟩
  subst he
  have KD : Hid (Kt w.heap.size ac ap at_ q w w12 a1 a2 ∧ Ns w12 a3 [0]) := ⟨KC.out.on hb, n3⟩
  clear KC hb n3 c0 c1 c2 c3 c4
  go_wp2_with fail
  refine (ints_1 a3 _ _ w12 KD.out.2 _).mono ?_
  rintro e w13 ⟨he, hb⟩
  subst he
  have KE : Hid (Kt w.heap.size ac ap at_ q w w13 a1 a2) := KD.out.1.on hb
  clear KD hb
  obtain ⟨c0, c1, c2, c3, c4⟩ := KE.out.1.2.2.2
  go_wp2_with fail
  refine (givers_adr w13 KE.out.1.2.1 KE.out.1.2.2.1).mono ?_
  rintro e w14 ⟨a4, k4, he, hb⟩
  subst he
  have KF : Hid (Kt w.heap.size ac ap at_ q w w14 a1 a2) := KE.out.on hb
  clear KE hb c0 c1 c2 c3 c4
  go_wp2_with fail
  refine (ints_2 a1 _ _ w14 KF.out.2.1 _).mono ?_
  rintro e w15 ⟨he, hb⟩
  subst he
  have KG : Hid (Kt w.heap.size ac ap at_ q w w15 a1 a2) := KF.out.on hb
  clear KF hb
  go_wp2_with fail
  refine (ints_1 a2 _ _ w15 KG.out.2.2 _).mono ?_
  rintro e w16 ⟨he, hb⟩
  subst he
  have KH : Hid (Kt w.heap.size ac ap at_ q w w16 a1 a2) := KG.out.on hb
  clear KG hb
  obtain ⟨c0, c1, c2, c3, c4⟩ := KH.out.1.2.2.2
  go_wp2_with fail
  refine (task_adr w16 KH.out.1.2.1 KH.out.1.2.2.1).mono ?_
  rintro e w17 ⟨he, hb⟩
  subst he
  have KI : Hid (Below w.heap.size w w17) := then_ KH.out.1.1 hb
  clear KH hb c0 c1 c2 c3 c4
  go_wp2_with fail
  go_ret
  exact ⟨rfl, KI.out⟩
end Go.Proofs.YtgdkomkflfodaaaGreat.Check
