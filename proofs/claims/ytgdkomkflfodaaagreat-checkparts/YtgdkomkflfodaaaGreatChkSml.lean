/- The small case of the laws of layer 8: over the turned program. -/
import Derived.Test.YtgdkomkflfodaaaGreatChkSom
import Derived.Test.YtgdkomkflfodaaaGreatChkFew
namespace Go.Proofs.YtgdkomkflfodaaaGreat.Check
open Go.Proofs.YtgdkomkflfodaaaGreat.Dag Go.RowKit Go.Proofs.YtgdkomkflfodaaaGreat.Frame Go.Proofs.YtgdkomkflfodaaaGreat.Colour Go.Proofs.YtgdkomkflfodaaaGreat.Expr
set_option linter.unusedVariables false
set_option linter.unusedSimpArgs false

theorem som_sm (B : Nat) (c : Int) : Sm (somN B c) := by
  refine ⟨⟨by show 1 ≤ 1000000; omega, by show 3 ≤ 1000000; omega, by show 1 ≤ 1000000; omega⟩, fun p hp => ?_, fun t ht => ?_, fun c hc => ?_⟩
  · simp only [somN, List.mem_cons, List.not_mem_nil, or_false] at hp
    rcases hp with rfl | rfl | rfl <;> simp
  · simp only [somN, List.mem_cons, List.not_mem_nil, or_false] at ht
    subst ht
    simp [somT]
  · simp only [somN, List.mem_cons, List.not_mem_nil, or_false] at hc
    subst hc
    simp
theorem som_wrong (B : Nat) (c : Int) : wrongF (somN B c).cols = 1 := by kernel_rfl
theorem som_whole (B : Nat) (c : Int) : wholeF (somN B c) = 0 := by kernel_rfl
theorem som_place (B : Nat) : placeF (somN B 0) 0 = 0 ∧ placeF (somN B 0) 1 = 0 ∧ placeF (somN B 0) 2 = 0 := ⟨by kernel_rfl, by kernel_rfl, by kernel_rfl⟩
theorem right1 : Expr.rightB ((1 : Nat) : Int) ⟨1, 1, []⟩ = true := by
  unfold Expr.rightB
  rw [Expr.parts_eq]
  simp [Expr.depth_eq, Expr.size_eq, Expr.nodeB, Expr.mx, Expr.sm]
theorem right2 : Expr.rightB ((1 : Nat) : Int) ⟨2, 0, []⟩ = true := by
  unfold Expr.rightB
  rw [Expr.parts_eq]
  simp [Expr.depth_eq, Expr.size_eq, Expr.nodeB, Expr.mx, Expr.sm]
theorem som_arc (B : Nat) (c : Int) (p : Int) (hp : inB p 3 = true) : arcF (somN B c) ⟨p, ⟨2, 0, []⟩, none, 0⟩ 1 = 0 := by
  show firstNZ [errB (!inB p 3) 3, errB (!Expr.rightB ((1 : Nat) : Int) ⟨2, 0, []⟩) 1] = 0
  rw [right2, hp]
  rfl
theorem som_task (B : Nat) : taskF (somN B 0) 0 = 0 := by
  unfold taskF
  refine firstNZ_none fun j hj => ?_
  match j, hj with
  | 0, _ => show (taskL (somN B 0) 0 ((somN B 0).tasks.getD 0 nilTa)).getD 0 0 = 0; kernel_rfl
  | 1, _ => show (taskL (somN B 0) 0 ((somN B 0).tasks.getD 0 nilTa)).getD 1 0 = 0; kernel_rfl
  | 2, _ => show (taskL (somN B 0) 0 ((somN B 0).tasks.getD 0 nilTa)).getD 2 0 = 0; kernel_rfl
  | 3, _ => show (taskL (somN B 0) 0 ((somN B 0).tasks.getD 0 nilTa)).getD 3 0 = 0; kernel_rfl
  | 4, _ =>
    show errB (!Expr.rightB ((1 : Nat) : Int) ⟨1, 1, []⟩) 1 = 0
    rw [right1]
    rfl
  | 5, _ => show (taskL (somN B 0) 0 ((somN B 0).tasks.getD 0 nilTa)).getD 5 0 = 0; kernel_rfl
  | 6, _ =>
    refine eachF_none fun i hi => ?_
    have hi : i < 1 := hi
    obtain rfl : i = 0 := by omega
    exact som_arc B 0 0 (by decide)
  | 7, _ =>
    refine eachF_none fun i hi => ?_
    have hi : i < 1 := hi
    obtain rfl : i = 0 := by omega
    exact som_arc B 0 1 (by decide)
  | 8, _ => show (taskL (somN B 0) 0 ((somN B 0).tasks.getD 0 nilTa)).getD 8 0 = 0; kernel_rfl
  | 9, _ => show (taskL (somN B 0) 0 ((somN B 0).tasks.getD 0 nilTa)).getD 9 0 = 0; kernel_rfl
  | 10, _ => show (taskL (somN B 0) 0 ((somN B 0).tasks.getD 0 nilTa)).getD 10 0 = 0; kernel_rfl
theorem som_binds (B : Nat) : bindsF (somN B 0).cols ((somN B 0).tasks.getD 0 nilTa).vars = 4 := by kernel_rfl
theorem som_bad (B : Nat) : placeF (somN B 5) 0 = 3 := by kernel_rfl
theorem som_net (B : Nat) : NetIs (somN B 0) 0 0 0 := .inl ⟨rfl, rfl, rfl, fun i hi k hk => by
  match i, hi with
  | 0, _ => exact som_whole B 0
  | 1, _ =>
    have hk : k < 1 := hk
    show colF (wrongF (somN B 0).cols) k = 0
    rw [som_wrong]
    unfold colF errB
    rw [if_neg (by simp; omega)]
  | 2, _ =>
    have hk : k < 3 := hk
    show placeF (somN B 0) k = 0
    match k, hk with
    | 0, _ => exact (som_place B).1
    | 1, _ => exact (som_place B).2.1
    | 2, _ => exact (som_place B).2.2
  | 3, _ =>
    have hk : k < 1 := hk
    obtain rfl : k = 0 := by omega
    exact som_task B⟩
theorem som_netbad (B : Nat) : NetIs (somN B 5) 3 0 3 := .inr ⟨2, 0, by omega, by show 0 < 3; omega, rfl, rfl, (som_bad B).symm, by omega, fun j hj => absurd hj (Nat.not_lt_zero _), fun i hi k hk => by
  match i, hi with
  | 0, _ => exact som_whole B 5
  | 1, _ =>
    have hk : k < 1 := hk
    show colF (wrongF (somN B 5).cols) k = 0
    rw [som_wrong]
    unfold colF errB
    rw [if_neg (by simp; omega)]⟩
theorem som_told {B : Nat} {P T : Nat → Bool} (h : Told (somN B 0) P T) : trueL 3 P = [0, 1] ∧ trueL 1 T = [0] := by
  have r0 : Rp (somN B 0) 0 := Rp.ori (by show 0 < 3; omega) (.inl rfl)
  have i0 : TI (somN B 0) 0 0 := ⟨⟨0, ⟨2, 0, []⟩, none, 0⟩, List.mem_cons_self, rfl⟩
  have o1 : TO (somN B 0) 0 1 := ⟨⟨1, ⟨2, 0, []⟩, none, 0⟩, List.mem_cons_self, rfl⟩
  have r1 : Rp (somN B 0) 1 := Rp.step (t := 0) (p := 0) (by show 0 < 1; omega) (by show 0 < 3; omega) i0 r0 (by show 1 < 3; omega) o1
  have r2 : ¬ Rp (somN B 0) 2 := fun h2 => by
    have : (2 : Nat) < 2 := h2 (fun k => k < 2) ⟨fun k hk ho => by
      have hk : k < 3 := hk
      match k, hk with
      | 0, _ => omega
      | 1, _ => omega
      | 2, _ =>
        rcases ho with ho | ho
        · exact absurd ho (by show ¬ (0 : Int) = 2; omega)
        · exact absurd rfl ho, fun t ht p hp hi hs k hk ho => by
      have ht : t < 1 := ht
      obtain rfl : t = 0 := by omega
      obtain ⟨x, hx, hxk⟩ := ho
      have hx : x ∈ [(⟨1, ⟨2, 0, []⟩, none, 0⟩ : Ar)] := hx
      rw [List.mem_singleton] at hx
      subst hx
      have hxk : (1 : Int) = (k : Int) := hxk
      show k < 2
      omega⟩
    omega
  have t0 : Rt (somN B 0) 0 := ⟨0, by show 0 < 3; omega, r0, i0⟩
  have p0 : P 0 = true := (h.1 0 (by show 0 < 3; omega)).2 r0
  have p1 : P 1 = true := (h.1 1 (by show 1 < 3; omega)).2 r1
  have p2 : P 2 = false := by
    cases hp : P 2 with
    | false => rfl
    | true => exact absurd ((h.1 2 (by show 2 < 3; omega)).1 hp) r2
  have q0 : T 0 = true := (h.2 0 (by show 0 < 1; omega)).2 t0
  have e3 : List.range 3 = [0, 1, 2] := rfl
  have e1 : List.range 1 = [0] := rfl
  unfold trueL
  rw [e3, e1]
  simp [p0, p1, p2, q0]
/-- the calls at the small net -/
theorem som_net_any (B : Nat) (c kd at_ er : Int) (w : World) (h : SomM B c w) (hc : In64 c) (hn : NetIs (somN B c) kd at_ er) : Calls Tryz.prog 9 #[.agg (netC (somN B c))] w fun e w' => e = .returned (.tuple #[.agg #[.int .i64 kd, .int .i64 at_], .int .i64 er]) ∧ Below w.heap.size w w' := by
  refine (net_any (somN B c) w (h.ok hc) (som_sm B c)).mono ?_
  rintro e w' ⟨a, b, d, he, hi, hb⟩
  obtain ⟨rfl, rfl, rfl⟩ := hi.uniq hn
  exact ⟨he, hb⟩
def IRs (w w' : World) (a : Option Addr) (c : Nat) (l : List Int) : Prop := Ns w' a l ∧ Below w.heap.size w w'
theorem i64_nat {k : Nat} (h : k < 1000) : In64 (k : Int) := by unfold In64; omega
theorem som_reached (B : Nat) (w : World) (h : SomM B 0 w) : Calls Tryz.prog 15 #[.agg (netC (somN B 0))] w fun e w' => ∃ a1 c1 a2 c2, e = .returned (.tuple #[.slice a1 2 c1, .slice a2 1 c2]) ∧ Ns w' a1 [0, 1] ∧ Ns w' a2 [0] ∧ Below w.heap.size w w' := by
  refine (Reached_any (somN B 0) w (h.ok (i64_nat (k := 0) (by omega))) (som_sm B 0) (of_decide_eq_true (by kernel_rfl))).mono ?_
  rintro e w' ⟨P, T, a1, c1, a2, c2, he, ht, h1, h2⟩
  obtain ⟨e1, e2⟩ := som_told ht
  have e1 : trueL (somN B 0).places.length P = [0, 1] := e1
  have e2 : trueL (somN B 0).tasks.length T = [0] := e2
  rw [e1] at h1 he
  rw [e2] at h2 he
  exact ⟨a1, c1, a2, c2, he, h1.ns (fun z hz => by simp at hz; rcases hz with rfl | rfl <;> (unfold In64; omega)), h2.ns (fun z hz => by simp at hz; subst hz; unfold In64; omega), h1.2⟩
theorem som_takers (B : Nat) (w : World) (h : SomM B 0 w) : Calls Tryz.prog 23 #[.agg (netC (somN B 0)), .int .i64 0] w fun e w' => ∃ a c, e = .returned (.slice a 1 c) ∧ Ns w' a [0] ∧ Below w.heap.size w w' := by
  refine (Takers_any (somN B 0) 0 w (h.ok (i64_nat (k := 0) (by omega))) (som_sm B 0)).mono ?_
  rintro e w' ⟨a, c, he, h1⟩
  have e1 : (trueL (somN B 0).tasks.length fun k => arcB ((somN B 0).tasks.getD k nilTa).ins 0) = [0] := by kernel_rfl
  rw [e1] at h1 he
  exact ⟨a, c, he, h1.ns (fun z hz => by simp at hz; subst hz; unfold In64; omega), h1.2⟩
theorem som_givers (B : Nat) (w : World) (h : SomM B 0 w) : Calls Tryz.prog 24 #[.agg (netC (somN B 0)), .int .i64 0] w fun e w' => ∃ a c, e = .returned (.slice a 0 c) ∧ Below w.heap.size w w' := by
  refine (Givers_any (somN B 0) 0 w (h.ok (i64_nat (k := 0) (by omega))) (som_sm B 0)).mono ?_
  rintro e w' ⟨a, c, he, h1⟩
  have e1 : (trueL (somN B 0).tasks.length fun k => arcB ((somN B 0).tasks.getD k nilTa).outs 0) = [] := by kernel_rfl
  rw [e1] at h1 he
  exact ⟨a, c, he, h1.2⟩
theorem som_binds_any (B : Nat) (w : World) (h : SomM B 0 w) : Calls Tryz.prog 16 #[.agg (netC (somN B 0)), .int .i64 0] w fun e w' => e = .returned (.int .i64 4) ∧ Below w.heap.size w w' := by
  have := Binds_any (somN B 0) 0 w (h.ok (i64_nat (k := 0) (by omega))) (som_sm B 0)
  have e1 : (if inB 0 (somN B 0).tasks.length then bindsF (somN B 0).cols ((somN B 0).tasks.getD (0 : Int).toNat nilTa).vars else 0) = 4 := by kernel_rfl
  rw [e1] at this
  exact this
theorem som_task_any (B : Nat) (w : World) (h : SomM B 0 w) : Calls Tryz.prog 13 #[.agg (netC (somN B 0)), .int .i64 1] w fun e w' => e = .returned (.int .i64 3) ∧ Below w.heap.size w w' := by
  have := Task_any (somN B 0) 1 w (h.ok (i64_nat (k := 0) (by omega))) (som_sm B 0)
  have e1 : taskT (somN B 0) 1 = 3 := by kernel_rfl
  rw [e1] at this
  exact this
end Go.Proofs.YtgdkomkflfodaaaGreat.Check
