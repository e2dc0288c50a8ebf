/- The writers of package expr: an operation between its kids. -/
import Derived.Test.YtjcanodnlnodpaaGreatDoorMText
import Derived.Deep.Cut
import Derived.StillTailTactics
namespace Go.Proofs.YtjcanodnlnodpaaGreatDoor.Expr
open Go.RowKit Go.Proofs.YtjcanodnlnodpaaGreatDoor.Frame Go.Proofs.YtjcanodnlnodpaaGreatDoor.Calc
set_option linter.unusedVariables false
set_option linter.unusedSimpArgs false

/-- three boxes of the call's own, and what lies below -/
def Boxes (w wc : World) (pa pb : Nat) (b0 b1 b2 : Array Value) : Prop := wc.heap[w.heap.size]? = some (.cells b0 40) ∧ wc.heap[pa]? = some (.cells b1 40) ∧ wc.heap[pb]? = some (.cells b2 40) ∧ Below w.heap.size w wc
theorem hA (w : World) (o : Obj) (n : Nat) (h : n = w.heap.size) : (w.alloc o).heap[n]? = some o := by subst h; exact hp1 w o
theorem hA2 (w : World) (o : Obj) (n : Nat) (h : n < w.heap.size) : (w.alloc o).heap[n]? = w.heap[n]? := Below.heap_alloc w o n h
theorem hD (w : World) : w.drew.heap = w.heap := rfl
theorem hS2 (w : World) (b c j : Nat) (v : Value) (h : ¬ b = c) : (w.setCell ⟨b, j, none⟩ v).heap[c]? = w.heap[c]? := Below.heap_setCell _ _ _ _ (fun e => h e.symm)
theorem boxS {w : World} {C : Nat} {u0 u1 u2 : Value} {t : TypeId} {fz : Nat × Nat} (h : w.heap[C]? = some (.cells #[u0, u1, u2] t fz)) : w.cell? ⟨C, 0, none⟩ = some u0 ∧ w.cell? ⟨C, 1, none⟩ = some u1 ∧ w.cell? ⟨C, 2, none⟩ = some u2 := ⟨(box_cell h 0).trans rfl, (box_cell h 1).trans rfl, (box_cell h 2).trans rfl⟩
theorem mixed : Tryz.prog.follows .mixedOrders = true := by kernel_rfl
theorem undr {B : Nat} {u w : World} (h : Below B u.drew w) : Below B u w := ⟨h.os, h.tape, h.output, h.size, h.block⟩
/-- what kidAt tells in a region that draws -/
def KidIs (B : Nat) (w : World) (bx : Array Value) (C : Int → Array Value) : Prop := ∀ wx i, Below B w wx → i = 0 ∨ i = 1 → Calls Tryz.prog 209 #[.agg bx, .int .i64 i] wx fun e w' => e = .returned (.agg (C i)) ∧ w' = (wx.alloc (.cells bx 40)).alloc (.cells (C i) 40)

set_option maxRecDepth 100000 in
set_option maxHeartbeats 4000000 in
theorem tjoined_walk (n : Int) (nl : Nat) (B : Nat) (w : World) (a na a0 a1 : Option Addr) (c nc len c0 c1 : Nat) (x0 x1 : Ex) (bs q0 q1 : List UInt8) (v : Value) (C : Int → Array Value) (p0 p1 : Bool) (sg : ByteArray) (S : Int → Int) (CS : Hid (∀ m wx, Calls Tryz.prog 151 #[.int .i64 m] wx fun e w' => e = .returned (.int .i64 (S m)) ∧ w' = wx)) (hB : B ≤ w.heap.size) (hsg : Hid (signF n = sg))
   (CK : Hid (KidIs B w #[Value.int IntKind.i64 5, Value.int IntKind.i64 n, Value.slice a len c] C)) (V0 : Hid (C 0 = #[Value.int IntKind.i64 x0.kind, Value.int IntKind.i64 x0.num, Value.slice a0 x0.kids.length c0])) (V1 : Hid (C 1 = #[Value.int IntKind.i64 x1.kind, Value.int IntKind.i64 x1.num, Value.slice a1 x1.kids.length c1])) (R0 : Hid (Row B bs v w))
   (P0 : Hid (p0 = (isBin x0 && decide (S x0.num < S n)))) (P1 : Hid (p1 = (isBin x1 && decide (S x1.num ≤ S n))))
   (CB0 : Hid (∀ wx, Below w.heap.size w wx → Calls Tryz.prog 210 #[.slice na nl nc, v, .agg #[Value.int IntKind.i64 x0.kind, Value.int IntKind.i64 x0.num, Value.slice a0 x0.kids.length c0], .bool p0] wx (TPost B (bs ++ q0) wx)))
   (CB1 : Hid (∀ wx vx, Below B w wx → Row B (bs ++ q0 ++ [32] ++ sg.data.toList ++ [32]) vx wx → Calls Tryz.prog 210 #[.slice na nl nc, vx, .agg #[Value.int IntKind.i64 x1.kind, Value.int IntKind.i64 x1.num, Value.slice a1 x1.kids.length c1], .bool p1] wx (TPost B (bs ++ q0 ++ [32] ++ sg.data.toList ++ [32] ++ q1) wx)))
   (hl : (bs ++ q0 ++ [32] ++ sg.data.toList ++ [32] ++ q1).length ≤ 1000000) :
    Calls Tryz.prog 167 #[.slice na nl nc, v, .agg #[Value.int IntKind.i64 5, Value.int IntKind.i64 n, Value.slice a len c]] w (TPost B (bs ++ q0 ++ [32] ++ sg.data.toList ++ [32] ++ q1) w) := by
  have L0 : Hid ((bs ++ q0).length ≤ 10000000) := by unfold Hid; simp only [List.length_append] at hl ⊢; omega
  have L1 : Hid ((bs ++ q0 ++ [32]).length + sg.data.toList.length ≤ 10000000) := by unfold Hid; simp only [List.length_append] at hl ⊢; omega
  have L2 : Hid ((bs ++ q0 ++ [32] ++ sg.data.toList).length ≤ 10000000) := by unfold Hid; simp only [List.length_append] at hl ⊢; omega
  clear hl
  go_enter Tryz.func167, Tryz.ntmps167
  go_upto_region 1 with (fail)
  go_cut [7, 8] from 10 (fun p7 p8 wc => ∃ pa pb : Nat, p7 = .pointer (some ⟨pa, 0, none⟩) ∧ p8 = .pointer (some ⟨pb, 0, none⟩) ∧ Hid (Boxes w wc pa pb #[Value.int IntKind.i64 5, Value.int IntKind.i64 n, Value.slice a len c] #[Value.int IntKind.i64 x0.kind, Value.int IntKind.i64 x0.num, Value.slice a0 x0.kids.length c0] #[Value.int IntKind.i64 x1.kind, Value.int IntKind.i64 x1.num, Value.slice a1 x1.kids.length c1]))
  case first =>
    clear CB0 CB1 P0 P1 L0 L1 L2 R0 hsg
    go_region_held3 (fun w' => w'.cell? ⟨w.heap.size, 0, none⟩ = some (.int .i64 5) ∧ w'.cell? ⟨w.heap.size, 1, none⟩ = some (.int .i64 n) ∧ w'.cell? ⟨w.heap.size, 2, none⟩ = some (.slice a len c)) (first | exact boxS (t := 40) (fz := (0, 0)) (by simp (disch := first | (simp [hD]; done) | (simp [hD]; omega)) only [hD, hA, hA2, hS2]) | go_keep)
      (first | (go_at_call 209; refine (CK.out _ _ (by (repeat' first | exact Below.refl _ _ | apply Below.drew | apply Below.alloc) <;> (first | exact hB | (simp; omega))) (by first | exact Or.inl rfl | exact Or.inr rfl)).mono ?_; rintro e wx ⟨he, hw⟩; (first | rw [V0.out] at he hw | rw [V1.out] at he hw); subst he; subst hw))
    all_goals
      go_wp2_with fail
      go_meet
      refine ⟨_, _, rfl, rfl, ?_, ?_, ?_, ?_⟩
      · simp (disch := first | (simp [hD]; done) | (simp [hD]; omega)) only [hD, hA, hA2, hS2]
      · simp (disch := first | (simp [hD]; done) | (simp [hD]; omega)) only [hD, hA, hA2, hS2]
      · simp (disch := first | (simp [hD]; done) | (simp [hD]; omega)) only [hD, hA, hA2, hS2]
      · (repeat' first | exact Below.refl _ _ | apply Below.drew | apply Below.alloc) <;> (first | exact Nat.le_refl _ | (simp; done) | (simp; omega))
  case rest =>
  obtain ⟨pa, pb, rfl, rfl, BX⟩ := hcut
  have R1 : Hid (Row B bs v wc) := R0.out.up BX.out.2.2.2
  have K1 : Hid (Keep B w wc) := Keep.of hB BX.out.2.2.2
  have be : Hid (wc.heap[w.heap.size]? = some (.cells #[Value.int IntKind.i64 5, Value.int IntKind.i64 n, Value.slice a len c] 40)) := BX.out.1
  have ba : Hid (wc.heap[pa]? = some (.cells #[Value.int IntKind.i64 x0.kind, Value.int IntKind.i64 x0.num, Value.slice a0 x0.kids.length c0] 40)) := BX.out.2.1
  have bb : Hid (wc.heap[pb]? = some (.cells #[Value.int IntKind.i64 x1.kind, Value.int IntKind.i64 x1.num, Value.slice a1 x1.kids.length c1] 40)) := BX.out.2.2.1
  have BL : Hid (Below w.heap.size w wc) := BX.out.2.2.2
  clear CK V0 V1 BX
  have be0 : wc.cell? ⟨w.heap.size, 0, none⟩ = some (Value.int IntKind.i64 5) := (box_cell be.out 0).trans rfl
  have be1 : wc.cell? ⟨w.heap.size, 1, none⟩ = some (Value.int IntKind.i64 n) := (box_cell be.out 1).trans rfl
  have be2 : wc.cell? ⟨w.heap.size, 2, none⟩ = some (Value.slice a len c) := (box_cell be.out 2).trans rfl
  have ba0 : wc.cell? ⟨pa, 0, none⟩ = some (Value.int IntKind.i64 x0.kind) := (box_cell ba.out 0).trans rfl
  have ba1 : wc.cell? ⟨pa, 1, none⟩ = some (Value.int IntKind.i64 x0.num) := (box_cell ba.out 1).trans rfl
  have ba2 : wc.cell? ⟨pa, 2, none⟩ = some (Value.slice a0 x0.kids.length c0) := (box_cell ba.out 2).trans rfl
  go_upto_region 3 with (go_at_call 151; refine (CS.out _ _).mono ?_; rintro e wx ⟨he, hw⟩; subst he; have hw := hw.symm; subst hw)
  go_cut [1] from 17 (fun v1 wd => Hid (Row B (bs ++ q0) v1 wd) ∧ Hid (Keep B wc wd))
  case first =>
    clear CB1 P1 L0 L1 L2 R0 bb be0 be1 be2
    refine wp_region_still_tail 13 mixed (by kernel_rfl) ?_
    change wpStill _ _ wc.drew (fun a' => wpList _ _ _ _ a' wc.drew) _ _
    simp only [List.take_succ_cons, List.take_zero, List.drop_succ_cons, List.drop_zero]
    have d0 : wc.drew.cell? ⟨pa, 0, none⟩ = some (Value.int IntKind.i64 x0.kind) := ba0
    have d1 : wc.drew.cell? ⟨pa, 1, none⟩ = some (Value.int IntKind.i64 x0.num) := ba1
    have d2 : wc.drew.cell? ⟨pa, 2, none⟩ = some (Value.slice a0 x0.kids.length c0) := ba2
    have CX : Hid (Calls Tryz.prog 210 #[.slice na nl nc, v, .agg #[Value.int IntKind.i64 x0.kind, Value.int IntKind.i64 x0.num, Value.slice a0 x0.kids.length c0], .bool p0] wc.drew fun e wd => ∃ v1, e = .returned v1 ∧ Hid (Row B (bs ++ q0) v1 wd) ∧ Hid (Keep B wc wd)) := (CB0.out _ BL.out.drew).mono fun e wd h => by
      obtain ⟨v1, he, hr, hk'⟩ := h
      exact ⟨v1, he, hr, undr hk'.1, fun k o h => hk'.2 k o h⟩
    clear ba0 ba1 ba2 CB0 ba
    generalize wc.drew = W at d0 d1 d2 CX ⊢
    by_cases hk : x0.kind = 5
    · have hp : p0 = decide (S x0.num < S n) := by rw [P0.out]; unfold isBin; rw [hk]; rfl
      subst hp
      clear P0
      obtain ⟨k0, n0, ks0⟩ := x0
      simp only at hk
      subst hk
      simp only at d0 d1 d2 CX ⊢
      generalize ks0.length = l0 at *
      repeat still_step
      still_call (CS.out _ _)
      repeat still_step
      refine wpStill_nil ?_
      go_wp2_with (go_at_call 210; refine CX.out.mono ?_; rintro e wd ⟨v1, he, R2, K2⟩; subst he)
      go_meet
      exact ⟨R2, K2⟩
    · have hkb : (x0.kind == 5) = false := by simpa using hk
      have hp : p0 = false := by rw [P0.out]; unfold isBin; simp [hk]
      subst hp
      clear P0
      repeat still_step
      refine wpStill_nil ?_
      go_wp2_with (go_at_call 210; refine CX.out.mono ?_; rintro e wd ⟨v1, he, R2, K2⟩; subst he)
      go_meet
      exact ⟨R2, K2⟩
  case rest =>
  obtain ⟨R2, K2'⟩ := hcut
  have K2 : Hid (Keep B w wc) := K1.out.trans K2'.out
  have be2 : Hid (wc.heap[w.heap.size]? = some (.cells #[Value.int IntKind.i64 5, Value.int IntKind.i64 n, Value.slice a len c] 40)) := K2'.out.box be.out
  have bb2 : Hid (wc.heap[pb]? = some (.cells #[Value.int IntKind.i64 x1.kind, Value.int IntKind.i64 x1.num, Value.slice a1 x1.kids.length c1] 40)) := K2'.out.box bb.out
  clear be0 be1 ba0 ba1 ba2 be ba bb CB0 P0 R0 R1 K1 K2' BL
  go_wp2_with (at_builtin; refine wp_app1 (B := B) (bs := bs ++ q0) (z := 32) 32 rfl _ _ rfl rfl rfl rfl (R2.out.up (al1 _ _)) (by simp) L0.out ?_; intro v3 w3 hr hk; have R3 : Hid (Row B (bs ++ q0 ++ [32]) v3 w3) := hr; have K3 : Hid (Keep B w w3) := (K2.out.then R2.out.2 (al1 _ _)).trans hk; have be3 : Hid (w3.heap[w.heap.size]? = some (.cells #[Value.int IntKind.i64 5, Value.int IntKind.i64 n, Value.slice a len c] 40)) := hk.box (hpU be2.out _); have bb3 : Hid (w3.heap[pb]? = some (.cells #[Value.int IntKind.i64 x1.kind, Value.int IntKind.i64 x1.num, Value.slice a1 x1.kids.length c1] 40)) := hk.box (hpU bb2.out _); clear hr hk; refine Hid.out ?_)
  refine Lib.hid ?_
  have e1 : w3.cell? ⟨w.heap.size, 1, none⟩ = some (Value.int IntKind.i64 n) := (box_cell be3.out 1).trans rfl
  clear R2 K2 be2 bb2
  go_wp2_with (first | (go_at_call 211; refine (sign_any _ _).mono ?_; rintro e w' ⟨he, hw⟩; rw [hsg.out] at he; subst he; have hw := hw.symm; subst hw) | (at_builtin; refine wp_appS (B := B) (bs := bs ++ q0 ++ [32]) sg rfl _ _ rfl rfl rfl R3.out L1.out ?_; intro v4 w4 hr hk; have R4 : Hid (Row B (bs ++ q0 ++ [32] ++ sg.data.toList) v4 w4) := hr; have K4 : Hid (Keep B w w4) := (K3.out.then R3.out.2 (Below.refl _ _)).trans hk; have be4 : Hid (w4.heap[w.heap.size]? = some (.cells #[Value.int IntKind.i64 5, Value.int IntKind.i64 n, Value.slice a len c] 40)) := hk.box be3.out; have bb4 : Hid (w4.heap[pb]? = some (.cells #[Value.int IntKind.i64 x1.kind, Value.int IntKind.i64 x1.num, Value.slice a1 x1.kids.length c1] 40)) := hk.box bb3.out; clear hr hk; refine Hid.out ?_))
  refine Lib.hid ?_
  clear e1 R3 K3 be3 bb3
  go_wp2_with (at_builtin; refine wp_app1 (B := B) (bs := bs ++ q0 ++ [32] ++ sg.data.toList) (z := 32) 32 rfl _ _ rfl rfl rfl rfl (R4.out.up (al1 _ _)) (by simp) L2.out ?_; intro v5 w5 hr hk; have R5 : Hid (Row B (bs ++ q0 ++ [32] ++ sg.data.toList ++ [32]) v5 w5) := hr; have K5 : Hid (Keep B w w5) := (K4.out.then R4.out.2 (al1 _ _)).trans hk; have be5 : Hid (w5.heap[w.heap.size]? = some (.cells #[Value.int IntKind.i64 5, Value.int IntKind.i64 n, Value.slice a len c] 40)) := hk.box (hpU be4.out _); have bb5 : Hid (w5.heap[pb]? = some (.cells #[Value.int IntKind.i64 x1.kind, Value.int IntKind.i64 x1.num, Value.slice a1 x1.kids.length c1] 40)) := hk.box (hpU bb4.out _); clear hr hk; refine Hid.out ?_)
  refine Lib.hid ?_
  clear R4 K4 be4 bb4 L0 L1 L2
  go_upto_region 7 with (fail)
  refine wp_region_still_tail 13 mixed (by kernel_rfl) ?_
  change wpStill _ _ w5.drew (fun a' => wpList _ _ _ _ a' w5.drew) _ _
  simp only [List.take_succ_cons, List.take_zero, List.drop_succ_cons, List.drop_zero]
  have d0 : w5.drew.cell? ⟨pb, 0, none⟩ = some (Value.int IntKind.i64 x1.kind) := (box_cell bb5.out 0).trans rfl
  have d1 : w5.drew.cell? ⟨pb, 1, none⟩ = some (Value.int IntKind.i64 x1.num) := (box_cell bb5.out 1).trans rfl
  have d2 : w5.drew.cell? ⟨pb, 2, none⟩ = some (Value.slice a1 x1.kids.length c1) := (box_cell bb5.out 2).trans rfl
  have CX : Hid (Calls Tryz.prog 210 #[.slice na nl nc, v5, .agg #[Value.int IntKind.i64 x1.kind, Value.int IntKind.i64 x1.num, Value.slice a1 x1.kids.length c1], .bool p1] w5.drew fun e wd => ∃ v1, e = .returned v1 ∧ Hid (Row B (bs ++ q0 ++ [32] ++ sg.data.toList ++ [32] ++ q1) v1 wd) ∧ Hid (Keep B w wd)) := (CB1.out _ _ K5.out.1.drew R5.out).mono fun e wd h => by
    obtain ⟨v1, he, hr, hk'⟩ := h
    exact ⟨v1, he, hr, K5.out.1.trans (undr hk'.1), fun k o h hb ho => hk'.2 k o (K5.out.2 k o h hb ho) hb ho⟩
  clear be5 bb5 CB1 R5 K5
  generalize w5.drew = W at d0 d1 d2 CX ⊢
  by_cases hk : x1.kind = 5
  · have hp : p1 = decide (S x1.num ≤ S n) := by rw [P1.out]; unfold isBin; rw [hk]; rfl
    subst hp
    clear P1
    obtain ⟨k0, n0, ks0⟩ := x1
    simp only at hk
    subst hk
    simp only at d0 d1 d2 CX ⊢
    generalize ks0.length = l0 at *
    repeat still_step
    still_call (CS.out _ _)
    repeat still_step
    refine wpStill_nil ?_
    go_wp2_with (go_at_call 210; refine CX.out.mono ?_; rintro e wd ⟨v1, he, R6, K6⟩; subst he)
    go_ret
    exact ⟨_, rfl, R6.out, K6.out⟩
  · have hkb : (x1.kind == 5) = false := by simpa using hk
    have hp : p1 = false := by rw [P1.out]; unfold isBin; simp [hk]
    subst hp
    clear P1
    repeat still_step
    refine wpStill_nil ?_
    go_wp2_with (go_at_call 210; refine CX.out.mono ?_; rintro e wd ⟨v1, he, R6, K6⟩; subst he)
    go_ret
    exact ⟨_, rfl, R6.out, K6.out⟩
end Go.Proofs.YtjcanodnlnodpaaGreatDoor.Expr
