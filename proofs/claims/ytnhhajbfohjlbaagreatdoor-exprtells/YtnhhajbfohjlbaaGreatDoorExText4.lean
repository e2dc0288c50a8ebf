/- The writers of package expr: an if. -/
import Derived.Test.YtnhhajbfohjlbaaGreatDoorExText3
namespace Go.Proofs.YtnhhajbfohjlbaaGreatDoor.Expr
open Go.RowKit Go.Proofs.YtnhhajbfohjlbaaGreatDoor.Frame Go.Proofs.YtnhhajbfohjlbaaGreatDoor.Calc
set_option linter.unusedVariables false
set_option linter.unusedSimpArgs false

set_option maxRecDepth 100000 in
set_option maxHeartbeats 4000000 in
theorem tchosen_any (names : List ByteArray) (n : Int) (ks : List Ex) (hlen : ks.length ≤ 1000000) (hW : ∀ i, WrAt names (ks.getD i nilEx)) (B : Nat) (w : World) (a na : Option Addr) (c nc : Nat) (bs : List UInt8) (v : Value) (hX : XG (fun b _ => b < B) w ⟨6, n, ks⟩ a) (hE : Env B na names w) (hr : Row B bs v w) (hl : bs.length + (textF names ⟨6, n, ks⟩).length ≤ 1000000) :
    Calls Tryz.prog 51 #[.slice na names.length nc, v, .agg #[.int .i64 6, .int .i64 n, .slice a ks.length c]] w (TPost B (bs ++ textF names ⟨6, n, ks⟩) w) := by
  have R0 : Hid (Row B bs v w) := hr
  have e : textF names ⟨6, n, ks⟩ = [105, 102, 40] ++ textF names (ks.getD 0 nilEx) ++ [44, 32] ++ textF names (ks.getD 1 nilEx) ++ [44, 32] ++ textF names (ks.getD 2 nilEx) ++ [41] := by rw [text_eq, ← text_kid, ← text_kid, ← text_kid]; rfl
  rw [e] at hl ⊢
  clear e hr
  obtain ⟨a0, c0, hx0, hk0⟩ := kidAt_any B w 6 n ks a c 0 hX hlen (by omega)
  obtain ⟨a1, c1, hx1, hk1⟩ := kidAt_any B w 6 n ks a c 1 hX hlen (by omega)
  obtain ⟨a2, c2, hx2, hk2⟩ := kidAt_any B w 6 n ks a c 2 hX hlen (by omega)
  have CK0 : Hid (∀ wx, Below B w wx → _) := hk0
  have CK1 : Hid (∀ wx, Below B w wx → _) := hk1
  have CK2 : Hid (∀ wx, Below B w wx → _) := hk2
  have W0 := hW 0
  have W1 := hW 1
  have W2 := hW 2
  clear hk0 hk1 hk2 hW hX
  generalize ks.getD 0 nilEx = x0 at *
  generalize ks.getD 1 nilEx = x1 at *
  generalize ks.getD 2 nilEx = x2 at *
  have CW0 : Hid (∀ wx bs' v', Below B w wx → Row B bs' v' wx → bs'.length + (textF names x0).length ≤ 1000000 → Calls Tryz.prog 24 #[.slice na names.length nc, v', .agg #[.int .i64 x0.kind, .int .i64 x0.num, .slice a0 x0.kids.length c0]] wx (TPost B (bs' ++ textF names x0) wx)) := fun wx bs' v' hb hr' hl' => W0 B wx a0 na c0 nc bs' v' (hx0.belowB (fun _ _ h => h) hb) (hE.on hb) hr' hl'
  have CW1 : Hid (∀ wx bs' v', Below B w wx → Row B bs' v' wx → bs'.length + (textF names x1).length ≤ 1000000 → Calls Tryz.prog 24 #[.slice na names.length nc, v', .agg #[.int .i64 x1.kind, .int .i64 x1.num, .slice a1 x1.kids.length c1]] wx (TPost B (bs' ++ textF names x1) wx)) := fun wx bs' v' hb hr' hl' => W1 B wx a1 na c1 nc bs' v' (hx1.belowB (fun _ _ h => h) hb) (hE.on hb) hr' hl'
  have CW2 : Hid (∀ wx bs' v', Below B w wx → Row B bs' v' wx → bs'.length + (textF names x2).length ≤ 1000000 → Calls Tryz.prog 24 #[.slice na names.length nc, v', .agg #[.int .i64 x2.kind, .int .i64 x2.num, .slice a2 x2.kids.length c2]] wx (TPost B (bs' ++ textF names x2) wx)) := fun wx bs' v' hb hr' hl' => W2 B wx a2 na c2 nc bs' v' (hx2.belowB (fun _ _ h => h) hb) (hE.on hb) hr' hl'
  clear W0 W1 W2 hx0 hx1 hx2 hE
  generalize textF names x0 = q0 at *
  generalize textF names x1 = q1 at *
  generalize textF names x2 = q2 at *
  generalize names.length = nl at *
  generalize ks.length = len at *
  simp only [← List.append_assoc]
  simp only [List.length_append] at hl
  have hl3 : ([105, 102, 40] : List UInt8).length = 3 := rfl
  have hl2 : ([44, 32] : List UInt8).length = 2 := rfl
  have hl1 : ([41] : List UInt8).length = 1 := rfl
  rw [hl3, hl2, hl1] at hl
  have L0 : Hid (bs.length + 3 ≤ 10000000) := by unfold Hid; omega
  have L2 : Hid ((bs ++ [105, 102, 40]).length + q0.length ≤ 1000000) := by unfold Hid; simp only [List.length_append]; rw [hl3]; omega
  have L3 : Hid ((bs ++ [105, 102, 40] ++ q0).length + 2 ≤ 10000000) := by unfold Hid; simp only [List.length_append]; rw [hl3]; omega
  have L5 : Hid ((bs ++ [105, 102, 40] ++ q0 ++ [44, 32]).length + q1.length ≤ 1000000) := by unfold Hid; simp only [List.length_append]; rw [hl3, hl2]; omega
  have L6 : Hid ((bs ++ [105, 102, 40] ++ q0 ++ [44, 32] ++ q1).length + 2 ≤ 10000000) := by unfold Hid; simp only [List.length_append]; rw [hl3, hl2]; omega
  have L8 : Hid ((bs ++ [105, 102, 40] ++ q0 ++ [44, 32] ++ q1 ++ [44, 32]).length + q2.length ≤ 1000000) := by unfold Hid; simp only [List.length_append]; rw [hl3, hl2]; omega
  have L9 : Hid ((bs ++ [105, 102, 40] ++ q0 ++ [44, 32] ++ q1 ++ [44, 32] ++ q2).length ≤ 10000000) := by unfold Hid; simp only [List.length_append]; rw [hl3, hl2]; omega
  clear hl hl1 hl2 hl3
  go_enter Tryz.func51, Tryz.ntmps51
  go_wp2_with (at_builtin; refine wp_appS (B := B) (bs := bs) ⟨#[105, 102, 40]⟩ rfl _ _ rfl rfl rfl (R0.out.up (al1 _ _)) L0.out ?_; intro v1 w1 hr hk; have R1 : Hid (Row B (bs ++ [105, 102, 40]) v1 w1) := hr; have K1 : Hid (Keep B w w1) := (Keep.of R0.out.2 (al1 _ _)).trans hk; have b1_0 : w1.heap[w.heap.size]? = some (.cells #[Value.int IntKind.i64 6, Value.int IntKind.i64 n, Value.slice a len c] 24) := hk.box (by first | exact hp1 _ _ | exact hpU (hp1 _ _) _ | exact hpU (hpU (hp1 _ _) _) _ | exact b0_0.out | exact hpU b0_0.out _); clear hr hk; refine Hid.out ?_)
  refine Lib.hid ?_
  have c1_0_0 : w1.cell? ⟨w.heap.size, 0, none⟩ = some (Value.int IntKind.i64 6) := (box_cell b1_0 0).trans rfl
  have c1_0_1 : w1.cell? ⟨w.heap.size, 1, none⟩ = some (Value.int IntKind.i64 n) := (box_cell b1_0 1).trans rfl
  have c1_0_2 : w1.cell? ⟨w.heap.size, 2, none⟩ = some (Value.slice a len c) := (box_cell b1_0 2).trans rfl
  replace b1_0 : Hid (_ = _) := b1_0
  have z1_0 : w.heap.size < w1.heap.size := World.block_lt_of_cell? w1 _ c1_0_0
  go_wp2_with (go_at_call 72; refine (CK0.out _ K1.out.1).mono ?_; rintro e w2 ⟨he, hb⟩; subst he; have R2 : Hid (Row B (bs ++ [105, 102, 40]) v1 w2) := R1.out.up hb; have K2 : Hid (Keep B w w2) := K1.out.then R1.out.2 hb; have b2_0 : w2.heap[w.heap.size]? = some (.cells #[Value.int IntKind.i64 6, Value.int IntKind.i64 n, Value.slice a len c] 24) := hpB b1_0.out hb; clear hb; refine Hid.out ?_)
  refine Lib.hid ?_
  clear c1_0_0 c1_0_1 c1_0_2 z1_0
  have c2_0_0 : w2.cell? ⟨w.heap.size, 0, none⟩ = some (Value.int IntKind.i64 6) := (box_cell b2_0 0).trans rfl
  have c2_0_1 : w2.cell? ⟨w.heap.size, 1, none⟩ = some (Value.int IntKind.i64 n) := (box_cell b2_0 1).trans rfl
  have c2_0_2 : w2.cell? ⟨w.heap.size, 2, none⟩ = some (Value.slice a len c) := (box_cell b2_0 2).trans rfl
  replace b2_0 : Hid (_ = _) := b2_0
  have z2_0 : w.heap.size < w2.heap.size := World.block_lt_of_cell? w2 _ c2_0_0
  go_wp2_with (go_at_call 24; refine (CW0.out _ _ _ K2.out.1 R2.out L2.out).mono ?_; rintro e w3 ⟨v3, he, hr, hk⟩; subst he; have R3 : Hid (Row B (bs ++ [105, 102, 40] ++ q0) v3 w3) := hr; have K3 : Hid (Keep B w w3) := (K2.out.then R2.out.2 (Below.refl _ _)).trans hk; have b3_0 : w3.heap[w.heap.size]? = some (.cells #[Value.int IntKind.i64 6, Value.int IntKind.i64 n, Value.slice a len c] 24) := hk.box (by first | exact hp1 _ _ | exact hpU (hp1 _ _) _ | exact hpU (hpU (hp1 _ _) _) _ | exact b2_0.out | exact hpU b2_0.out _); clear hr hk; refine Hid.out ?_)
  refine Lib.hid ?_
  clear c2_0_0 c2_0_1 c2_0_2 z2_0
  have c3_0_0 : w3.cell? ⟨w.heap.size, 0, none⟩ = some (Value.int IntKind.i64 6) := (box_cell b3_0 0).trans rfl
  have c3_0_1 : w3.cell? ⟨w.heap.size, 1, none⟩ = some (Value.int IntKind.i64 n) := (box_cell b3_0 1).trans rfl
  have c3_0_2 : w3.cell? ⟨w.heap.size, 2, none⟩ = some (Value.slice a len c) := (box_cell b3_0 2).trans rfl
  replace b3_0 : Hid (_ = _) := b3_0
  have z3_0 : w.heap.size < w3.heap.size := World.block_lt_of_cell? w3 _ c3_0_0
  go_wp2_with (at_builtin; refine wp_appS (B := B) (bs := bs ++ [105, 102, 40] ++ q0) ⟨#[44, 32]⟩ rfl _ _ rfl rfl rfl (R3.out.up (Below.refl _ _)) L3.out ?_; intro v4 w4 hr hk; have R4 : Hid (Row B (bs ++ [105, 102, 40] ++ q0 ++ [44, 32]) v4 w4) := hr; have K4 : Hid (Keep B w w4) := (K3.out.then R3.out.2 (Below.refl _ _)).trans hk; have b4_0 : w4.heap[w.heap.size]? = some (.cells #[Value.int IntKind.i64 6, Value.int IntKind.i64 n, Value.slice a len c] 24) := hk.box (by first | exact hp1 _ _ | exact hpU (hp1 _ _) _ | exact hpU (hpU (hp1 _ _) _) _ | exact b3_0.out | exact hpU b3_0.out _); clear hr hk; refine Hid.out ?_)
  refine Lib.hid ?_
  clear c3_0_0 c3_0_1 c3_0_2 z3_0
  have c4_0_0 : w4.cell? ⟨w.heap.size, 0, none⟩ = some (Value.int IntKind.i64 6) := (box_cell b4_0 0).trans rfl
  have c4_0_1 : w4.cell? ⟨w.heap.size, 1, none⟩ = some (Value.int IntKind.i64 n) := (box_cell b4_0 1).trans rfl
  have c4_0_2 : w4.cell? ⟨w.heap.size, 2, none⟩ = some (Value.slice a len c) := (box_cell b4_0 2).trans rfl
  replace b4_0 : Hid (_ = _) := b4_0
  have z4_0 : w.heap.size < w4.heap.size := World.block_lt_of_cell? w4 _ c4_0_0
  go_wp2_with (go_at_call 72; refine (CK1.out _ K4.out.1).mono ?_; rintro e w5 ⟨he, hb⟩; subst he; have R5 : Hid (Row B (bs ++ [105, 102, 40] ++ q0 ++ [44, 32]) v4 w5) := R4.out.up hb; have K5 : Hid (Keep B w w5) := K4.out.then R4.out.2 hb; have b5_0 : w5.heap[w.heap.size]? = some (.cells #[Value.int IntKind.i64 6, Value.int IntKind.i64 n, Value.slice a len c] 24) := hpB b4_0.out hb; clear hb; refine Hid.out ?_)
  refine Lib.hid ?_
  clear c4_0_0 c4_0_1 c4_0_2 z4_0
  have c5_0_0 : w5.cell? ⟨w.heap.size, 0, none⟩ = some (Value.int IntKind.i64 6) := (box_cell b5_0 0).trans rfl
  have c5_0_1 : w5.cell? ⟨w.heap.size, 1, none⟩ = some (Value.int IntKind.i64 n) := (box_cell b5_0 1).trans rfl
  have c5_0_2 : w5.cell? ⟨w.heap.size, 2, none⟩ = some (Value.slice a len c) := (box_cell b5_0 2).trans rfl
  replace b5_0 : Hid (_ = _) := b5_0
  have z5_0 : w.heap.size < w5.heap.size := World.block_lt_of_cell? w5 _ c5_0_0
  go_wp2_with (go_at_call 24; refine (CW1.out _ _ _ K5.out.1 R5.out L5.out).mono ?_; rintro e w6 ⟨v6, he, hr, hk⟩; subst he; have R6 : Hid (Row B (bs ++ [105, 102, 40] ++ q0 ++ [44, 32] ++ q1) v6 w6) := hr; have K6 : Hid (Keep B w w6) := (K5.out.then R5.out.2 (Below.refl _ _)).trans hk; have b6_0 : w6.heap[w.heap.size]? = some (.cells #[Value.int IntKind.i64 6, Value.int IntKind.i64 n, Value.slice a len c] 24) := hk.box (by first | exact hp1 _ _ | exact hpU (hp1 _ _) _ | exact hpU (hpU (hp1 _ _) _) _ | exact b5_0.out | exact hpU b5_0.out _); clear hr hk; refine Hid.out ?_)
  refine Lib.hid ?_
  clear c5_0_0 c5_0_1 c5_0_2 z5_0
  have c6_0_0 : w6.cell? ⟨w.heap.size, 0, none⟩ = some (Value.int IntKind.i64 6) := (box_cell b6_0 0).trans rfl
  have c6_0_1 : w6.cell? ⟨w.heap.size, 1, none⟩ = some (Value.int IntKind.i64 n) := (box_cell b6_0 1).trans rfl
  have c6_0_2 : w6.cell? ⟨w.heap.size, 2, none⟩ = some (Value.slice a len c) := (box_cell b6_0 2).trans rfl
  replace b6_0 : Hid (_ = _) := b6_0
  have z6_0 : w.heap.size < w6.heap.size := World.block_lt_of_cell? w6 _ c6_0_0
  go_wp2_with (at_builtin; refine wp_appS (B := B) (bs := bs ++ [105, 102, 40] ++ q0 ++ [44, 32] ++ q1) ⟨#[44, 32]⟩ rfl _ _ rfl rfl rfl (R6.out.up (Below.refl _ _)) L6.out ?_; intro v7 w7 hr hk; have R7 : Hid (Row B (bs ++ [105, 102, 40] ++ q0 ++ [44, 32] ++ q1 ++ [44, 32]) v7 w7) := hr; have K7 : Hid (Keep B w w7) := (K6.out.then R6.out.2 (Below.refl _ _)).trans hk; have b7_0 : w7.heap[w.heap.size]? = some (.cells #[Value.int IntKind.i64 6, Value.int IntKind.i64 n, Value.slice a len c] 24) := hk.box (by first | exact hp1 _ _ | exact hpU (hp1 _ _) _ | exact hpU (hpU (hp1 _ _) _) _ | exact b6_0.out | exact hpU b6_0.out _); clear hr hk; refine Hid.out ?_)
  refine Lib.hid ?_
  clear c6_0_0 c6_0_1 c6_0_2 z6_0
  have c7_0_0 : w7.cell? ⟨w.heap.size, 0, none⟩ = some (Value.int IntKind.i64 6) := (box_cell b7_0 0).trans rfl
  have c7_0_1 : w7.cell? ⟨w.heap.size, 1, none⟩ = some (Value.int IntKind.i64 n) := (box_cell b7_0 1).trans rfl
  have c7_0_2 : w7.cell? ⟨w.heap.size, 2, none⟩ = some (Value.slice a len c) := (box_cell b7_0 2).trans rfl
  replace b7_0 : Hid (_ = _) := b7_0
  have z7_0 : w.heap.size < w7.heap.size := World.block_lt_of_cell? w7 _ c7_0_0
  go_wp2_with (go_at_call 72; refine (CK2.out _ K7.out.1).mono ?_; rintro e w8 ⟨he, hb⟩; subst he; have R8 : Hid (Row B (bs ++ [105, 102, 40] ++ q0 ++ [44, 32] ++ q1 ++ [44, 32]) v7 w8) := R7.out.up hb; have K8 : Hid (Keep B w w8) := K7.out.then R7.out.2 hb; have b8_0 : w8.heap[w.heap.size]? = some (.cells #[Value.int IntKind.i64 6, Value.int IntKind.i64 n, Value.slice a len c] 24) := hpB b7_0.out hb; clear hb; refine Hid.out ?_)
  refine Lib.hid ?_
  clear c7_0_0 c7_0_1 c7_0_2 z7_0
  have c8_0_0 : w8.cell? ⟨w.heap.size, 0, none⟩ = some (Value.int IntKind.i64 6) := (box_cell b8_0 0).trans rfl
  have c8_0_1 : w8.cell? ⟨w.heap.size, 1, none⟩ = some (Value.int IntKind.i64 n) := (box_cell b8_0 1).trans rfl
  have c8_0_2 : w8.cell? ⟨w.heap.size, 2, none⟩ = some (Value.slice a len c) := (box_cell b8_0 2).trans rfl
  replace b8_0 : Hid (_ = _) := b8_0
  have z8_0 : w.heap.size < w8.heap.size := World.block_lt_of_cell? w8 _ c8_0_0
  go_wp2_with (go_at_call 24; refine (CW2.out _ _ _ K8.out.1 R8.out L8.out).mono ?_; rintro e w9 ⟨v9, he, hr, hk⟩; subst he; have R9 : Hid (Row B (bs ++ [105, 102, 40] ++ q0 ++ [44, 32] ++ q1 ++ [44, 32] ++ q2) v9 w9) := hr; have K9 : Hid (Keep B w w9) := (K8.out.then R8.out.2 (Below.refl _ _)).trans hk; have b9_0 : w9.heap[w.heap.size]? = some (.cells #[Value.int IntKind.i64 6, Value.int IntKind.i64 n, Value.slice a len c] 24) := hk.box (by first | exact hp1 _ _ | exact hpU (hp1 _ _) _ | exact hpU (hpU (hp1 _ _) _) _ | exact b8_0.out | exact hpU b8_0.out _); clear hr hk; refine Hid.out ?_)
  refine Lib.hid ?_
  clear c8_0_0 c8_0_1 c8_0_2 z8_0
  have c9_0_0 : w9.cell? ⟨w.heap.size, 0, none⟩ = some (Value.int IntKind.i64 6) := (box_cell b9_0 0).trans rfl
  have c9_0_1 : w9.cell? ⟨w.heap.size, 1, none⟩ = some (Value.int IntKind.i64 n) := (box_cell b9_0 1).trans rfl
  have c9_0_2 : w9.cell? ⟨w.heap.size, 2, none⟩ = some (Value.slice a len c) := (box_cell b9_0 2).trans rfl
  replace b9_0 : Hid (_ = _) := b9_0
  have z9_0 : w.heap.size < w9.heap.size := World.block_lt_of_cell? w9 _ c9_0_0
  go_wp2_with (at_builtin; refine wp_app1 (B := B) (bs := bs ++ [105, 102, 40] ++ q0 ++ [44, 32] ++ q1 ++ [44, 32] ++ q2) (z := 41) 41 rfl _ _ rfl rfl rfl rfl (R9.out.up (al1 _ _)) (by simp) L9.out ?_; intro v10 w10 hr hk; have R10 : Hid (Row B (bs ++ [105, 102, 40] ++ q0 ++ [44, 32] ++ q1 ++ [44, 32] ++ q2 ++ [41]) v10 w10) := hr; have K10 : Hid (Keep B w w10) := (K9.out.then R9.out.2 (al1 _ _)).trans hk; have b10_0 : w10.heap[w.heap.size]? = some (.cells #[Value.int IntKind.i64 6, Value.int IntKind.i64 n, Value.slice a len c] 24) := hk.box (by first | exact hp1 _ _ | exact hpU (hp1 _ _) _ | exact hpU (hpU (hp1 _ _) _) _ | exact b9_0.out | exact hpU b9_0.out _); clear hr hk; refine Hid.out ?_)
  refine Lib.hid ?_
  go_wp2_with fail
  go_ret
  exact ⟨_, rfl, R10.out, K10.out⟩
end Go.Proofs.YtnhhajbfohjlbaaGreatDoor.Expr
