/- CheckLess: over the turned program. -/
import Derived.Test.YtgdkomkflfodaaaGreatMbN
namespace Go.Proofs.YtgdkomkflfodaaaGreat.Check
open Go.Proofs.YtgdkomkflfodaaaGreat.Dag Go.RowKit Go.Proofs.YtgdkomkflfodaaaGreat.Frame Go.Proofs.YtgdkomkflfodaaaGreat.Colour Go.Proofs.YtgdkomkflfodaaaGreat.Expr
set_option linter.unusedVariables false
set_option linter.unusedSimpArgs false

set_option maxRecDepth 100000 in
set_option maxHeartbeats 16000000 in
theorem less_any (n : Ne) (kz : Int) (w : World) (h : NeOk w n) (hl : NeLen n) : Calls Tryz.prog 4 #[.agg #[.slice n.ca n.cols.length n.cc, .slice n.pa n.places.length n.pc, .slice n.ta n.tasks.length n.tc, .int .i64 n.frm, .int .i64 n.too], .int .i64 kz] w fun e w' => e = .returned (.bool true) ∧ Below w.heap.size w w' := by
  have H00 : Hid (NeOk w n ∧ NeLen n) := ⟨h, hl⟩
  obtain ⟨q, hq⟩ : ∃ q, q = w.heap.size := ⟨_, rfl⟩
  obtain ⟨wz, hwz⟩ : ∃ wz, wz = w.alloc (.cells #[.slice n.ca n.cols.length n.cc, .slice n.pa n.places.length n.pc, .slice n.ta n.tasks.length n.tc, .int .i64 n.frm, .int .i64 n.too] 26) := ⟨_, rfl⟩
  have HZ : Hid (Below w.heap.size w wz ∧ NBox wz q n ∧ NeOk wz n ∧ NeLen n) := by rw [hwz, hq]; exact ⟨(Below.refl _ _).alloc (Nat.le_refl _) _, NBox.new w n _, h.below ((Below.refl _ _).alloc (Nat.le_refl _) _), hl⟩
  clear h hl
  go_enter Tryz.func4, Tryz.ntmps4
  go_upto_region 1 with fail
  rw [← hwz, ← hq]
  clear hwz hq
  go_wp2_with fail
  refine (small_any wz).mono ?_
  rintro e w1 ⟨he, hb⟩
  subst he
  have H1 : Hid (La w w1 q n ∧ NeLen n) := ⟨⟨then_ HZ.out.1 hb, HZ.out.2.1.below hb, HZ.out.2.2.1.below hb⟩, HZ.out.2.2.2⟩
  clear hb HZ
  obtain ⟨c0, c1, c2, c3, c4⟩ := H1.out.1.2.1
  go_wp2_with fail
  refine (netFew_any n w1 H1.out.1.2.2 H1.out.2).mono ?_
  rintro e w2 ⟨b, he, hfew, hb⟩
  subst he
  have H2 : Hid (La w w2 q n ∧ (b = true → FewN n)) := ⟨H1.out.1.on hb, hfew⟩
  clear hb H1 hfew c0 c1 c2 c3 c4
  cases b with
  | false =>
    go_wp2_with fail
    go_ret
    exact ⟨rfl, H2.out.1.1⟩
  | true =>
  have HF : Hid (FewN n) := H2.out.2 (by simp)
  have HL : Hid (La w w2 q n) := H2.out.1
  clear H2
  by_cases hk : 0 ≤ kz ∧ kz < n.tasks.length
  case neg =>
    obtain ⟨c0, c1, c2, c3, c4⟩ := HL.out.2.1
    by_cases hk0 : kz < 0
    · go_wp2_with fail
      go_ret
      exact ⟨rfl, HL.out.1⟩
    · have hk1 : (n.tasks.length : Int) ≤ kz := by omega
      go_wp2_with fail
      go_ret
      exact ⟨rfl, HL.out.1⟩
  case pos =>
  obtain ⟨k, hkz⟩ : ∃ k : Nat, kz = k := ⟨kz.toNat, by omega⟩
  subst hkz
  have hkl : k < n.tasks.length := by omega
  have k1 : ¬ (k : Int) < 0 := by omega
  have k2 : ¬ (n.tasks.length : Int) ≤ k := by omega
  have HK : Hid (k < n.tasks.length) := hkl
  clear hk hkl
  obtain ⟨c0, c1, c2, c3, c4⟩ := HL.out.2.1
  go_wp2_with fail
  refine (net_any n w2 HL.out.2.2 HF.out.sm).mono ?_
  rintro e w3 ⟨kd, at_, er, he, hi, hb⟩
  subst he
  have HI : Hid (NetIs n kd at_ er) := hi
  obtain ⟨p, hp⟩ : ∃ p, p = w3.heap.size := ⟨_, rfl⟩
  have HL3 : Hid (La w w3 q n) := HL.out.on hb
  clear hi hb HL c0 c1 c2 c3 c4
  go_upto_region 6 with fail
  obtain ⟨w4, hw4⟩ : ∃ w4, w4 = w3.alloc (.cells #[.int .i64 kd, .int .i64 at_] 30) := ⟨_, rfl⟩
  have HL4 : Hid (La w w4 q n ∧ w4.cell? ⟨p, 0, none⟩ = some (.int .i64 kd) ∧ w4.cell? ⟨p, 1, none⟩ = some (.int .i64 at_)) := ⟨HL3.out.on (by rw [hw4]; exact al_ _ _), by rw [hw4]; exact part_new w3 kd at_ p hp _⟩
  rw [← hw4, ← hp]
  clear hw4 hp HL3
  clear k1 k2
  obtain ⟨c0, c1, c2, c3, c4⟩ := HL4.out.1.2.1
  go_upto_region 7 with fail
  obtain ⟨r, hr⟩ : ∃ r, r = w4.heap.size := ⟨_, rfl⟩
  obtain ⟨w6, hw6⟩ : ∃ w6, w6 = w4.alloc (.cells #[.slice n.ca n.cols.length n.cc, .slice n.pa n.places.length n.pc, .slice n.ta n.tasks.length n.tc, .int .i64 n.frm, .int .i64 n.too] 26) := ⟨_, rfl⟩
  have hb6 : Below w4.heap.size w4 w6 := by rw [hw6]; exact al_ _ _
  have HL6 : Hid (La w w6 q n ∧ NBox w6 r n ∧ Below w4.heap.size w4 w6 ∧ r = w4.heap.size ∧ q < r) := ⟨HL4.out.1.on hb6, by rw [hw6, hr]; exact NBox.new w4 n _, hb6, hr, by rw [hr]; exact World.block_lt_of_cell? _ _ c0⟩
  have RI0 : Hid (w6.rowIs r 26 5 (fun j => (netC n).getD j undef)) := by
    rw [hw6, hr]
    exact World.rowIs_alloc w4 (netC n) _ _ fun i hi => by
      match i, hi with
      | 0, _ => rfl
      | 1, _ => rfl
      | 2, _ => rfl
      | 3, _ => rfl
      | 4, _ => rfl
      | i + 5, hi => exact absurd hi (by simp [netC])
  rw [← hw6, ← hr]
  have HRL : Hid (w6.heap.size = r + 1) := by
    show w6.heap.size = r + 1
    rw [hw6, hr]; simp
  clear hw6 hb6 hr c0 c1 c2 c3 c4
  obtain ⟨c0, c1, c2, c3, c4⟩ := HL6.out.1.2.1
  obtain ⟨b, off, ha, _, _⟩ := HL6.out.1.2.2.2.2.2.at HK.out
  have HA : Hid (n.ta = some ⟨b, off, none⟩) := ha
  rw [ha] at c2
  have htc : n.tasks.length ≤ n.tc := HL6.out.1.2.2.1.2.2
  have hkl : k < n.tasks.length := HK.out
  have hk' : (k : Int) < n.tasks.length := by omega
  have hk2' : (k : Int) ≤ n.tc := by omega
  have SB := slice_behind b off n.tasks.length n.tc k hkl htc
  have y3 : n.tasks.length ≤ 70 := HF.out.1.2.2
  clear ha
  have RI : w6.rowIs r 26 5 (fun j => (netC n).getD j undef) := RI0.out
  have HRUN : Hid (∀ W, Below w4.heap.size w4 W → ∀ i, i < n.tasks.length → Run W b (off + i * 14) (n.tasks.getD i nilTa).cells) := fun W hW i hi => by
    obtain ⟨b', off', ha', hr', _⟩ := (HL4.out.1.2.2.below hW).2.2.2.at hi
    rw [HA.out] at ha'
    cases ha'
    exact hr'
  refine wp_region_held_drew (S := fun W => W.cell? ⟨q, 2, none⟩ = some (.slice (some ⟨b, off, none⟩) n.tasks.length n.tc)) (by kernel_rfl) (box_below c2 (Below.refl _ _).drew) (fun hS => ?_)
  refine wpAnyH_steps (l' := #[false, false, false, false, false, false, false, false, false, false, false, false, false, false]) (a' := { tmps := #[Value.agg #[Value.slice n.ca n.cols.length n.cc, Value.slice n.pa n.places.length n.pc, Value.slice n.ta n.tasks.length n.tc, Value.int IntKind.i64 n.frm, Value.int IntKind.i64 n.too], Value.int IntKind.i64 ↑k, Value.pointer (some { block := q, off := 0 }), undef, Value.bool false, Value.bool true, Value.bool true, Value.pointer (some { block := p, off := 0 }), Value.int IntKind.i64 er, Value.pointer (some { block := r, off := 0 }), undef, undef, undef, undef, undef, undef, undef, undef, undef, Value.bool true, Value.agg #[Value.slice n.ca n.cols.length n.cc, Value.slice n.pa n.places.length n.pc, Value.slice n.ta n.tasks.length n.tc, Value.int IntKind.i64 n.frm, Value.int IntKind.i64 n.too], Value.bool true, Value.bool true, Value.bool false, Value.bool false, Value.int IntKind.i64 ↑k, Value.bool (decide (↑k < 0)), Value.bool (decide (↑k < 0)), Value.bool (decide (↑k < 0)), Value.int IntKind.i64 ↑k, Value.pointer (some { block := q, off := 2 }), Value.slice n.ta n.tasks.length n.tc, Value.int IntKind.i64 ↑n.tasks.length, Value.bool false, Value.bool (decide (↑k < 0)), undef, Value.tuple #[Value.agg #[Value.int IntKind.i64 kd, Value.int IntKind.i64 at_], Value.int IntKind.i64 er], Value.agg #[Value.slice n.ca n.cols.length n.cc, Value.slice n.pa n.places.length n.pc, Value.slice n.ta n.tasks.length n.tc, Value.int IntKind.i64 n.frm, Value.int IntKind.i64 n.too], Value.tuple #[Value.agg #[Value.int IntKind.i64 kd, Value.int IntKind.i64 at_], Value.int IntKind.i64 er], Value.agg #[Value.int IntKind.i64 kd, Value.int IntKind.i64 at_], Value.int IntKind.i64 er, Value.agg #[Value.slice n.ca n.cols.length n.cc, Value.slice n.pa n.places.length n.pc, Value.slice n.ta n.tasks.length n.tc, Value.int IntKind.i64 n.frm, Value.int IntKind.i64 n.too], undef, undef, undef, undef, undef, undef, undef, undef, undef, undef, undef, undef, undef, undef, undef, undef, undef, undef, undef, undef, undef, undef, undef, undef, undef, undef, undef, undef, undef, undef, undef, undef, undef, undef, undef, undef, undef, undef, undef, undef, undef, undef, undef, undef, undef, undef, undef, undef, undef, undef, undef, undef, undef, undef, undef, undef, undef, undef, undef, undef, undef, undef, undef, undef, undef, undef, undef, undef, undef, undef, undef, undef, undef, undef, undef], defers := [] }) (by kernel_rfl) (by rfl) (by kernel_rfl) (fun _ _ d _ _ h => by cases d <;> exact h) (fun F ht hc hb hd => ?_)
  refine ht _ _ #[false, true, false, false, false, false, false, false, false, false, false, false, false, false] _ { tmps := #[Value.agg #[Value.slice n.ca n.cols.length n.cc, Value.slice n.pa n.places.length n.pc, Value.slice n.ta n.tasks.length n.tc, Value.int IntKind.i64 n.frm, Value.int IntKind.i64 n.too], Value.int IntKind.i64 ↑k, Value.pointer (some { block := q, off := 0 }), undef, Value.bool false, Value.bool true, Value.bool true, Value.pointer (some { block := p, off := 0 }), Value.int IntKind.i64 er, Value.pointer (some { block := r, off := 0 }), undef, undef, undef, undef, undef, undef, undef, undef, undef, Value.bool true, Value.agg #[Value.slice n.ca n.cols.length n.cc, Value.slice n.pa n.places.length n.pc, Value.slice n.ta n.tasks.length n.tc, Value.int IntKind.i64 n.frm, Value.int IntKind.i64 n.too], Value.bool true, Value.bool true, Value.bool false, Value.bool false, Value.int IntKind.i64 ↑k, Value.bool (decide (↑k < 0)), Value.bool (decide (↑k < 0)), Value.bool (decide (↑k < 0)), Value.int IntKind.i64 ↑k, Value.pointer (some { block := q, off := 2 }), Value.slice n.ta n.tasks.length n.tc, Value.int IntKind.i64 ↑n.tasks.length, Value.bool false, Value.bool (decide (↑k < 0)), undef, Value.tuple #[Value.agg #[Value.int IntKind.i64 kd, Value.int IntKind.i64 at_], Value.int IntKind.i64 er], Value.agg #[Value.slice n.ca n.cols.length n.cc, Value.slice n.pa n.places.length n.pc, Value.slice n.ta n.tasks.length n.tc, Value.int IntKind.i64 n.frm, Value.int IntKind.i64 n.too], Value.tuple #[Value.agg #[Value.int IntKind.i64 kd, Value.int IntKind.i64 at_], Value.int IntKind.i64 er], Value.agg #[Value.int IntKind.i64 kd, Value.int IntKind.i64 at_], Value.int IntKind.i64 er, Value.agg #[Value.slice n.ca n.cols.length n.cc, Value.slice n.pa n.places.length n.pc, Value.slice n.ta n.tasks.length n.tc, Value.int IntKind.i64 n.frm, Value.int IntKind.i64 n.too], undef, .pointer (some ⟨q, 2, none⟩), undef, undef, undef, undef, undef, undef, undef, undef, undef, undef, undef, undef, undef, undef, undef, undef, undef, undef, undef, undef, undef, undef, undef, undef, undef, undef, undef, undef, undef, undef, undef, undef, undef, undef, undef, undef, undef, undef, undef, undef, undef, undef, undef, undef, undef, undef, undef, undef, undef, undef, undef, undef, undef, undef, undef, undef, undef, undef, undef, undef, undef, undef, undef, undef, undef, undef, undef, undef, undef, undef, undef, undef, undef], defers := [] } _ 1 { dst := some 43, op := Op.fieldAddr 26 (Operand.tmp 2) 2, type := 0, pos := "law.go:129", after := #[], guard := none } (.pointer (some ⟨q, 2, none⟩)) (by kernel_rfl) (by kernel_rfl) (by kernel_rfl) (by rfl) (fun w' hw => ?hy) hS (by kernel_rfl) (by rfl) ?_
  case hy =>
    clear ht hc hb hd hS
    go_simp
    try with_reducible rfl
  refine ht _ _ #[false, true, true, false, false, false, false, false, false, false, false, false, false, false] _ { tmps := #[Value.agg #[Value.slice n.ca n.cols.length n.cc, Value.slice n.pa n.places.length n.pc, Value.slice n.ta n.tasks.length n.tc, Value.int IntKind.i64 n.frm, Value.int IntKind.i64 n.too], Value.int IntKind.i64 ↑k, Value.pointer (some { block := q, off := 0 }), undef, Value.bool false, Value.bool true, Value.bool true, Value.pointer (some { block := p, off := 0 }), Value.int IntKind.i64 er, Value.pointer (some { block := r, off := 0 }), undef, undef, undef, undef, undef, undef, undef, undef, undef, Value.bool true, Value.agg #[Value.slice n.ca n.cols.length n.cc, Value.slice n.pa n.places.length n.pc, Value.slice n.ta n.tasks.length n.tc, Value.int IntKind.i64 n.frm, Value.int IntKind.i64 n.too], Value.bool true, Value.bool true, Value.bool false, Value.bool false, Value.int IntKind.i64 ↑k, Value.bool (decide (↑k < 0)), Value.bool (decide (↑k < 0)), Value.bool (decide (↑k < 0)), Value.int IntKind.i64 ↑k, Value.pointer (some { block := q, off := 2 }), Value.slice n.ta n.tasks.length n.tc, Value.int IntKind.i64 ↑n.tasks.length, Value.bool false, Value.bool (decide (↑k < 0)), undef, Value.tuple #[Value.agg #[Value.int IntKind.i64 kd, Value.int IntKind.i64 at_], Value.int IntKind.i64 er], Value.agg #[Value.slice n.ca n.cols.length n.cc, Value.slice n.pa n.places.length n.pc, Value.slice n.ta n.tasks.length n.tc, Value.int IntKind.i64 n.frm, Value.int IntKind.i64 n.too], Value.tuple #[Value.agg #[Value.int IntKind.i64 kd, Value.int IntKind.i64 at_], Value.int IntKind.i64 er], Value.agg #[Value.int IntKind.i64 kd, Value.int IntKind.i64 at_], Value.int IntKind.i64 er, Value.agg #[Value.slice n.ca n.cols.length n.cc, Value.slice n.pa n.places.length n.pc, Value.slice n.ta n.tasks.length n.tc, Value.int IntKind.i64 n.frm, Value.int IntKind.i64 n.too], undef, .pointer (some ⟨q, 2, none⟩), .slice (some ⟨b, off, none⟩) n.tasks.length n.tc, undef, undef, undef, undef, undef, undef, undef, undef, undef, undef, undef, undef, undef, undef, undef, undef, undef, undef, undef, undef, undef, undef, undef, undef, undef, undef, undef, undef, undef, undef, undef, undef, undef, undef, undef, undef, undef, undef, undef, undef, undef, undef, undef, undef, undef, undef, undef, undef, undef, undef, undef, undef, undef, undef, undef, undef, undef, undef, undef, undef, undef, undef, undef, undef, undef, undef, undef, undef, undef, undef, undef, undef], defers := [] } _ 2 { dst := some 44, op := Op.load 24 (Operand.tmp 43), type := 24, pos := "law.go:129", after := #[{ on := 1, ground := Ground.data }], guard := none } (.slice (some ⟨b, off, none⟩) n.tasks.length n.tc) (by kernel_rfl) (by kernel_rfl) (by kernel_rfl) (by rfl) (fun w' hw => ?hy) hS (by kernel_rfl) (by rfl) ?_
  case hy =>
    clear ht hc hb hd hS
    go_simp
    try with_reducible rfl
  refine ht _ _ #[false, true, true, true, false, false, false, false, false, false, false, false, false, false] _ { tmps := #[Value.agg #[Value.slice n.ca n.cols.length n.cc, Value.slice n.pa n.places.length n.pc, Value.slice n.ta n.tasks.length n.tc, Value.int IntKind.i64 n.frm, Value.int IntKind.i64 n.too], Value.int IntKind.i64 ↑k, Value.pointer (some { block := q, off := 0 }), undef, Value.bool false, Value.bool true, Value.bool true, Value.pointer (some { block := p, off := 0 }), Value.int IntKind.i64 er, Value.pointer (some { block := r, off := 0 }), undef, undef, undef, undef, undef, undef, undef, undef, undef, Value.bool true, Value.agg #[Value.slice n.ca n.cols.length n.cc, Value.slice n.pa n.places.length n.pc, Value.slice n.ta n.tasks.length n.tc, Value.int IntKind.i64 n.frm, Value.int IntKind.i64 n.too], Value.bool true, Value.bool true, Value.bool false, Value.bool false, Value.int IntKind.i64 ↑k, Value.bool (decide (↑k < 0)), Value.bool (decide (↑k < 0)), Value.bool (decide (↑k < 0)), Value.int IntKind.i64 ↑k, Value.pointer (some { block := q, off := 2 }), Value.slice n.ta n.tasks.length n.tc, Value.int IntKind.i64 ↑n.tasks.length, Value.bool false, Value.bool (decide (↑k < 0)), undef, Value.tuple #[Value.agg #[Value.int IntKind.i64 kd, Value.int IntKind.i64 at_], Value.int IntKind.i64 er], Value.agg #[Value.slice n.ca n.cols.length n.cc, Value.slice n.pa n.places.length n.pc, Value.slice n.ta n.tasks.length n.tc, Value.int IntKind.i64 n.frm, Value.int IntKind.i64 n.too], Value.tuple #[Value.agg #[Value.int IntKind.i64 kd, Value.int IntKind.i64 at_], Value.int IntKind.i64 er], Value.agg #[Value.int IntKind.i64 kd, Value.int IntKind.i64 at_], Value.int IntKind.i64 er, Value.agg #[Value.slice n.ca n.cols.length n.cc, Value.slice n.pa n.places.length n.pc, Value.slice n.ta n.tasks.length n.tc, Value.int IntKind.i64 n.frm, Value.int IntKind.i64 n.too], undef, .pointer (some ⟨q, 2, none⟩), .slice (some ⟨b, off, none⟩) n.tasks.length n.tc, .int .i64 ↑k, undef, undef, undef, undef, undef, undef, undef, undef, undef, undef, undef, undef, undef, undef, undef, undef, undef, undef, undef, undef, undef, undef, undef, undef, undef, undef, undef, undef, undef, undef, undef, undef, undef, undef, undef, undef, undef, undef, undef, undef, undef, undef, undef, undef, undef, undef, undef, undef, undef, undef, undef, undef, undef, undef, undef, undef, undef, undef, undef, undef, undef, undef, undef, undef, undef, undef, undef, undef, undef, undef, undef], defers := [] } _ 3 { dst := some 45, op := Op.move (Operand.tmp 1), type := 3, pos := "law.go:129", after := #[], guard := none } (.int .i64 ↑k) (by kernel_rfl) (by kernel_rfl) (by kernel_rfl) (by rfl) (fun w' hw => ?hy) hS (by kernel_rfl) (by rfl) ?_
  case hy =>
    clear ht hc hb hd hS
    go_simp
    try with_reducible rfl
  refine ht _ _ #[false, true, true, true, true, false, false, false, false, false, false, false, false, false] _ { tmps := #[Value.agg #[Value.slice n.ca n.cols.length n.cc, Value.slice n.pa n.places.length n.pc, Value.slice n.ta n.tasks.length n.tc, Value.int IntKind.i64 n.frm, Value.int IntKind.i64 n.too], Value.int IntKind.i64 ↑k, Value.pointer (some { block := q, off := 0 }), undef, Value.bool false, Value.bool true, Value.bool true, Value.pointer (some { block := p, off := 0 }), Value.int IntKind.i64 er, Value.pointer (some { block := r, off := 0 }), undef, undef, undef, undef, undef, undef, undef, undef, undef, Value.bool true, Value.agg #[Value.slice n.ca n.cols.length n.cc, Value.slice n.pa n.places.length n.pc, Value.slice n.ta n.tasks.length n.tc, Value.int IntKind.i64 n.frm, Value.int IntKind.i64 n.too], Value.bool true, Value.bool true, Value.bool false, Value.bool false, Value.int IntKind.i64 ↑k, Value.bool (decide (↑k < 0)), Value.bool (decide (↑k < 0)), Value.bool (decide (↑k < 0)), Value.int IntKind.i64 ↑k, Value.pointer (some { block := q, off := 2 }), Value.slice n.ta n.tasks.length n.tc, Value.int IntKind.i64 ↑n.tasks.length, Value.bool false, Value.bool (decide (↑k < 0)), undef, Value.tuple #[Value.agg #[Value.int IntKind.i64 kd, Value.int IntKind.i64 at_], Value.int IntKind.i64 er], Value.agg #[Value.slice n.ca n.cols.length n.cc, Value.slice n.pa n.places.length n.pc, Value.slice n.ta n.tasks.length n.tc, Value.int IntKind.i64 n.frm, Value.int IntKind.i64 n.too], Value.tuple #[Value.agg #[Value.int IntKind.i64 kd, Value.int IntKind.i64 at_], Value.int IntKind.i64 er], Value.agg #[Value.int IntKind.i64 kd, Value.int IntKind.i64 at_], Value.int IntKind.i64 er, Value.agg #[Value.slice n.ca n.cols.length n.cc, Value.slice n.pa n.places.length n.pc, Value.slice n.ta n.tasks.length n.tc, Value.int IntKind.i64 n.frm, Value.int IntKind.i64 n.too], undef, .pointer (some ⟨q, 2, none⟩), .slice (some ⟨b, off, none⟩) n.tasks.length n.tc, .int .i64 ↑k, .slice (some ⟨b, off, none⟩) k n.tc, undef, undef, undef, undef, undef, undef, undef, undef, undef, undef, undef, undef, undef, undef, undef, undef, undef, undef, undef, undef, undef, undef, undef, undef, undef, undef, undef, undef, undef, undef, undef, undef, undef, undef, undef, undef, undef, undef, undef, undef, undef, undef, undef, undef, undef, undef, undef, undef, undef, undef, undef, undef, undef, undef, undef, undef, undef, undef, undef, undef, undef, undef, undef, undef, undef, undef, undef, undef, undef, undef], defers := [] } _ 4 { dst := some 46, op := Op.slice 24 (Operand.tmp 44) none (some (Operand.tmp 45)) none, type := 24, pos := "law.go:129", after := #[{ on := 2, ground := Ground.data }, { on := 3, ground := Ground.data }], guard := none } (.slice (some ⟨b, off, none⟩) k n.tc) (by kernel_rfl) (by kernel_rfl) (by kernel_rfl) (by rfl) (fun w' hw => ?hy) hS (by kernel_rfl) (by rfl) ?_
  case hy =>
    clear ht hc hb hd hS
    go_simp
    try with_reducible rfl
  refine ht _ _ #[false, true, true, true, true, false, true, false, false, false, false, false, false, false] _ { tmps := #[Value.agg #[Value.slice n.ca n.cols.length n.cc, Value.slice n.pa n.places.length n.pc, Value.slice n.ta n.tasks.length n.tc, Value.int IntKind.i64 n.frm, Value.int IntKind.i64 n.too], Value.int IntKind.i64 ↑k, Value.pointer (some { block := q, off := 0 }), undef, Value.bool false, Value.bool true, Value.bool true, Value.pointer (some { block := p, off := 0 }), Value.int IntKind.i64 er, Value.pointer (some { block := r, off := 0 }), undef, undef, undef, undef, undef, undef, undef, undef, undef, Value.bool true, Value.agg #[Value.slice n.ca n.cols.length n.cc, Value.slice n.pa n.places.length n.pc, Value.slice n.ta n.tasks.length n.tc, Value.int IntKind.i64 n.frm, Value.int IntKind.i64 n.too], Value.bool true, Value.bool true, Value.bool false, Value.bool false, Value.int IntKind.i64 ↑k, Value.bool (decide (↑k < 0)), Value.bool (decide (↑k < 0)), Value.bool (decide (↑k < 0)), Value.int IntKind.i64 ↑k, Value.pointer (some { block := q, off := 2 }), Value.slice n.ta n.tasks.length n.tc, Value.int IntKind.i64 ↑n.tasks.length, Value.bool false, Value.bool (decide (↑k < 0)), undef, Value.tuple #[Value.agg #[Value.int IntKind.i64 kd, Value.int IntKind.i64 at_], Value.int IntKind.i64 er], Value.agg #[Value.slice n.ca n.cols.length n.cc, Value.slice n.pa n.places.length n.pc, Value.slice n.ta n.tasks.length n.tc, Value.int IntKind.i64 n.frm, Value.int IntKind.i64 n.too], Value.tuple #[Value.agg #[Value.int IntKind.i64 kd, Value.int IntKind.i64 at_], Value.int IntKind.i64 er], Value.agg #[Value.int IntKind.i64 kd, Value.int IntKind.i64 at_], Value.int IntKind.i64 er, Value.agg #[Value.slice n.ca n.cols.length n.cc, Value.slice n.pa n.places.length n.pc, Value.slice n.ta n.tasks.length n.tc, Value.int IntKind.i64 n.frm, Value.int IntKind.i64 n.too], undef, .pointer (some ⟨q, 2, none⟩), .slice (some ⟨b, off, none⟩) n.tasks.length n.tc, .int .i64 ↑k, .slice (some ⟨b, off, none⟩) k n.tc, undef, .pointer (some ⟨q, 2, none⟩), undef, undef, undef, undef, undef, undef, undef, undef, undef, undef, undef, undef, undef, undef, undef, undef, undef, undef, undef, undef, undef, undef, undef, undef, undef, undef, undef, undef, undef, undef, undef, undef, undef, undef, undef, undef, undef, undef, undef, undef, undef, undef, undef, undef, undef, undef, undef, undef, undef, undef, undef, undef, undef, undef, undef, undef, undef, undef, undef, undef, undef, undef, undef, undef, undef, undef, undef, undef], defers := [] } _ 6 { dst := some 48, op := Op.fieldAddr 26 (Operand.tmp 2) 2, type := 0, pos := "law.go:129", after := #[], guard := none } (.pointer (some ⟨q, 2, none⟩)) (by kernel_rfl) (by kernel_rfl) (by kernel_rfl) (by rfl) (fun w' hw => ?hy) hS (by kernel_rfl) (by rfl) ?_
  case hy =>
    clear ht hc hb hd hS
    go_simp
    try with_reducible rfl
  refine ht _ _ #[false, true, true, true, true, false, true, true, false, false, false, false, false, false] _ { tmps := #[Value.agg #[Value.slice n.ca n.cols.length n.cc, Value.slice n.pa n.places.length n.pc, Value.slice n.ta n.tasks.length n.tc, Value.int IntKind.i64 n.frm, Value.int IntKind.i64 n.too], Value.int IntKind.i64 ↑k, Value.pointer (some { block := q, off := 0 }), undef, Value.bool false, Value.bool true, Value.bool true, Value.pointer (some { block := p, off := 0 }), Value.int IntKind.i64 er, Value.pointer (some { block := r, off := 0 }), undef, undef, undef, undef, undef, undef, undef, undef, undef, Value.bool true, Value.agg #[Value.slice n.ca n.cols.length n.cc, Value.slice n.pa n.places.length n.pc, Value.slice n.ta n.tasks.length n.tc, Value.int IntKind.i64 n.frm, Value.int IntKind.i64 n.too], Value.bool true, Value.bool true, Value.bool false, Value.bool false, Value.int IntKind.i64 ↑k, Value.bool (decide (↑k < 0)), Value.bool (decide (↑k < 0)), Value.bool (decide (↑k < 0)), Value.int IntKind.i64 ↑k, Value.pointer (some { block := q, off := 2 }), Value.slice n.ta n.tasks.length n.tc, Value.int IntKind.i64 ↑n.tasks.length, Value.bool false, Value.bool (decide (↑k < 0)), undef, Value.tuple #[Value.agg #[Value.int IntKind.i64 kd, Value.int IntKind.i64 at_], Value.int IntKind.i64 er], Value.agg #[Value.slice n.ca n.cols.length n.cc, Value.slice n.pa n.places.length n.pc, Value.slice n.ta n.tasks.length n.tc, Value.int IntKind.i64 n.frm, Value.int IntKind.i64 n.too], Value.tuple #[Value.agg #[Value.int IntKind.i64 kd, Value.int IntKind.i64 at_], Value.int IntKind.i64 er], Value.agg #[Value.int IntKind.i64 kd, Value.int IntKind.i64 at_], Value.int IntKind.i64 er, Value.agg #[Value.slice n.ca n.cols.length n.cc, Value.slice n.pa n.places.length n.pc, Value.slice n.ta n.tasks.length n.tc, Value.int IntKind.i64 n.frm, Value.int IntKind.i64 n.too], undef, .pointer (some ⟨q, 2, none⟩), .slice (some ⟨b, off, none⟩) n.tasks.length n.tc, .int .i64 ↑k, .slice (some ⟨b, off, none⟩) k n.tc, undef, .pointer (some ⟨q, 2, none⟩), .slice (some ⟨b, off, none⟩) n.tasks.length n.tc, undef, undef, undef, undef, undef, undef, undef, undef, undef, undef, undef, undef, undef, undef, undef, undef, undef, undef, undef, undef, undef, undef, undef, undef, undef, undef, undef, undef, undef, undef, undef, undef, undef, undef, undef, undef, undef, undef, undef, undef, undef, undef, undef, undef, undef, undef, undef, undef, undef, undef, undef, undef, undef, undef, undef, undef, undef, undef, undef, undef, undef, undef, undef, undef, undef, undef, undef], defers := [] } _ 7 { dst := some 49, op := Op.load 24 (Operand.tmp 48), type := 24, pos := "law.go:129", after := #[{ on := 6, ground := Ground.data }], guard := none } (.slice (some ⟨b, off, none⟩) n.tasks.length n.tc) (by kernel_rfl) (by kernel_rfl) (by kernel_rfl) (by rfl) (fun w' hw => ?hy) hS (by kernel_rfl) (by rfl) ?_
  case hy =>
    clear ht hc hb hd hS
    go_simp
    try with_reducible rfl
  refine ht _ _ #[false, true, true, true, true, false, true, true, true, false, false, false, false, false] _ { tmps := #[Value.agg #[Value.slice n.ca n.cols.length n.cc, Value.slice n.pa n.places.length n.pc, Value.slice n.ta n.tasks.length n.tc, Value.int IntKind.i64 n.frm, Value.int IntKind.i64 n.too], Value.int IntKind.i64 ↑k, Value.pointer (some { block := q, off := 0 }), undef, Value.bool false, Value.bool true, Value.bool true, Value.pointer (some { block := p, off := 0 }), Value.int IntKind.i64 er, Value.pointer (some { block := r, off := 0 }), undef, undef, undef, undef, undef, undef, undef, undef, undef, Value.bool true, Value.agg #[Value.slice n.ca n.cols.length n.cc, Value.slice n.pa n.places.length n.pc, Value.slice n.ta n.tasks.length n.tc, Value.int IntKind.i64 n.frm, Value.int IntKind.i64 n.too], Value.bool true, Value.bool true, Value.bool false, Value.bool false, Value.int IntKind.i64 ↑k, Value.bool (decide (↑k < 0)), Value.bool (decide (↑k < 0)), Value.bool (decide (↑k < 0)), Value.int IntKind.i64 ↑k, Value.pointer (some { block := q, off := 2 }), Value.slice n.ta n.tasks.length n.tc, Value.int IntKind.i64 ↑n.tasks.length, Value.bool false, Value.bool (decide (↑k < 0)), undef, Value.tuple #[Value.agg #[Value.int IntKind.i64 kd, Value.int IntKind.i64 at_], Value.int IntKind.i64 er], Value.agg #[Value.slice n.ca n.cols.length n.cc, Value.slice n.pa n.places.length n.pc, Value.slice n.ta n.tasks.length n.tc, Value.int IntKind.i64 n.frm, Value.int IntKind.i64 n.too], Value.tuple #[Value.agg #[Value.int IntKind.i64 kd, Value.int IntKind.i64 at_], Value.int IntKind.i64 er], Value.agg #[Value.int IntKind.i64 kd, Value.int IntKind.i64 at_], Value.int IntKind.i64 er, Value.agg #[Value.slice n.ca n.cols.length n.cc, Value.slice n.pa n.places.length n.pc, Value.slice n.ta n.tasks.length n.tc, Value.int IntKind.i64 n.frm, Value.int IntKind.i64 n.too], undef, .pointer (some ⟨q, 2, none⟩), .slice (some ⟨b, off, none⟩) n.tasks.length n.tc, .int .i64 ↑k, .slice (some ⟨b, off, none⟩) k n.tc, undef, .pointer (some ⟨q, 2, none⟩), .slice (some ⟨b, off, none⟩) n.tasks.length n.tc, .int .i64 ↑k, undef, undef, undef, undef, undef, undef, undef, undef, undef, undef, undef, undef, undef, undef, undef, undef, undef, undef, undef, undef, undef, undef, undef, undef, undef, undef, undef, undef, undef, undef, undef, undef, undef, undef, undef, undef, undef, undef, undef, undef, undef, undef, undef, undef, undef, undef, undef, undef, undef, undef, undef, undef, undef, undef, undef, undef, undef, undef, undef, undef, undef, undef, undef, undef, undef, undef], defers := [] } _ 8 { dst := some 50, op := Op.move (Operand.tmp 1), type := 3, pos := "law.go:129", after := #[], guard := none } (.int .i64 ↑k) (by kernel_rfl) (by kernel_rfl) (by kernel_rfl) (by rfl) (fun w' hw => ?hy) hS (by kernel_rfl) (by rfl) ?_
  case hy =>
    clear ht hc hb hd hS
    go_simp
    try with_reducible rfl
  refine ht _ _ #[false, true, true, true, true, false, true, true, true, true, false, false, false, false] _ { tmps := #[Value.agg #[Value.slice n.ca n.cols.length n.cc, Value.slice n.pa n.places.length n.pc, Value.slice n.ta n.tasks.length n.tc, Value.int IntKind.i64 n.frm, Value.int IntKind.i64 n.too], Value.int IntKind.i64 ↑k, Value.pointer (some { block := q, off := 0 }), undef, Value.bool false, Value.bool true, Value.bool true, Value.pointer (some { block := p, off := 0 }), Value.int IntKind.i64 er, Value.pointer (some { block := r, off := 0 }), undef, undef, undef, undef, undef, undef, undef, undef, undef, Value.bool true, Value.agg #[Value.slice n.ca n.cols.length n.cc, Value.slice n.pa n.places.length n.pc, Value.slice n.ta n.tasks.length n.tc, Value.int IntKind.i64 n.frm, Value.int IntKind.i64 n.too], Value.bool true, Value.bool true, Value.bool false, Value.bool false, Value.int IntKind.i64 ↑k, Value.bool (decide (↑k < 0)), Value.bool (decide (↑k < 0)), Value.bool (decide (↑k < 0)), Value.int IntKind.i64 ↑k, Value.pointer (some { block := q, off := 2 }), Value.slice n.ta n.tasks.length n.tc, Value.int IntKind.i64 ↑n.tasks.length, Value.bool false, Value.bool (decide (↑k < 0)), undef, Value.tuple #[Value.agg #[Value.int IntKind.i64 kd, Value.int IntKind.i64 at_], Value.int IntKind.i64 er], Value.agg #[Value.slice n.ca n.cols.length n.cc, Value.slice n.pa n.places.length n.pc, Value.slice n.ta n.tasks.length n.tc, Value.int IntKind.i64 n.frm, Value.int IntKind.i64 n.too], Value.tuple #[Value.agg #[Value.int IntKind.i64 kd, Value.int IntKind.i64 at_], Value.int IntKind.i64 er], Value.agg #[Value.int IntKind.i64 kd, Value.int IntKind.i64 at_], Value.int IntKind.i64 er, Value.agg #[Value.slice n.ca n.cols.length n.cc, Value.slice n.pa n.places.length n.pc, Value.slice n.ta n.tasks.length n.tc, Value.int IntKind.i64 n.frm, Value.int IntKind.i64 n.too], undef, .pointer (some ⟨q, 2, none⟩), .slice (some ⟨b, off, none⟩) n.tasks.length n.tc, .int .i64 ↑k, .slice (some ⟨b, off, none⟩) k n.tc, undef, .pointer (some ⟨q, 2, none⟩), .slice (some ⟨b, off, none⟩) n.tasks.length n.tc, .int .i64 ↑k, .int .i64 ((k : Int) + 1), undef, undef, undef, undef, undef, undef, undef, undef, undef, undef, undef, undef, undef, undef, undef, undef, undef, undef, undef, undef, undef, undef, undef, undef, undef, undef, undef, undef, undef, undef, undef, undef, undef, undef, undef, undef, undef, undef, undef, undef, undef, undef, undef, undef, undef, undef, undef, undef, undef, undef, undef, undef, undef, undef, undef, undef, undef, undef, undef, undef, undef, undef, undef, undef, undef], defers := [] } _ 9 { dst := some 51, op := Op.binOp BinOp.add 3 (Operand.tmp 50) (Operand.const (Value.int IntKind.i64 1)) 3, type := 3, pos := "law.go:129", after := #[{ on := 8, ground := Ground.data }], guard := none } (.int .i64 ((k : Int) + 1)) (by kernel_rfl) (by kernel_rfl) (by kernel_rfl) (by rfl) (fun w' hw => ?hy) hS (by kernel_rfl) (by rfl) ?_
  case hy =>
    have hwk := wrap_id (x := (k : Int) + 1) (by omega) (by omega)
    clear ht hc hb hd hS
    go_simp
    try with_reducible rfl
  refine ht _ _ #[false, true, true, true, true, false, true, true, true, true, true, false, false, false] _ { tmps := #[Value.agg #[Value.slice n.ca n.cols.length n.cc, Value.slice n.pa n.places.length n.pc, Value.slice n.ta n.tasks.length n.tc, Value.int IntKind.i64 n.frm, Value.int IntKind.i64 n.too], Value.int IntKind.i64 ↑k, Value.pointer (some { block := q, off := 0 }), undef, Value.bool false, Value.bool true, Value.bool true, Value.pointer (some { block := p, off := 0 }), Value.int IntKind.i64 er, Value.pointer (some { block := r, off := 0 }), undef, undef, undef, undef, undef, undef, undef, undef, undef, Value.bool true, Value.agg #[Value.slice n.ca n.cols.length n.cc, Value.slice n.pa n.places.length n.pc, Value.slice n.ta n.tasks.length n.tc, Value.int IntKind.i64 n.frm, Value.int IntKind.i64 n.too], Value.bool true, Value.bool true, Value.bool false, Value.bool false, Value.int IntKind.i64 ↑k, Value.bool (decide (↑k < 0)), Value.bool (decide (↑k < 0)), Value.bool (decide (↑k < 0)), Value.int IntKind.i64 ↑k, Value.pointer (some { block := q, off := 2 }), Value.slice n.ta n.tasks.length n.tc, Value.int IntKind.i64 ↑n.tasks.length, Value.bool false, Value.bool (decide (↑k < 0)), undef, Value.tuple #[Value.agg #[Value.int IntKind.i64 kd, Value.int IntKind.i64 at_], Value.int IntKind.i64 er], Value.agg #[Value.slice n.ca n.cols.length n.cc, Value.slice n.pa n.places.length n.pc, Value.slice n.ta n.tasks.length n.tc, Value.int IntKind.i64 n.frm, Value.int IntKind.i64 n.too], Value.tuple #[Value.agg #[Value.int IntKind.i64 kd, Value.int IntKind.i64 at_], Value.int IntKind.i64 er], Value.agg #[Value.int IntKind.i64 kd, Value.int IntKind.i64 at_], Value.int IntKind.i64 er, Value.agg #[Value.slice n.ca n.cols.length n.cc, Value.slice n.pa n.places.length n.pc, Value.slice n.ta n.tasks.length n.tc, Value.int IntKind.i64 n.frm, Value.int IntKind.i64 n.too], undef, .pointer (some ⟨q, 2, none⟩), .slice (some ⟨b, off, none⟩) n.tasks.length n.tc, .int .i64 ↑k, .slice (some ⟨b, off, none⟩) k n.tc, undef, .pointer (some ⟨q, 2, none⟩), .slice (some ⟨b, off, none⟩) n.tasks.length n.tc, .int .i64 ↑k, .int .i64 ((k : Int) + 1), .slice (some ⟨b, behind off k n.tc, none⟩) (n.tasks.length - (k + 1)) (n.tc - (k + 1)), undef, undef, undef, undef, undef, undef, undef, undef, undef, undef, undef, undef, undef, undef, undef, undef, undef, undef, undef, undef, undef, undef, undef, undef, undef, undef, undef, undef, undef, undef, undef, undef, undef, undef, undef, undef, undef, undef, undef, undef, undef, undef, undef, undef, undef, undef, undef, undef, undef, undef, undef, undef, undef, undef, undef, undef, undef, undef, undef, undef, undef, undef, undef, undef], defers := [] } _ 10 { dst := some 52, op := Op.slice 24 (Operand.tmp 49) (some (Operand.tmp 51)) none none, type := 24, pos := "law.go:129", after := #[{ on := 7, ground := Ground.data }, { on := 9, ground := Ground.data }], guard := none } (.slice (some ⟨b, behind off k n.tc, none⟩) (n.tasks.length - (k + 1)) (n.tc - (k + 1))) (by kernel_rfl) (by kernel_rfl) (by kernel_rfl) (by rfl) (fun w' hw => ?hy) hS (by kernel_rfl) (by rfl) ?_
  case hy =>
    have hSB := SB w'
    clear ht hc hb hd hS
    go_simp
    try with_reducible rfl
  obtain ⟨w7, hw7⟩ : ∃ w7, w7 = (w6.alloc (.cells #[] 53)).drew := ⟨_, rfl⟩
  have H7 : Hid (Below w6.heap.size w6 w7 ∧ w7.ownsRow w6.heap.size 53 14 (.slice (some ⟨w6.heap.size, 0, none⟩) 0 0) 0 (flatT [])) := by
    rw [hw7]; exact ⟨(al_ _ _).drew, own_empty w6⟩
  refine hc _ _ #[true, true, true, true, true, false, true, true, true, true, true, false, false, false] _ _ 0 { dst := some 42, op := Op.buildSlice 24 0 #[], type := 24, pos := "law.go:129", after := #[], guard := none } (by kernel_rfl) (by kernel_rfl) (by kernel_rfl) (fun K hK => ?_)
  have hK0 : Hid _ := hK
  clear hK hS
  go_simp
  rw [← hw7]
  clear hw7
  refine hK0.out _ _ (box_below c2 H7.out.1) ?_
  clear hK0 K
  refine hc _ _ #[true, true, true, true, true, true, true, true, true, true, true, false, false, false] _ _ 5 { dst := some 47, op := Op.call { callee := Callee.builtin Builtin.append, args := #[Operand.tmp 42, Operand.tmp 46], argTypes := #[24, 24] }, type := 24, pos := "law.go:129", after := #[{ on := 0, ground := Ground.data }, { on := 4, ground := Ground.data }], guard := none } (by kernel_rfl) (by kernel_rfl) (by kernel_rfl) (fun K hK => ?_)
  refine step_tasks rfl _ _ rfl rfl rfl H7.out.2 H7.out.1.size (m := k) (news := flatT (n.tasks.take k)) (by rw [flatT_len, List.length_take]; omega) (ahead_lies hkl (HRUN.out w7 (then_ HL6.out.2.2.1 H7.out.1))) (flatT_one _) (by omega) (Nat.zero_add k) (fun A1 C1 w8 h8 hg8 => ?_)
  have H8 : Hid (Below w6.heap.size w6 w8 ∧ w8.ownsRow w6.heap.size 53 14 (.slice A1 k C1) k (flatT [] ++ flatT (n.tasks.take k))) := ⟨H7.out.1.grown hg8 H7.out.1.size (fun j hj => (H7.out.2.lt j hj).1), h8⟩
  refine hK _ _ (box_below c2 H8.out.1) ?_
  clear hK K h8 hg8 H7
  refine hc _ _ #[true, true, true, true, true, true, true, true, true, true, true, true, false, false] _ _ 11 { dst := some 53, op := Op.call { callee := Callee.builtin Builtin.append, args := #[Operand.tmp 47, Operand.tmp 52], argTypes := #[24, 24] }, type := 24, pos := "law.go:129", after := #[{ on := 5, ground := Ground.data }, { on := 10, ground := Ground.data }, { on := 5, ground := Ground.chain }], guard := none } (by kernel_rfl) (by kernel_rfl) (by kernel_rfl) (fun K hK => ?_)
  refine step_tasks rfl _ _ rfl rfl rfl H8.out.2 H8.out.1.size (m := n.tasks.length - (k + 1)) (news := flatT (n.tasks.drop (k + 1))) (by rw [flatT_len, List.length_drop]) (behind_lies hkl htc (HRUN.out w8 (then_ HL6.out.2.2.1 H8.out.1))) (flatT_one _) (by omega) rfl (fun A2 C2 w9 h9 hg9 => ?_)
  have H9 : Hid (Below w6.heap.size w6 w9 ∧ w9.ownsRow w6.heap.size 53 14 (.slice A2 (k + (n.tasks.length - (k + 1))) C2) (k + (n.tasks.length - (k + 1))) (flatT [] ++ flatT (n.tasks.take k) ++ flatT (n.tasks.drop (k + 1)))) := ⟨H8.out.1.grown hg9 H8.out.1.size (fun j hj => (H8.out.2.lt j hj).1), h9⟩
  have c2w := box_below c2 H9.out.1
  refine hK _ _ c2w ?_
  clear hK K h9 hg9 H8
  refine ht _ _ #[true, true, true, true, true, true, true, true, true, true, true, true, true, false] _ { tmps := #[Value.agg #[Value.slice n.ca n.cols.length n.cc, Value.slice n.pa n.places.length n.pc, Value.slice n.ta n.tasks.length n.tc, Value.int IntKind.i64 n.frm, Value.int IntKind.i64 n.too], Value.int IntKind.i64 ↑k, Value.pointer (some { block := q, off := 0 }), undef, Value.bool false, Value.bool true, Value.bool true, Value.pointer (some { block := p, off := 0 }), Value.int IntKind.i64 er, Value.pointer (some { block := r, off := 0 }), undef, undef, undef, undef, undef, undef, undef, undef, undef, Value.bool true, Value.agg #[Value.slice n.ca n.cols.length n.cc, Value.slice n.pa n.places.length n.pc, Value.slice n.ta n.tasks.length n.tc, Value.int IntKind.i64 n.frm, Value.int IntKind.i64 n.too], Value.bool true, Value.bool true, Value.bool false, Value.bool false, Value.int IntKind.i64 ↑k, Value.bool (decide (↑k < 0)), Value.bool (decide (↑k < 0)), Value.bool (decide (↑k < 0)), Value.int IntKind.i64 ↑k, Value.pointer (some { block := q, off := 2 }), Value.slice n.ta n.tasks.length n.tc, Value.int IntKind.i64 ↑n.tasks.length, Value.bool false, Value.bool (decide (↑k < 0)), undef, Value.tuple #[Value.agg #[Value.int IntKind.i64 kd, Value.int IntKind.i64 at_], Value.int IntKind.i64 er], Value.agg #[Value.slice n.ca n.cols.length n.cc, Value.slice n.pa n.places.length n.pc, Value.slice n.ta n.tasks.length n.tc, Value.int IntKind.i64 n.frm, Value.int IntKind.i64 n.too], Value.tuple #[Value.agg #[Value.int IntKind.i64 kd, Value.int IntKind.i64 at_], Value.int IntKind.i64 er], Value.agg #[Value.int IntKind.i64 kd, Value.int IntKind.i64 at_], Value.int IntKind.i64 er, Value.agg #[Value.slice n.ca n.cols.length n.cc, Value.slice n.pa n.places.length n.pc, Value.slice n.ta n.tasks.length n.tc, Value.int IntKind.i64 n.frm, Value.int IntKind.i64 n.too], .slice (some ⟨w6.heap.size, 0, none⟩) 0 0, .pointer (some ⟨q, 2, none⟩), .slice (some ⟨b, off, none⟩) n.tasks.length n.tc, .int .i64 ↑k, .slice (some ⟨b, off, none⟩) k n.tc, .slice A1 k C1, .pointer (some ⟨q, 2, none⟩), .slice (some ⟨b, off, none⟩) n.tasks.length n.tc, .int .i64 ↑k, .int .i64 ((k : Int) + 1), .slice (some ⟨b, behind off k n.tc, none⟩) (n.tasks.length - (k + 1)) (n.tc - (k + 1)), .slice A2 (k + (n.tasks.length - (k + 1))) C2, .pointer (some ⟨r, 2, none⟩), undef, undef, undef, undef, undef, undef, undef, undef, undef, undef, undef, undef, undef, undef, undef, undef, undef, undef, undef, undef, undef, undef, undef, undef, undef, undef, undef, undef, undef, undef, undef, undef, undef, undef, undef, undef, undef, undef, undef, undef, undef, undef, undef, undef, undef, undef, undef, undef, undef, undef, undef, undef, undef, undef, undef, undef, undef, undef, undef, undef, undef, undef], defers := [] } _ 12 { dst := some 54, op := Op.fieldAddr 26 (Operand.tmp 9) 2, type := 0, pos := "law.go:129", after := #[{ on := 0, ground := Ground.phase }, { on := 1, ground := Ground.phase }, { on := 2, ground := Ground.phase }, { on := 3, ground := Ground.phase }, { on := 4, ground := Ground.phase }, { on := 5, ground := Ground.phase }, { on := 6, ground := Ground.phase }, { on := 7, ground := Ground.phase }, { on := 8, ground := Ground.phase }, { on := 9, ground := Ground.phase }, { on := 10, ground := Ground.phase }, { on := 11, ground := Ground.phase }], guard := none } (.pointer (some ⟨r, 2, none⟩)) (by kernel_rfl) (by kernel_rfl) (by kernel_rfl) (by rfl) (fun w' hw => ?hy) c2w (by kernel_rfl) (by rfl) ?_
  case hy =>
    clear ht hc hb hd
    go_simp
    try with_reducible rfl
  have RI9 := rowIs_below RI H9.out.1
  have HFIN : Hid _ := less_fin HL4.out.1.2.2 hkl (by have := HRL.out; omega) (by have := HL6.out.2.2.2.1; omega) (then_ HL6.out.2.2.1 H9.out.1) RI9 H9.out.2
  have z0 : w9.cell? ⟨r, 2, none⟩ = some (.slice n.ta n.tasks.length n.tc) := RI9.cell (i := 2) (by decide)
  have z1 := RI9.frozen 2
  have z2 := RI9.lt
  have HS9 : Hid ((w9.setCell ⟨r, 2, none⟩ (.slice A2 (k + (n.tasks.length - (k + 1))) C2)).cell? ⟨q, 2, none⟩ = some (.slice (some ⟨b, off, none⟩) n.tasks.length n.tc)) := (setCell_ne (by intro e; simp only [Addr.mk.injEq] at e; have := HL6.out.2.2.2.2; omega)).trans c2w
  obtain ⟨wf, hwf⟩ : ∃ wf, wf = w9.setCell ⟨r, 2, none⟩ (.slice A2 (k + (n.tasks.length - (k + 1))) C2) := ⟨_, rfl⟩
  rw [← hwf] at HFIN HS9
  refine hc _ _ #[true, true, true, true, true, true, true, true, true, true, true, true, true, true] _ _ 13 { dst := none, op := Op.store 24 (Operand.tmp 54) (Operand.tmp 53), type := 0, pos := "law.go:129", after := #[{ on := 12, ground := Ground.data }, { on := 11, ground := Ground.data }, { on := 11, ground := Ground.chain }, { on := 0, ground := Ground.phase }, { on := 1, ground := Ground.phase }, { on := 2, ground := Ground.phase }, { on := 3, ground := Ground.phase }, { on := 4, ground := Ground.phase }, { on := 5, ground := Ground.phase }, { on := 6, ground := Ground.phase }, { on := 7, ground := Ground.phase }, { on := 8, ground := Ground.phase }, { on := 9, ground := Ground.phase }, { on := 10, ground := Ground.phase }, { on := 11, ground := Ground.phase }], guard := none } (by kernel_rfl) (by kernel_rfl) (by kernel_rfl) (fun K hK => ?_)
  have hK0 : Hid _ := hK
  clear hK ht hc hb RI RI9 HRUN SB
  go_simp
  rw [← hwf]
  clear hwf z0 z1 z2 c2w
  refine hK0.out _ _ HS9.out ?_
  clear hK0 K HS9
  refine hd _ _ _ _ (by kernel_rfl) ?_
  clear hd F
  obtain ⟨m, hm⟩ : ∃ m, m = lessN n k A2 C2 := ⟨_, rfl⟩
  have HM : Hid (La w wf q n ∧ NBox wf r m ∧ NeOk wf m ∧ m = lessN n k A2 C2 ∧ Below w4.heap.size w4 wf) := ⟨HL4.out.1.on HFIN.out.2.2, by rw [hm]; exact HFIN.out.1, by rw [hm]; exact HFIN.out.2.1, hm, HFIN.out.2.2⟩
  clear HFIN hm H9 c0 c1 c2 c3 c4 HA htc hkl hk' hk2' HRL
  have HMF : Hid (FewN m) := by rw [Hid, HM.out.2.2.2.1]; exact less_few HK.out HF.out
  obtain ⟨d0, d1, d2, d3, d4⟩ := HM.out.2.1
  go_wp2_with fail
  refine (net_any m wf HM.out.2.2.1 HMF.out.sm).mono ?_
  rintro e w10 ⟨kd2, at2, er2, he, hi2, hb⟩
  subst he
  have HE : Hid (er = 0 → er2 = 0) := fun h0 => by
    have hi0 := HI.out
    rw [h0] at hi0
    rw [HM.out.2.2.2.1] at hi2
    exact okN_net (less_ok HK.out (net_ok hi0).2.2) hi2
  have HL10 : Hid (La w w10 q n ∧ NBox w10 r m ∧ NeOk w10 m) := ⟨HM.out.1.on hb, HM.out.2.1.below hb, HM.out.2.2.1.below hb⟩
  clear hi2 hb d0 d1 d2 d3 d4
  go_upto_region 9 with fail
  obtain ⟨w11, hw11⟩ : ∃ w11, w11 = w10.alloc (.cells #[.int .i64 kd2, .int .i64 at2] 30) := ⟨_, rfl⟩
  have hb11 : Below w10.heap.size w10 w11 := by rw [hw11]; exact al_ _ _
  have HL11 : Hid (La w w11 q n ∧ NBox w11 r m ∧ NeOk w11 m) := ⟨HL10.out.1.on hb11, HL10.out.2.1.below hb11, HL10.out.2.2.below hb11⟩
  rw [← hw11]
  clear hw11 hb11 HL10
  obtain ⟨c0, c1, c2, c3, c4⟩ := HL11.out.1.2.1
  go_wp2_with fail
  refine (Reached_any n w11 HL11.out.1.2.2 HF.out.sm (few_sum HF.out)).mono ?_
  rintro e w12 ⟨P, T, a1, p1, a2, p2, he, hto, i1, i2⟩
  subst he
  have HL12 : Hid (La w w12 q n ∧ NBox w12 r m ∧ NeOk w12 m) := ⟨HL11.out.1.on i1.2, HL11.out.2.1.below i1.2, HL11.out.2.2.below i1.2⟩
  have HT : Hid (Told n P T ∧ IR w11 w12 a1 p1 (trueL n.places.length P)) := ⟨hto, i1⟩
  clear hto i1 i2 HL11 c0 c1 c2 c3 c4
  obtain ⟨d0, d1, d2, d3, d4⟩ := HL12.out.2.1
  go_wp2_with fail
  refine (Reached_any m w12 HL12.out.2.2 HMF.out.sm (few_sum HMF.out)).mono ?_
  rintro e w13 ⟨P', T', a3, p3, a4, p4, he, hto, i1, i2⟩
  subst he
  have hnm : NoMore n k P T P' T' := no_more HK.out HT.out.1 (by rw [HM.out.2.2.2.1] at hto; exact hto)
  have ep : m.places.length = n.places.length := by rw [HM.out.2.2.2.1]; rfl
  have et : m.tasks.length = n.tasks.length - 1 := by
    have := less_len (n := n) (k := k) (a := A2) (c := C2) HK.out
    rw [HM.out.2.2.2.1]
    omega
  obtain ⟨LA, hLA⟩ : ∃ LA, LA = trueL n.places.length P := ⟨_, rfl⟩
  obtain ⟨LB, hLB⟩ : ∃ LB, LB = trueL n.tasks.length T := ⟨_, rfl⟩
  obtain ⟨LC, hLC⟩ : ∃ LC, LC = trueL m.places.length P' := ⟨_, rfl⟩
  obtain ⟨LD, hLD⟩ : ∃ LD, LD = trueL m.tasks.length T' := ⟨_, rfl⟩
  have in64 : ∀ (l : Nat) (f : Nat → Bool), l ≤ 70 → ∀ z, z ∈ trueL l f → In64 z := fun l f hl z hz => by
    obtain ⟨j, rfl, hj, _⟩ := trueL_mem.1 hz
    exact i64_nat (by omega)
  have y2 : n.places.length ≤ 70 := HF.out.1.2.1
  have l1 : ¬ (LA.length : Int) < LC.length := by rw [hLA, hLC, ep]; have := hnm.1; omega
  have l2 : ¬ (LB.length : Int) < LD.length := by rw [hLB, hLD, et]; have := hnm.2.1; omega
  have ll1 : LA.length ≤ 70 := by rw [hLA]; have := trueL_len n.places.length P; omega
  have ll2 : LC.length ≤ 70 := by rw [hLC, ep]; have := trueL_len n.places.length P'; omega
  have HN : Hid ((Ns w13 a1 LA ∧ Ns w13 a3 LC) ∧ ∀ z, z ∈ LC → z ∈ LA) := ⟨⟨by rw [hLA]; exact (HT.out.2.ns (in64 _ _ y2)).below i1.2, by rw [hLC]; exact i1.ns (in64 _ _ (by rw [ep]; exact y2))⟩, by rw [hLA, hLC, ep]; exact hnm.2.2⟩
  have HB : Hid (Below w.heap.size w w13) := then_ HL12.out.1.1 i1.2
  rw [← hLA, ← hLB, ← hLC, ← hLD]
  clear hLA hLB hLC hLD in64 hnm ep et hto i1 i2 HT HL12 HM HMF HL4 HL6 HF HI d0 d1 d2 d3 d4 y2 y3 RI0 HK
  by_cases he0 : er = 0
  · have he2 : er2 = 0 := HE.out he0
    subst he0
    subst he2
    go_wp2_with fail
    generalize decide (LA.length < LC.length) = g1
    generalize decide (LB.length < LD.length) = g2
    clear l1 l2
    go_loopw [16] (fun v wv => ∃ i : Nat, v = .int .i64 (i : Int) ∧ i ≤ LC.length ∧ Hid (Below w13.heap.size w13 wv)) (fun v _ => LC.length - (intOf v).toNat)
    case atStart => exact ⟨0, rfl, by omega, Below.refl _ _⟩
    case round =>
      obtain ⟨i, rfl, hi, HW⟩ := hrel
      by_cases hlt : i < LC.length
      · have hlt' : (i : Int) < LC.length := by omega
        have hmem := HN.out.2 (LC.getD i 0) (getD_in hlt 0)
        obtain ⟨jj, hjj, hje⟩ := mem_getD hmem 0
        have HJ : Hid (jj < LA.length ∧ LA.getD jj 0 = LC.getD i 0) := ⟨hjj, hje⟩
        clear hmem hjj hje
        go_wp2_with fail
        go_loopw [17, 18] (fun u v wv => ∃ (bb : Bool) (j : Nat), u = .bool bb ∧ v = .int .i64 (j : Int) ∧ j ≤ LA.length ∧ Hid (Below w13.heap.size w13 wv ∧ (bb = true ∨ j ≤ jj))) (fun _ v _ => LA.length - (intOf v).toNat)
        case atStart => exact ⟨false, 0, rfl, rfl, by omega, HW.out, .inr (Nat.zero_le _)⟩
        case round =>
          clear HW
          obtain ⟨bb, j, rfl, rfl, hj, HW⟩ := hrel
          by_cases hjl : j < LA.length
          · have hjl' : (j : Int) < LA.length := by omega
            have DN : Hid (∀ n, Below w13.heap.size w13 (wr.drewN n)) := fun n => dn' HW.out.1 n
            cases bb with
            | true =>
              go_wp2_with fail
              go_quiet (fail)
              go_wp2_with fail
              go_roundw
              case rel => first | exact ⟨true, j + 1, by simp, by simp, by omega, DN.out _, .inl rfl⟩ | exact ⟨_, _, _, ⟨true, j + 1, by simp, by go_num, by omega, DN.out _, .inl rfl⟩, rfl, rfl, rfl⟩
              all_goals (simp [intOf]; omega)
            | false =>
              obtain ⟨b1, o1, h1, r1, _⟩ := (Ns.below HN.out.1.1 HW.out.1).at hjl
              obtain ⟨b2, o2, h2, r2, _⟩ := (Ns.below HN.out.1.2 HW.out.1).at hlt
              obtain ⟨x, hx⟩ : ∃ x, x = LA.getD j 0 := ⟨_, rfl⟩
              obtain ⟨y, hy⟩ : ∃ y, y = LC.getD i 0 := ⟨_, rfl⟩
              have e1 : wr.cell? ⟨b1, o1 + j, none⟩ = some (.int .i64 x) := by have := r1 0 _ rfl; rw [Nat.mul_one, Nat.add_zero] at this; rw [hx]; exact this
              have e2 : wr.cell? ⟨b2, o2 + i, none⟩ = some (.int .i64 y) := by have := r2 0 _ rfl; rw [Nat.mul_one, Nat.add_zero] at this; rw [hy]; exact this
              have HXY : Hid (x = LA.getD j 0 ∧ y = LC.getD i 0) := ⟨hx, hy⟩
              have H1 : Hid (a1 = some ⟨b1, o1, none⟩ ∧ a3 = some ⟨b2, o2, none⟩) := ⟨h1, h2⟩
              clear r1 r2 hx hy
              subst h1 h2
              cases hxy : (x == y) with
              | true =>
                go_wp2_with fail
                go_quiet (fail)
                go_wp2_with fail
                go_roundw
                case rel => first | exact ⟨true, j + 1, by simp, by simp, by omega, DN.out _, .inl rfl⟩ | exact ⟨_, _, _, ⟨true, j + 1, by simp, by go_num, by omega, DN.out _, .inl rfl⟩, rfl, rfl, rfl⟩
                all_goals (simp [intOf]; omega)
              | false =>
                have NJ : Hid (j + 1 ≤ jj) := by
                  rcases HW.out.2 with h | h
                  · simp at h
                  · rcases Nat.lt_or_ge j jj with g | g
                    · exact g
                    · have e : j = jj := by omega
                      subst e
                      have := ne_of_beq_false hxy
                      exact absurd (by rw [HXY.out.1, HXY.out.2]; exact HJ.out.2) this
                go_wp2_with fail
                go_quiet (fail)
                go_wp2_with fail
                go_roundw
                case rel => first | exact ⟨false, j + 1, by simp, by simp, by omega, DN.out _, .inr NJ.out⟩ | exact ⟨_, _, _, ⟨false, j + 1, by simp, by go_num, by omega, DN.out _, .inr NJ.out⟩, rfl, rfl, rfl⟩
                all_goals (simp [intOf]; omega)
          · have hjl' : ¬ (j : Int) < LA.length := by omega
            obtain rfl : bb = true := by
              rcases HW.out.2 with h | h
              · exact h
              · have := HJ.out.1; omega
            have NX : Hid (Below w13.heap.size w13 wr) := HW.out.1
            go_wp2_with fail
            go_roundw
            case rel => first | exact ⟨i + 1, by simp, by omega, NX⟩ | exact ⟨_, _, ⟨i + 1, by go_num, by omega, NX⟩, rfl, rfl⟩
            all_goals (simp [intOf]; omega)
      · have hlt' : ¬ (i : Int) < LC.length := by omega
        have HZ : Hid (Below w.heap.size w wr) := then_ HB.out HW.out
        go_wp2_with fail
        go_ret
        exact ⟨rfl, HZ.out⟩
  · clear HE
    go_wp2_with fail
    generalize decide (LA.length < LC.length) = g1
    generalize decide (LB.length < LD.length) = g2
    clear l1 l2
    go_loopw [16] (fun v wv => ∃ i : Nat, v = .int .i64 (i : Int) ∧ i ≤ LC.length ∧ Hid (Below w13.heap.size w13 wv)) (fun v _ => LC.length - (intOf v).toNat)
    case atStart => exact ⟨0, rfl, by omega, Below.refl _ _⟩
    case round =>
      obtain ⟨i, rfl, hi, HW⟩ := hrel
      by_cases hlt : i < LC.length
      · have hlt' : (i : Int) < LC.length := by omega
        have hmem := HN.out.2 (LC.getD i 0) (getD_in hlt 0)
        obtain ⟨jj, hjj, hje⟩ := mem_getD hmem 0
        have HJ : Hid (jj < LA.length ∧ LA.getD jj 0 = LC.getD i 0) := ⟨hjj, hje⟩
        clear hmem hjj hje
        go_wp2_with fail
        go_loopw [17, 18] (fun u v wv => ∃ (bb : Bool) (j : Nat), u = .bool bb ∧ v = .int .i64 (j : Int) ∧ j ≤ LA.length ∧ Hid (Below w13.heap.size w13 wv ∧ (bb = true ∨ j ≤ jj))) (fun _ v _ => LA.length - (intOf v).toNat)
        case atStart => exact ⟨false, 0, rfl, rfl, by omega, HW.out, .inr (Nat.zero_le _)⟩
        case round =>
          clear HW
          obtain ⟨bb, j, rfl, rfl, hj, HW⟩ := hrel
          by_cases hjl : j < LA.length
          · have hjl' : (j : Int) < LA.length := by omega
            have DN : Hid (∀ n, Below w13.heap.size w13 (wr.drewN n)) := fun n => dn' HW.out.1 n
            cases bb with
            | true =>
              go_wp2_with fail
              go_quiet (fail)
              go_wp2_with fail
              go_roundw
              case rel => first | exact ⟨true, j + 1, by simp, by simp, by omega, DN.out _, .inl rfl⟩ | exact ⟨_, _, _, ⟨true, j + 1, by simp, by go_num, by omega, DN.out _, .inl rfl⟩, rfl, rfl, rfl⟩
              all_goals (simp [intOf]; omega)
            | false =>
              obtain ⟨b1, o1, h1, r1, _⟩ := (Ns.below HN.out.1.1 HW.out.1).at hjl
              obtain ⟨b2, o2, h2, r2, _⟩ := (Ns.below HN.out.1.2 HW.out.1).at hlt
              obtain ⟨x, hx⟩ : ∃ x, x = LA.getD j 0 := ⟨_, rfl⟩
              obtain ⟨y, hy⟩ : ∃ y, y = LC.getD i 0 := ⟨_, rfl⟩
              have e1 : wr.cell? ⟨b1, o1 + j, none⟩ = some (.int .i64 x) := by have := r1 0 _ rfl; rw [Nat.mul_one, Nat.add_zero] at this; rw [hx]; exact this
              have e2 : wr.cell? ⟨b2, o2 + i, none⟩ = some (.int .i64 y) := by have := r2 0 _ rfl; rw [Nat.mul_one, Nat.add_zero] at this; rw [hy]; exact this
              have HXY : Hid (x = LA.getD j 0 ∧ y = LC.getD i 0) := ⟨hx, hy⟩
              have H1 : Hid (a1 = some ⟨b1, o1, none⟩ ∧ a3 = some ⟨b2, o2, none⟩) := ⟨h1, h2⟩
              clear r1 r2 hx hy
              subst h1 h2
              cases hxy : (x == y) with
              | true =>
                go_wp2_with fail
                go_quiet (fail)
                go_wp2_with fail
                go_roundw
                case rel => first | exact ⟨true, j + 1, by simp, by simp, by omega, DN.out _, .inl rfl⟩ | exact ⟨_, _, _, ⟨true, j + 1, by simp, by go_num, by omega, DN.out _, .inl rfl⟩, rfl, rfl, rfl⟩
                all_goals (simp [intOf]; omega)
              | false =>
                have NJ : Hid (j + 1 ≤ jj) := by
                  rcases HW.out.2 with h | h
                  · simp at h
                  · rcases Nat.lt_or_ge j jj with g | g
                    · exact g
                    · have e : j = jj := by omega
                      subst e
                      have := ne_of_beq_false hxy
                      exact absurd (by rw [HXY.out.1, HXY.out.2]; exact HJ.out.2) this
                go_wp2_with fail
                go_quiet (fail)
                go_wp2_with fail
                go_roundw
                case rel => first | exact ⟨false, j + 1, by simp, by simp, by omega, DN.out _, .inr NJ.out⟩ | exact ⟨_, _, _, ⟨false, j + 1, by simp, by go_num, by omega, DN.out _, .inr NJ.out⟩, rfl, rfl, rfl⟩
                all_goals (simp [intOf]; omega)
          · have hjl' : ¬ (j : Int) < LA.length := by omega
            obtain rfl : bb = true := by
              rcases HW.out.2 with h | h
              · exact h
              · have := HJ.out.1; omega
            have NX : Hid (Below w13.heap.size w13 wr) := HW.out.1
            go_wp2_with fail
            go_roundw
            case rel => first | exact ⟨i + 1, by simp, by omega, NX⟩ | exact ⟨_, _, ⟨i + 1, by go_num, by omega, NX⟩, rfl, rfl⟩
            all_goals (simp [intOf]; omega)
      · have hlt' : ¬ (i : Int) < LC.length := by omega
        have HZ : Hid (Below w.heap.size w wr) := then_ HB.out HW.out
        go_wp2_with fail
        go_ret
        exact ⟨rfl, HZ.out⟩
end Go.Proofs.YtgdkomkflfodaaaGreat.Check
