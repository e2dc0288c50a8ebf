/- check.Place, Task and Binds: contracts of the calls, over the turned program. -/
import Derived.Test.YtgdkomkflfodaaaGreatMaX
namespace Go.Proofs.YtgdkomkflfodaaaGreat.Check
open Go.Proofs.YtgdkomkflfodaaaGreat.Dag Go.RowKit Go.Proofs.YtgdkomkflfodaaaGreat.Frame Go.Proofs.YtgdkomkflfodaaaGreat.Colour Go.Proofs.YtgdkomkflfodaaaGreat.Expr
set_option linter.unusedVariables false
set_option linter.unusedSimpArgs false

def netC (n : Ne) : Array Value := #[.slice n.ca n.cols.length n.cc, .slice n.pa n.places.length n.pc, .slice n.ta n.tasks.length n.tc, .int .i64 n.frm, .int .i64 n.too]
/-- a net in a box -/
def NBox (w : World) (q : Nat) (n : Ne) : Prop := w.cell? ⟨q, 0, none⟩ = some (.slice n.ca n.cols.length n.cc) ∧ w.cell? ⟨q, 1, none⟩ = some (.slice n.pa n.places.length n.pc) ∧ w.cell? ⟨q, 2, none⟩ = some (.slice n.ta n.tasks.length n.tc) ∧ w.cell? ⟨q, 3, none⟩ = some (.int .i64 n.frm) ∧ w.cell? ⟨q, 4, none⟩ = some (.int .i64 n.too)
theorem NBox.below {w w' : World} {q : Nat} {n : Ne} (h : NBox w q n) (hb : Below w.heap.size w w') : NBox w' q n := ⟨box_below h.1 hb, box_below h.2.1 hb, box_below h.2.2.1 hb, box_below h.2.2.2.1 hb, box_below h.2.2.2.2 hb⟩
theorem NBox.new (w : World) (n : Ne) (T : TypeId) : NBox (w.alloc (.cells (netC n) T)) w.heap.size n := by
  refine ⟨?_, ?_, ?_, ?_, ?_⟩ <;> exact (World.cell?_alloc_at _ _ _ _ rfl)
/-- two boxes: a net, and a number -/
theorem two_boxes {w wz : World} {n : Ne} {x : Value} {T1 T2 : TypeId} (hz : wz = (w.alloc (.cells (netC n) T1)).alloc (.cells #[x] T2)) : Below w.heap.size w wz ∧ NBox wz w.heap.size n ∧ wz.cell? ⟨w.heap.size + 1, 0, none⟩ = some x := by
  have hb1 : Below w.heap.size w (w.alloc (.cells (netC n) T1)) := (Below.refl _ _).alloc (Nat.le_refl _) _
  have hb2 : Below (w.alloc (.cells (netC n) T1)).heap.size (w.alloc (.cells (netC n) T1)) wz := by rw [hz]; exact (Below.refl _ _).alloc (Nat.le_refl _) _
  exact ⟨then_ hb1 hb2, (NBox.new w n T1).below hb2, by rw [hz, World.cell?_alloc_at _ _ _ _ (by simp)]; rfl⟩

theorem Place1_any (p q : Nat) (k : Int) (n : Ne) (w : World) (hp : w.cell? ⟨p, 0, none⟩ = some (.int .i64 k)) (hq : NBox w q n) : Calls Tryz.prog 40 #[.pointer (some ⟨p, 0, none⟩), .pointer (some ⟨q, 0, none⟩)] w fun e w' => e = .returned (.bool (!inB k n.places.length)) ∧ Below w.heap.size w w' := by
  obtain ⟨c0, c1, c2, c3, c4⟩ := hq
  go_enter Tryz.func40, Tryz.ntmps40
  go_wp2_with (go_at_call 41; refine (within_any _ _ _).mono ?_; rintro e w' ⟨he, hw⟩; subst he; have hw := hw.symm; subst hw)
  go_ret
  exact ⟨rfl, Below.refl _ _⟩
theorem Task1_any (p q : Nat) (k : Int) (n : Ne) (w : World) (hp : w.cell? ⟨p, 0, none⟩ = some (.int .i64 k)) (hq : NBox w q n) : Calls Tryz.prog 47 #[.pointer (some ⟨p, 0, none⟩), .pointer (some ⟨q, 0, none⟩)] w fun e w' => e = .returned (.bool (!inB k n.tasks.length)) ∧ Below w.heap.size w w' := by
  obtain ⟨c0, c1, c2, c3, c4⟩ := hq
  go_enter Tryz.func47, Tryz.ntmps47
  go_wp2_with (go_at_call 41; refine (within_any _ _ _).mono ?_; rintro e w' ⟨he, hw⟩; subst he; have hw := hw.symm; subst hw)
  go_ret
  exact ⟨rfl, Below.refl _ _⟩
set_option maxRecDepth 10000 in
set_option maxHeartbeats 1000000 in
theorem Task2_any (q : Nat) (n : Ne) (w : World) (hq : NBox w q n) (hn : NeOk w n) (hm : Sm n) : Calls Tryz.prog 48 #[.pointer (some ⟨q, 0, none⟩)] w fun e w' => e = .returned (.bool (decide (wrongF n.cols < n.cols.length))) ∧ Below w.heap.size w w' := by
  obtain ⟨c0, c1, c2, c3, c4⟩ := hq
  have I1 : Hid (Calls Tryz.prog 27 #[.slice n.ca n.cols.length n.cc] w.drew fun e w' => e = .returned (.int .i64 (wrongF n.cols : Int)) ∧ Below w.drew.heap.size w.drew w') := wrongColour_any _ _ _ w.drew (hn.2.1.below (Below.refl _ _).drew) hn.1.2.1 hm.1.1 hm.2.2.2
  generalize wrongF n.cols = x at *
  clear hn hm
  go_enter Tryz.func48, Tryz.ntmps48
  go_wp2_with fail
  refine wp_region_held_drew (S := fun W => Below w.heap.size w W) (by kernel_rfl) ((Below.refl _ _).drew) (fun hS => ?_)
  refine wpAnyH_steps (l' := #[false, false, false, false, false, false, false, false]) (a' := { tmps := #[Value.pointer (some { block := q, off := 0 }), Value.bool false, undef, undef, undef, undef, undef, undef, undef], defers := [] }) (by kernel_rfl) (by rfl) (by kernel_rfl) (fun _ _ d _ _ h => by cases d <;> exact h) (fun F ht hc hb hd => ?_)
  refine ht _ _ #[true, false, false, false, false, false, false, false] _ { tmps := #[Value.pointer (some { block := q, off := 0 }), Value.bool false, .pointer (some ⟨q, 0, none⟩), undef, undef, undef, undef, undef, undef], defers := [] } _ 0 { dst := some 2, op := Op.fieldAddr 26 (Operand.tmp 0) 0, type := 0, pos := "check.go:44", after := #[], guard := none } (.pointer (some ⟨q, 0, none⟩)) (by kernel_rfl) (by kernel_rfl) (by kernel_rfl) (by rfl) (fun w' hw => ?hy) hS (by kernel_rfl) (by rfl) ?_
  case hy =>
    clear ht hc hb hd hS
    go_simp
    try with_reducible rfl
  refine ht _ _ #[true, true, false, false, false, false, false, false] _ { tmps := #[Value.pointer (some { block := q, off := 0 }), Value.bool false, .pointer (some ⟨q, 0, none⟩), .slice n.ca n.cols.length n.cc, undef, undef, undef, undef, undef], defers := [] } _ 1 { dst := some 3, op := Op.load 22 (Operand.tmp 2), type := 22, pos := "check.go:44", after := #[{ on := 0, ground := Ground.data }], guard := none } (.slice n.ca n.cols.length n.cc) (by kernel_rfl) (by kernel_rfl) (by kernel_rfl) (by rfl) (fun w' hw => ?hy) hS (by kernel_rfl) (by rfl) ?_
  case hy =>
    have f0 := box_below c0 hw
    clear ht hc hb hd hS
    go_simp
    try with_reducible rfl
  refine ht _ _ #[true, true, false, true, false, false, false, false] _ { tmps := #[Value.pointer (some { block := q, off := 0 }), Value.bool false, .pointer (some ⟨q, 0, none⟩), .slice n.ca n.cols.length n.cc, undef, .pointer (some ⟨q, 0, none⟩), undef, undef, undef], defers := [] } _ 3 { dst := some 5, op := Op.fieldAddr 26 (Operand.tmp 0) 0, type := 0, pos := "check.go:44", after := #[], guard := none } (.pointer (some ⟨q, 0, none⟩)) (by kernel_rfl) (by kernel_rfl) (by kernel_rfl) (by rfl) (fun w' hw => ?hy) hS (by kernel_rfl) (by rfl) ?_
  case hy =>
    clear ht hc hb hd hS
    go_simp
    try with_reducible rfl
  refine ht _ _ #[true, true, false, true, true, false, false, false] _ { tmps := #[Value.pointer (some { block := q, off := 0 }), Value.bool false, .pointer (some ⟨q, 0, none⟩), .slice n.ca n.cols.length n.cc, undef, .pointer (some ⟨q, 0, none⟩), .slice n.ca n.cols.length n.cc, undef, undef], defers := [] } _ 4 { dst := some 6, op := Op.load 22 (Operand.tmp 5), type := 22, pos := "check.go:44", after := #[{ on := 3, ground := Ground.data }], guard := none } (.slice n.ca n.cols.length n.cc) (by kernel_rfl) (by kernel_rfl) (by kernel_rfl) (by rfl) (fun w' hw => ?hy) hS (by kernel_rfl) (by rfl) ?_
  case hy =>
    have f0 := box_below c0 hw
    clear ht hc hb hd hS
    go_simp
    try with_reducible rfl
  refine ht _ _ #[true, true, false, true, true, true, false, false] _ { tmps := #[Value.pointer (some { block := q, off := 0 }), Value.bool false, .pointer (some ⟨q, 0, none⟩), .slice n.ca n.cols.length n.cc, undef, .pointer (some ⟨q, 0, none⟩), .slice n.ca n.cols.length n.cc, .int .i64 ↑n.cols.length, undef], defers := [] } _ 5 { dst := some 7, op := Op.call { callee := Callee.builtin Builtin.len, args := #[Operand.tmp 6], argTypes := #[22] }, type := 3, pos := "check.go:44", after := #[{ on := 4, ground := Ground.data }], guard := none } (.int .i64 ↑n.cols.length) (by kernel_rfl) (by kernel_rfl) (by kernel_rfl) (by rfl) (fun w' hw => ?hy) hS (by kernel_rfl) (by rfl) ?_
  case hy =>
    clear ht hc hb hd hS
    go_simp
    try with_reducible rfl
  refine hc _ _ #[true, true, true, true, true, true, false, false] _ _ 2 { dst := some 4, op := Op.call { callee := Callee.value (Operand.func 27), args := #[Operand.tmp 3], argTypes := #[22] }, type := 3, pos := "check.go:44", after := #[{ on := 1, ground := Ground.data }], guard := none } (by kernel_rfl) (by kernel_rfl) (by kernel_rfl) (fun K hK => ?_)
  have hK0 : Hid _ := hK
  clear hK hS
  go_simp
  refine I1.out.mono ?_
  rintro e w1 ⟨he, hb⟩
  subst he
  have hS : Below w.heap.size w w1 := then_ (Below.refl _ _).drew hb
  clear hb I1
  try go_simp
  refine hK0.out _ _ hS ?_
  clear hK0 K
  refine ht _ _ #[true, true, true, true, true, true, true, false] _ { tmps := #[Value.pointer (some { block := q, off := 0 }), Value.bool false, .pointer (some ⟨q, 0, none⟩), .slice n.ca n.cols.length n.cc, .int .i64 ↑x, .pointer (some ⟨q, 0, none⟩), .slice n.ca n.cols.length n.cc, .int .i64 ↑n.cols.length, .bool (decide ((x : Int) < n.cols.length))], defers := [] } _ 6 { dst := some 8, op := Op.binOp BinOp.lss 3 (Operand.tmp 4) (Operand.tmp 7) 3, type := 4, pos := "check.go:44", after := #[{ on := 2, ground := Ground.data }, { on := 5, ground := Ground.data }], guard := none } (.bool (decide ((x : Int) < n.cols.length))) (by kernel_rfl) (by kernel_rfl) (by kernel_rfl) (by rfl) (fun w' hw => ?hy) hS (by kernel_rfl) (by rfl) ?_
  case hy =>
    clear ht hc hb hd hS
    go_simp
    try with_reducible rfl
  refine ht _ _ #[true, true, true, true, true, true, true, true] _ { tmps := #[Value.pointer (some { block := q, off := 0 }), .bool (decide ((x : Int) < n.cols.length)), .pointer (some ⟨q, 0, none⟩), .slice n.ca n.cols.length n.cc, .int .i64 ↑x, .pointer (some ⟨q, 0, none⟩), .slice n.ca n.cols.length n.cc, .int .i64 ↑n.cols.length, .bool (decide ((x : Int) < n.cols.length))], defers := [] } _ 7 { dst := some 1, op := Op.assign (Operand.tmp 8), type := 4, pos := "check.go:44", after := #[{ on := 6, ground := Ground.data }, { on := 2, ground := Ground.chain }, { on := 0, ground := Ground.phase }, { on := 1, ground := Ground.phase }, { on := 2, ground := Ground.phase }, { on := 3, ground := Ground.phase }, { on := 4, ground := Ground.phase }, { on := 5, ground := Ground.phase }, { on := 6, ground := Ground.phase }], guard := none } (.bool (decide ((x : Int) < n.cols.length))) (by kernel_rfl) (by kernel_rfl) (by kernel_rfl) (by rfl) (fun w' hw => ?hy) hS (by kernel_rfl) (by rfl) ?_
  case hy =>
    clear ht hc hb hd hS
    go_simp
    try with_reducible rfl
  refine hd _ _ _ _ (by kernel_rfl) ?_
  clear ht hc hb hd F
  have HB : Hid (Below w.heap.size w w1) := hS
  clear hS
  go_wp2_with fail
  go_ret
  exact ⟨Colour.retb (by rw [Bool.eq_iff_iff]; simp), HB.out⟩
set_option maxRecDepth 10000 in
set_option maxHeartbeats 1000000 in
theorem Place2_any (p q k : Nat) (n : Ne) (w : World) (hp : w.cell? ⟨p, 0, none⟩ = some (.int .i64 (k : Int))) (hq : NBox w q n) (hn : NeOk w n) (hm : Sm n) (hk : k < n.places.length) : Calls Tryz.prog 42 #[.pointer (some ⟨q, 0, none⟩), .pointer (some ⟨p, 0, none⟩)] w fun e w' => e = .returned (.int .i64 (placeF n k)) ∧ Below w.heap.size w w' := by
  obtain ⟨c0, c1, c2, c3, c4⟩ := hq
  have I1 : Hid (Calls Tryz.prog 26 #[.agg (netC n)] w.drew fun e w' => ∃ g, e = .returned (.agg (subC n g)) ∧ Sz w' g n ∧ Below w.drew.heap.size w.drew w') := about_any n w.drew (hn.below (Below.refl _ _).drew) hm.1.1
  have H0 : Hid (NeOk w n ∧ Sm n ∧ k < n.places.length) := ⟨hn, hm, hk⟩
  unfold netC at I1
  clear hn hm hk
  go_enter Tryz.func42, Tryz.ntmps42
  go_wp2_with fail
  refine wp_region_held_drew (S := fun W => Below w.heap.size w W) (by kernel_rfl) ((Below.refl _ _).drew) (fun hS => ?_)
  refine wpAnyH_steps (l' := #[false, false, false, false, false]) (a' := { tmps := #[Value.pointer (some { block := q, off := 0 }), Value.pointer (some { block := p, off := 0 }), Value.int IntKind.i64 0, undef, undef, undef, undef], defers := [] }) (by kernel_rfl) (by rfl) (by kernel_rfl) (fun _ _ d _ _ h => by cases d <;> exact h) (fun F ht hc hb hd => ?_)
  refine ht _ _ #[true, false, false, false, false] _ { tmps := #[Value.pointer (some { block := q, off := 0 }), Value.pointer (some { block := p, off := 0 }), Value.int IntKind.i64 0, .agg #[.slice n.ca n.cols.length n.cc, .slice n.pa n.places.length n.pc, .slice n.ta n.tasks.length n.tc, .int .i64 n.frm, .int .i64 n.too], undef, undef, undef], defers := [] } _ 0 { dst := some 3, op := Op.load 26 (Operand.tmp 0), type := 26, pos := "check.go:36", after := #[], guard := none } (.agg #[.slice n.ca n.cols.length n.cc, .slice n.pa n.places.length n.pc, .slice n.ta n.tasks.length n.tc, .int .i64 n.frm, .int .i64 n.too]) (by kernel_rfl) (by kernel_rfl) (by kernel_rfl) (by rfl) (fun w' hw => ?hy) hS (by kernel_rfl) (by rfl) ?_
  case hy =>
    have f0 := box_below c0 hw
    have f1 := box_below c1 hw
    have f2 := box_below c2 hw
    have f3 := box_below c3 hw
    have f4 := box_below c4 hw
    clear ht hc hb hd hS
    go_simp
    try with_reducible rfl
  refine ht _ _ #[true, false, true, false, false] _ { tmps := #[Value.pointer (some { block := q, off := 0 }), Value.pointer (some { block := p, off := 0 }), Value.int IntKind.i64 0, .agg #[.slice n.ca n.cols.length n.cc, .slice n.pa n.places.length n.pc, .slice n.ta n.tasks.length n.tc, .int .i64 n.frm, .int .i64 n.too], undef, .int .i64 ↑k, undef], defers := [] } _ 2 { dst := some 5, op := Op.load 3 (Operand.tmp 1), type := 3, pos := "check.go:36", after := #[], guard := none } (.int .i64 ↑k) (by kernel_rfl) (by kernel_rfl) (by kernel_rfl) (by rfl) (fun w' hw => ?hy) hS (by kernel_rfl) (by rfl) ?_
  case hy =>
    have f0 := box_below hp hw
    clear ht hc hb hd hS
    go_simp
    try with_reducible rfl
  refine hc _ _ #[true, true, true, false, false] _ _ 1 { dst := some 4, op := Op.call { callee := Callee.value (Operand.func 26), args := #[Operand.tmp 3], argTypes := #[26] }, type := 67, pos := "check.go:36", after := #[{ on := 0, ground := Ground.data }], guard := none } (by kernel_rfl) (by kernel_rfl) (by kernel_rfl) (fun K hK => ?_)
  have hK0 : Hid _ := hK
  clear hK hS
  go_simp
  refine I1.out.mono ?_
  rintro e w1 ⟨g, he, hsz, hb⟩
  subst he
  have hS : Below w.heap.size w w1 := then_ (Below.refl _ _).drew hb
  have HS1 : Hid (Below w.heap.size w w1) := hS
  have I2 : Hid (Calls Tryz.prog 35 #[.agg (subC n g), .int .i64 (k : Int)] w1 fun e w' => e = .returned (.int .i64 (placeF n k)) ∧ Below w1.heap.size w1 w') := place_any n g k w1 ⟨H0.out.1.below hS, hsz, H0.out.2.1⟩ H0.out.2.2
  unfold subC at I2 ⊢
  clear hb I1 hsz
  try go_simp
  refine hK0.out _ _ hS ?_
  clear hK0 K
  refine hc _ _ #[true, true, true, true, false] _ _ 3 { dst := some 6, op := Op.call { callee := Callee.value (Operand.func 35), args := #[Operand.tmp 4, Operand.tmp 5], argTypes := #[67, 3] }, type := 31, pos := "check.go:36", after := #[{ on := 1, ground := Ground.data }, { on := 2, ground := Ground.data }, { on := 1, ground := Ground.chain }], guard := none } (by kernel_rfl) (by kernel_rfl) (by kernel_rfl) (fun K hK => ?_)
  have hK0 : Hid _ := hK
  clear hK hS
  go_simp
  refine I2.out.mono ?_
  rintro e w2 ⟨he, hb⟩
  subst he
  have hS : Below w.heap.size w w2 := then_ HS1.out hb
  clear hb I2
  try go_simp
  refine hK0.out _ _ hS ?_
  clear hK0 K
  refine ht _ _ #[true, true, true, true, true] _ { tmps := #[Value.pointer (some { block := q, off := 0 }), Value.pointer (some { block := p, off := 0 }), .int .i64 (placeF n k), .agg #[.slice n.ca n.cols.length n.cc, .slice n.pa n.places.length n.pc, .slice n.ta n.tasks.length n.tc, .int .i64 n.frm, .int .i64 n.too], .agg #[.slice n.ca n.cols.length n.cc, .slice n.pa n.places.length n.pc, .slice n.ta n.tasks.length n.tc, .int .i64 n.frm, .int .i64 n.too, .slice (some ⟨g, 0, none⟩) n.cols.length n.cols.length], .int .i64 ↑k, .int .i64 (placeF n k)], defers := [] } _ 4 { dst := some 2, op := Op.assign (Operand.tmp 6), type := 31, pos := "check.go:36", after := #[{ on := 3, ground := Ground.data }, { on := 3, ground := Ground.chain }, { on := 0, ground := Ground.phase }, { on := 1, ground := Ground.phase }, { on := 2, ground := Ground.phase }, { on := 3, ground := Ground.phase }], guard := none } (.int .i64 (placeF n k)) (by kernel_rfl) (by kernel_rfl) (by kernel_rfl) (by rfl) (fun w' hw => ?hy) hS (by kernel_rfl) (by rfl) ?_
  case hy =>
    clear ht hc hb hd hS
    go_simp
    try with_reducible rfl
  refine hd _ _ _ _ (by kernel_rfl) ?_
  clear ht hc hb hd F
  have HB : Hid (Below w.heap.size w w2) := hS
  clear hS
  go_wp2_with fail
  go_ret
  exact ⟨rfl, HB.out⟩
set_option maxRecDepth 10000 in
set_option maxHeartbeats 1000000 in
theorem Task3_any (p q k : Nat) (n : Ne) (w : World) (hp : w.cell? ⟨p, 0, none⟩ = some (.int .i64 (k : Int))) (hq : NBox w q n) (hn : NeOk w n) (hm : Sm n) (hk : k < n.tasks.length) : Calls Tryz.prog 49 #[.pointer (some ⟨q, 0, none⟩), .pointer (some ⟨p, 0, none⟩)] w fun e w' => e = .returned (.int .i64 (taskF n k)) ∧ Below w.heap.size w w' := by
  obtain ⟨c0, c1, c2, c3, c4⟩ := hq
  have I1 : Hid (Calls Tryz.prog 26 #[.agg (netC n)] w.drew fun e w' => ∃ g, e = .returned (.agg (subC n g)) ∧ Sz w' g n ∧ Below w.drew.heap.size w.drew w') := about_any n w.drew (hn.below (Below.refl _ _).drew) hm.1.1
  have H0 : Hid (NeOk w n ∧ Sm n ∧ k < n.tasks.length) := ⟨hn, hm, hk⟩
  unfold netC at I1
  clear hn hm hk
  go_enter Tryz.func49, Tryz.ntmps49
  go_wp2_with fail
  refine wp_region_held_drew (S := fun W => Below w.heap.size w W) (by kernel_rfl) ((Below.refl _ _).drew) (fun hS => ?_)
  refine wpAnyH_steps (l' := #[false, false, false, false, false]) (a' := { tmps := #[Value.pointer (some { block := q, off := 0 }), Value.pointer (some { block := p, off := 0 }), Value.int IntKind.i64 0, undef, undef, undef, undef], defers := [] }) (by kernel_rfl) (by rfl) (by kernel_rfl) (fun _ _ d _ _ h => by cases d <;> exact h) (fun F ht hc hb hd => ?_)
  refine ht _ _ #[true, false, false, false, false] _ { tmps := #[Value.pointer (some { block := q, off := 0 }), Value.pointer (some { block := p, off := 0 }), Value.int IntKind.i64 0, .agg #[.slice n.ca n.cols.length n.cc, .slice n.pa n.places.length n.pc, .slice n.ta n.tasks.length n.tc, .int .i64 n.frm, .int .i64 n.too], undef, undef, undef], defers := [] } _ 0 { dst := some 3, op := Op.load 26 (Operand.tmp 0), type := 26, pos := "check.go:45", after := #[], guard := none } (.agg #[.slice n.ca n.cols.length n.cc, .slice n.pa n.places.length n.pc, .slice n.ta n.tasks.length n.tc, .int .i64 n.frm, .int .i64 n.too]) (by kernel_rfl) (by kernel_rfl) (by kernel_rfl) (by rfl) (fun w' hw => ?hy) hS (by kernel_rfl) (by rfl) ?_
  case hy =>
    have f0 := box_below c0 hw
    have f1 := box_below c1 hw
    have f2 := box_below c2 hw
    have f3 := box_below c3 hw
    have f4 := box_below c4 hw
    clear ht hc hb hd hS
    go_simp
    try with_reducible rfl
  refine ht _ _ #[true, false, true, false, false] _ { tmps := #[Value.pointer (some { block := q, off := 0 }), Value.pointer (some { block := p, off := 0 }), Value.int IntKind.i64 0, .agg #[.slice n.ca n.cols.length n.cc, .slice n.pa n.places.length n.pc, .slice n.ta n.tasks.length n.tc, .int .i64 n.frm, .int .i64 n.too], undef, .int .i64 ↑k, undef], defers := [] } _ 2 { dst := some 5, op := Op.load 3 (Operand.tmp 1), type := 3, pos := "check.go:45", after := #[], guard := none } (.int .i64 ↑k) (by kernel_rfl) (by kernel_rfl) (by kernel_rfl) (by rfl) (fun w' hw => ?hy) hS (by kernel_rfl) (by rfl) ?_
  case hy =>
    have f0 := box_below hp hw
    clear ht hc hb hd hS
    go_simp
    try with_reducible rfl
  refine hc _ _ #[true, true, true, false, false] _ _ 1 { dst := some 4, op := Op.call { callee := Callee.value (Operand.func 26), args := #[Operand.tmp 3], argTypes := #[26] }, type := 67, pos := "check.go:45", after := #[{ on := 0, ground := Ground.data }], guard := none } (by kernel_rfl) (by kernel_rfl) (by kernel_rfl) (fun K hK => ?_)
  have hK0 : Hid _ := hK
  clear hK hS
  go_simp
  refine I1.out.mono ?_
  rintro e w1 ⟨g, he, hsz, hb⟩
  subst he
  have hS : Below w.heap.size w w1 := then_ (Below.refl _ _).drew hb
  have HS1 : Hid (Below w.heap.size w w1) := hS
  have I2 : Hid (Calls Tryz.prog 37 #[.agg (subC n g), .int .i64 (k : Int)] w1 fun e w' => e = .returned (.int .i64 (taskF n k)) ∧ Below w1.heap.size w1 w') := task_any n g k w1 ⟨H0.out.1.below hS, hsz, H0.out.2.1⟩ H0.out.2.2
  unfold subC at I2 ⊢
  clear hb I1 hsz
  try go_simp
  refine hK0.out _ _ hS ?_
  clear hK0 K
  refine hc _ _ #[true, true, true, true, false] _ _ 3 { dst := some 6, op := Op.call { callee := Callee.value (Operand.func 37), args := #[Operand.tmp 4, Operand.tmp 5], argTypes := #[67, 3] }, type := 31, pos := "check.go:45", after := #[{ on := 1, ground := Ground.data }, { on := 2, ground := Ground.data }, { on := 1, ground := Ground.chain }], guard := none } (by kernel_rfl) (by kernel_rfl) (by kernel_rfl) (fun K hK => ?_)
  have hK0 : Hid _ := hK
  clear hK hS
  go_simp
  refine I2.out.mono ?_
  rintro e w2 ⟨he, hb⟩
  subst he
  have hS : Below w.heap.size w w2 := then_ HS1.out hb
  clear hb I2
  try go_simp
  refine hK0.out _ _ hS ?_
  clear hK0 K
  refine ht _ _ #[true, true, true, true, true] _ { tmps := #[Value.pointer (some { block := q, off := 0 }), Value.pointer (some { block := p, off := 0 }), .int .i64 (taskF n k), .agg #[.slice n.ca n.cols.length n.cc, .slice n.pa n.places.length n.pc, .slice n.ta n.tasks.length n.tc, .int .i64 n.frm, .int .i64 n.too], .agg #[.slice n.ca n.cols.length n.cc, .slice n.pa n.places.length n.pc, .slice n.ta n.tasks.length n.tc, .int .i64 n.frm, .int .i64 n.too, .slice (some ⟨g, 0, none⟩) n.cols.length n.cols.length], .int .i64 ↑k, .int .i64 (taskF n k)], defers := [] } _ 4 { dst := some 2, op := Op.assign (Operand.tmp 6), type := 31, pos := "check.go:45", after := #[{ on := 3, ground := Ground.data }, { on := 3, ground := Ground.chain }, { on := 0, ground := Ground.phase }, { on := 1, ground := Ground.phase }, { on := 2, ground := Ground.phase }, { on := 3, ground := Ground.phase }], guard := none } (.int .i64 (taskF n k)) (by kernel_rfl) (by kernel_rfl) (by kernel_rfl) (by rfl) (fun w' hw => ?hy) hS (by kernel_rfl) (by rfl) ?_
  case hy =>
    clear ht hc hb hd hS
    go_simp
    try with_reducible rfl
  refine hd _ _ _ _ (by kernel_rfl) ?_
  clear ht hc hb hd F
  have HB : Hid (Below w.heap.size w w2) := hS
  clear hS
  go_wp2_with fail
  go_ret
  exact ⟨rfl, HB.out⟩
set_option maxRecDepth 10000 in
set_option maxHeartbeats 1000000 in
theorem Binds_yes (n : Ne) (k : Nat) (w : World) (hn : NeOk w n) (hm : Sm n) (hk : k < n.tasks.length) : Calls Tryz.prog 16 #[.agg (netC n), .int .i64 (k : Int)] w fun e w' => e = .returned (.int .i64 (bindsF n.cols (n.tasks.getD k nilTa).vars)) ∧ Below w.heap.size w w' := by
  obtain ⟨wz, hwz⟩ : ∃ wz, wz = w.alloc (.cells (netC n) 26) := ⟨_, rfl⟩
  have hz : Below w.heap.size w wz := by rw [hwz]; exact (Below.refl _ _).alloc (Nat.le_refl _) _
  have hnb : NBox wz w.heap.size n := by rw [hwz]; exact NBox.new w n _
  obtain ⟨c0, c1, c2, c3, c4⟩ := hnb
  have HW : Hid (∀ W, Calls Tryz.prog 41 #[.int .i64 (k : Int), .int .i64 (n.tasks.length : Int)] W fun e w' => e = .returned (.bool true) ∧ w' = W) := fun W => by rw [← inB_nat hk]; exact within_any _ _ W
  have I1 : Hid (Calls Tryz.prog 26 #[.agg (netC n)] wz.drew fun e w' => ∃ g, e = .returned (.agg (subC n g)) ∧ Sz w' g n ∧ Below wz.drew.heap.size wz.drew w') := about_any n wz.drew ((hn.below hz).below (Below.refl _ _).drew) hm.1.1
  obtain ⟨b, off, ha, hr, ho⟩ := hn.2.2.2.at hk
  have hk' : (k : Int) < n.tasks.length := by omega
  have H0 : Hid (NeOk w n ∧ Sm n ∧ Below w.heap.size w wz ∧ Vas w (n.tasks.getD k nilTa).va (n.tasks.getD k nilTa).vars ∧ (n.tasks.getD k nilTa).vars.length ≤ 1000000) := ⟨hn, hm, hz, ho.2.2.1, (hm.2.2.1 _ (task_mem hk)).1⟩
  obtain ⟨t, ht⟩ : ∃ t, t = n.tasks.getD k nilTa := ⟨_, rfl⟩
  rw [← ht] at hr H0 ⊢
  have d1 : w.cell? ⟨b, off + k * 14 + 1, none⟩ = some (.slice t.va t.vars.length t.vc) := hr 1 _ rfl
  have d1 : wz.cell? ⟨b, off + k * 14 + 1, none⟩ = some (.slice t.va t.vars.length t.vc) := box_below d1 hz
  unfold netC at *
  rw [ha] at c2 hwz I1 ⊢
  clear hn hm hz hr ho ht hk
  go_enter Tryz.func16, Tryz.ntmps16
  go_wp2_with fail
  rw [← hwz]
  refine (HW.out _).mono ?_
  rintro e w1 ⟨he, hw⟩
  subst he
  have hw := hw.symm
  subst hw
  clear hwz
  go_upto_region 3 with fail
  refine wp_region_held_drew (S := fun W => Below wz.heap.size wz W) (by kernel_rfl) ((Below.refl _ _).drew) (fun hS => ?_)
  refine wpAnyH_steps (l' := #[false, false, false, false, false, false, false, false, false, false]) (a' := { tmps := #[Value.agg #[Value.slice n.ca n.cols.length n.cc, Value.slice n.pa n.places.length n.pc, Value.slice (some { block := b, off := off }) n.tasks.length n.tc, Value.int IntKind.i64 n.frm, Value.int IntKind.i64 n.too], Value.int IntKind.i64 ↑k, Value.pointer (some { block := w.heap.size, off := 0 }), undef, Value.int IntKind.i64 0, Value.int IntKind.i64 ↑k, Value.pointer (some { block := w.heap.size, off := 2 }), Value.slice (some { block := b, off := off }) n.tasks.length n.tc, Value.int IntKind.i64 ↑n.tasks.length, Value.bool true, Value.bool false, undef, undef, undef, undef, undef, undef, undef, undef, undef], defers := [] }) (by kernel_rfl) (by rfl) (by kernel_rfl) (fun _ _ d _ _ h => by cases d <;> exact h) (fun F ht hc hb hd => ?_)
  refine ht _ _ #[true, false, false, false, false, false, false, false, false, false] _ { tmps := #[Value.agg #[Value.slice n.ca n.cols.length n.cc, Value.slice n.pa n.places.length n.pc, Value.slice (some { block := b, off := off }) n.tasks.length n.tc, Value.int IntKind.i64 n.frm, Value.int IntKind.i64 n.too], Value.int IntKind.i64 ↑k, Value.pointer (some { block := w.heap.size, off := 0 }), undef, Value.int IntKind.i64 0, Value.int IntKind.i64 ↑k, Value.pointer (some { block := w.heap.size, off := 2 }), Value.slice (some { block := b, off := off }) n.tasks.length n.tc, Value.int IntKind.i64 ↑n.tasks.length, Value.bool true, Value.bool false, .agg #[.slice n.ca n.cols.length n.cc, .slice n.pa n.places.length n.pc, .slice (some ⟨b, off, none⟩) n.tasks.length n.tc, .int .i64 n.frm, .int .i64 n.too], undef, undef, undef, undef, undef, undef, undef, undef], defers := [] } _ 0 { dst := some 11, op := Op.load 26 (Operand.tmp 2), type := 26, pos := "check.go:54", after := #[], guard := none } (.agg #[.slice n.ca n.cols.length n.cc, .slice n.pa n.places.length n.pc, .slice (some ⟨b, off, none⟩) n.tasks.length n.tc, .int .i64 n.frm, .int .i64 n.too]) (by kernel_rfl) (by kernel_rfl) (by kernel_rfl) (by rfl) (fun w' hw => ?hy) hS (by kernel_rfl) (by rfl) ?_
  case hy =>
    have f0 := box_below c0 hw
    have f1 := box_below c1 hw
    have f2 := box_below c2 hw
    have f3 := box_below c3 hw
    have f4 := box_below c4 hw
    clear ht hc hb hd hS
    go_simp
    try with_reducible rfl
  refine ht _ _ #[true, false, true, false, false, false, false, false, false, false] _ { tmps := #[Value.agg #[Value.slice n.ca n.cols.length n.cc, Value.slice n.pa n.places.length n.pc, Value.slice (some { block := b, off := off }) n.tasks.length n.tc, Value.int IntKind.i64 n.frm, Value.int IntKind.i64 n.too], Value.int IntKind.i64 ↑k, Value.pointer (some { block := w.heap.size, off := 0 }), undef, Value.int IntKind.i64 0, Value.int IntKind.i64 ↑k, Value.pointer (some { block := w.heap.size, off := 2 }), Value.slice (some { block := b, off := off }) n.tasks.length n.tc, Value.int IntKind.i64 ↑n.tasks.length, Value.bool true, Value.bool false, .agg #[.slice n.ca n.cols.length n.cc, .slice n.pa n.places.length n.pc, .slice (some ⟨b, off, none⟩) n.tasks.length n.tc, .int .i64 n.frm, .int .i64 n.too], undef, .pointer (some ⟨w.heap.size, 2, none⟩), undef, undef, undef, undef, undef, undef], defers := [] } _ 2 { dst := some 13, op := Op.fieldAddr 26 (Operand.tmp 2) 2, type := 0, pos := "check.go:54", after := #[], guard := none } (.pointer (some ⟨w.heap.size, 2, none⟩)) (by kernel_rfl) (by kernel_rfl) (by kernel_rfl) (by rfl) (fun w' hw => ?hy) hS (by kernel_rfl) (by rfl) ?_
  case hy =>
    clear ht hc hb hd hS
    go_simp
    try with_reducible rfl
  refine ht _ _ #[true, false, true, true, false, false, false, false, false, false] _ { tmps := #[Value.agg #[Value.slice n.ca n.cols.length n.cc, Value.slice n.pa n.places.length n.pc, Value.slice (some { block := b, off := off }) n.tasks.length n.tc, Value.int IntKind.i64 n.frm, Value.int IntKind.i64 n.too], Value.int IntKind.i64 ↑k, Value.pointer (some { block := w.heap.size, off := 0 }), undef, Value.int IntKind.i64 0, Value.int IntKind.i64 ↑k, Value.pointer (some { block := w.heap.size, off := 2 }), Value.slice (some { block := b, off := off }) n.tasks.length n.tc, Value.int IntKind.i64 ↑n.tasks.length, Value.bool true, Value.bool false, .agg #[.slice n.ca n.cols.length n.cc, .slice n.pa n.places.length n.pc, .slice (some ⟨b, off, none⟩) n.tasks.length n.tc, .int .i64 n.frm, .int .i64 n.too], undef, .pointer (some ⟨w.heap.size, 2, none⟩), .slice (some ⟨b, off, none⟩) n.tasks.length n.tc, undef, undef, undef, undef, undef], defers := [] } _ 3 { dst := some 14, op := Op.load 24 (Operand.tmp 13), type := 24, pos := "check.go:54", after := #[{ on := 2, ground := Ground.data }], guard := none } (.slice (some ⟨b, off, none⟩) n.tasks.length n.tc) (by kernel_rfl) (by kernel_rfl) (by kernel_rfl) (by rfl) (fun w' hw => ?hy) hS (by kernel_rfl) (by rfl) ?_
  case hy =>
    have f2 := box_below c2 hw
    clear ht hc hb hd hS
    go_simp
    try with_reducible rfl
  refine ht _ _ #[true, false, true, true, true, false, false, false, false, false] _ { tmps := #[Value.agg #[Value.slice n.ca n.cols.length n.cc, Value.slice n.pa n.places.length n.pc, Value.slice (some { block := b, off := off }) n.tasks.length n.tc, Value.int IntKind.i64 n.frm, Value.int IntKind.i64 n.too], Value.int IntKind.i64 ↑k, Value.pointer (some { block := w.heap.size, off := 0 }), undef, Value.int IntKind.i64 0, Value.int IntKind.i64 ↑k, Value.pointer (some { block := w.heap.size, off := 2 }), Value.slice (some { block := b, off := off }) n.tasks.length n.tc, Value.int IntKind.i64 ↑n.tasks.length, Value.bool true, Value.bool false, .agg #[.slice n.ca n.cols.length n.cc, .slice n.pa n.places.length n.pc, .slice (some ⟨b, off, none⟩) n.tasks.length n.tc, .int .i64 n.frm, .int .i64 n.too], undef, .pointer (some ⟨w.heap.size, 2, none⟩), .slice (some ⟨b, off, none⟩) n.tasks.length n.tc, .int .i64 ↑k, undef, undef, undef, undef], defers := [] } _ 4 { dst := some 15, op := Op.move (Operand.tmp 1), type := 3, pos := "check.go:54", after := #[], guard := none } (.int .i64 ↑k) (by kernel_rfl) (by kernel_rfl) (by kernel_rfl) (by rfl) (fun w' hw => ?hy) hS (by kernel_rfl) (by rfl) ?_
  case hy =>
    clear ht hc hb hd hS
    go_simp
    try with_reducible rfl
  refine ht _ _ #[true, false, true, true, true, true, false, false, false, false] _ { tmps := #[Value.agg #[Value.slice n.ca n.cols.length n.cc, Value.slice n.pa n.places.length n.pc, Value.slice (some { block := b, off := off }) n.tasks.length n.tc, Value.int IntKind.i64 n.frm, Value.int IntKind.i64 n.too], Value.int IntKind.i64 ↑k, Value.pointer (some { block := w.heap.size, off := 0 }), undef, Value.int IntKind.i64 0, Value.int IntKind.i64 ↑k, Value.pointer (some { block := w.heap.size, off := 2 }), Value.slice (some { block := b, off := off }) n.tasks.length n.tc, Value.int IntKind.i64 ↑n.tasks.length, Value.bool true, Value.bool false, .agg #[.slice n.ca n.cols.length n.cc, .slice n.pa n.places.length n.pc, .slice (some ⟨b, off, none⟩) n.tasks.length n.tc, .int .i64 n.frm, .int .i64 n.too], undef, .pointer (some ⟨w.heap.size, 2, none⟩), .slice (some ⟨b, off, none⟩) n.tasks.length n.tc, .int .i64 ↑k, .pointer (some ⟨b, off + k * 14, none⟩), undef, undef, undef], defers := [] } _ 5 { dst := some 16, op := Op.indexAddr 24 (Operand.tmp 14) (Operand.tmp 15), type := 0, pos := "check.go:54", after := #[{ on := 3, ground := Ground.data }, { on := 4, ground := Ground.data }], guard := none } (.pointer (some ⟨b, off + k * 14, none⟩)) (by kernel_rfl) (by kernel_rfl) (by kernel_rfl) (by rfl) (fun w' hw => ?hy) hS (by kernel_rfl) (by rfl) ?_
  case hy =>
    clear ht hc hb hd hS
    go_simp
    try with_reducible rfl
  refine ht _ _ #[true, false, true, true, true, true, true, false, false, false] _ { tmps := #[Value.agg #[Value.slice n.ca n.cols.length n.cc, Value.slice n.pa n.places.length n.pc, Value.slice (some { block := b, off := off }) n.tasks.length n.tc, Value.int IntKind.i64 n.frm, Value.int IntKind.i64 n.too], Value.int IntKind.i64 ↑k, Value.pointer (some { block := w.heap.size, off := 0 }), undef, Value.int IntKind.i64 0, Value.int IntKind.i64 ↑k, Value.pointer (some { block := w.heap.size, off := 2 }), Value.slice (some { block := b, off := off }) n.tasks.length n.tc, Value.int IntKind.i64 ↑n.tasks.length, Value.bool true, Value.bool false, .agg #[.slice n.ca n.cols.length n.cc, .slice n.pa n.places.length n.pc, .slice (some ⟨b, off, none⟩) n.tasks.length n.tc, .int .i64 n.frm, .int .i64 n.too], undef, .pointer (some ⟨w.heap.size, 2, none⟩), .slice (some ⟨b, off, none⟩) n.tasks.length n.tc, .int .i64 ↑k, .pointer (some ⟨b, off + k * 14, none⟩), .pointer (some ⟨b, off + k * 14 + 1, none⟩), undef, undef], defers := [] } _ 6 { dst := some 17, op := Op.fieldAddr 53 (Operand.tmp 16) 1, type := 0, pos := "check.go:54", after := #[{ on := 5, ground := Ground.data }], guard := none } (.pointer (some ⟨b, off + k * 14 + 1, none⟩)) (by kernel_rfl) (by kernel_rfl) (by kernel_rfl) (by rfl) (fun w' hw => ?hy) hS (by kernel_rfl) (by rfl) ?_
  case hy =>
    clear ht hc hb hd hS
    go_simp
    try with_reducible rfl
  refine ht _ _ #[true, false, true, true, true, true, true, true, false, false] _ { tmps := #[Value.agg #[Value.slice n.ca n.cols.length n.cc, Value.slice n.pa n.places.length n.pc, Value.slice (some { block := b, off := off }) n.tasks.length n.tc, Value.int IntKind.i64 n.frm, Value.int IntKind.i64 n.too], Value.int IntKind.i64 ↑k, Value.pointer (some { block := w.heap.size, off := 0 }), undef, Value.int IntKind.i64 0, Value.int IntKind.i64 ↑k, Value.pointer (some { block := w.heap.size, off := 2 }), Value.slice (some { block := b, off := off }) n.tasks.length n.tc, Value.int IntKind.i64 ↑n.tasks.length, Value.bool true, Value.bool false, .agg #[.slice n.ca n.cols.length n.cc, .slice n.pa n.places.length n.pc, .slice (some ⟨b, off, none⟩) n.tasks.length n.tc, .int .i64 n.frm, .int .i64 n.too], undef, .pointer (some ⟨w.heap.size, 2, none⟩), .slice (some ⟨b, off, none⟩) n.tasks.length n.tc, .int .i64 ↑k, .pointer (some ⟨b, off + k * 14, none⟩), .pointer (some ⟨b, off + k * 14 + 1, none⟩), .slice t.va t.vars.length t.vc, undef], defers := [] } _ 7 { dst := some 18, op := Op.load 46 (Operand.tmp 17), type := 46, pos := "check.go:54", after := #[{ on := 6, ground := Ground.data }], guard := none } (.slice t.va t.vars.length t.vc) (by kernel_rfl) (by kernel_rfl) (by kernel_rfl) (by rfl) (fun w' hw => ?hy) hS (by kernel_rfl) (by rfl) ?_
  case hy =>
    have f7 := box_below d1 hw
    clear ht hc hb hd hS
    go_simp
    try with_reducible rfl
  refine hc _ _ #[true, true, true, true, true, true, true, true, false, false] _ _ 1 { dst := some 12, op := Op.call { callee := Callee.value (Operand.func 26), args := #[Operand.tmp 11], argTypes := #[26] }, type := 67, pos := "check.go:54", after := #[{ on := 0, ground := Ground.data }], guard := none } (by kernel_rfl) (by kernel_rfl) (by kernel_rfl) (fun K hK => ?_)
  have hK0 : Hid _ := hK
  clear hK hS
  go_simp
  refine I1.out.mono ?_
  rintro e w1 ⟨g, he, hsz, hb⟩
  subst he
  have hS : Below wz.heap.size wz w1 := then_ (Below.refl _ _).drew hb
  have HS1 : Hid (Below wz.heap.size wz w1) := hS
  have I2 : Hid (Calls Tryz.prog 59 #[.agg (subC n g), .slice t.va t.vars.length t.vc] w1 fun e w' => e = .returned (.int .i64 (bindsF n.cols t.vars)) ∧ Below w1.heap.size w1 w') := binds_any n g t.vc t.va t.vars w1 ⟨H0.out.1.below (then_ H0.out.2.2.1 hS), hsz, H0.out.2.1⟩ (H0.out.2.2.2.1.below (then_ H0.out.2.2.1 hS)) H0.out.2.2.2.2
  unfold subC at I2 ⊢
  rw [ha] at I2 ⊢
  clear hb I1 hsz
  try go_simp
  refine hK0.out _ _ hS ?_
  clear hK0 K
  refine hc _ _ #[true, true, true, true, true, true, true, true, true, false] _ _ 8 { dst := some 19, op := Op.call { callee := Callee.value (Operand.func 59), args := #[Operand.tmp 12, Operand.tmp 18], argTypes := #[67, 46] }, type := 3, pos := "check.go:54", after := #[{ on := 1, ground := Ground.data }, { on := 7, ground := Ground.data }, { on := 1, ground := Ground.chain }], guard := none } (by kernel_rfl) (by kernel_rfl) (by kernel_rfl) (fun K hK => ?_)
  have hK0 : Hid _ := hK
  clear hK hS
  go_simp
  refine I2.out.mono ?_
  rintro e w2 ⟨he, hb⟩
  subst he
  have hS : Below wz.heap.size wz w2 := then_ HS1.out hb
  clear hb I2
  try go_simp
  refine hK0.out _ _ hS ?_
  clear hK0 K
  refine ht _ _ #[true, true, true, true, true, true, true, true, true, true] _ { tmps := #[Value.agg #[Value.slice n.ca n.cols.length n.cc, Value.slice n.pa n.places.length n.pc, Value.slice (some { block := b, off := off }) n.tasks.length n.tc, Value.int IntKind.i64 n.frm, Value.int IntKind.i64 n.too], Value.int IntKind.i64 ↑k, Value.pointer (some { block := w.heap.size, off := 0 }), undef, .int .i64 (bindsF n.cols t.vars), Value.int IntKind.i64 ↑k, Value.pointer (some { block := w.heap.size, off := 2 }), Value.slice (some { block := b, off := off }) n.tasks.length n.tc, Value.int IntKind.i64 ↑n.tasks.length, Value.bool true, Value.bool false, .agg #[.slice n.ca n.cols.length n.cc, .slice n.pa n.places.length n.pc, .slice (some ⟨b, off, none⟩) n.tasks.length n.tc, .int .i64 n.frm, .int .i64 n.too], .agg #[.slice n.ca n.cols.length n.cc, .slice n.pa n.places.length n.pc, .slice (some ⟨b, off, none⟩) n.tasks.length n.tc, .int .i64 n.frm, .int .i64 n.too, .slice (some ⟨g, 0, none⟩) n.cols.length n.cols.length], .pointer (some ⟨w.heap.size, 2, none⟩), .slice (some ⟨b, off, none⟩) n.tasks.length n.tc, .int .i64 ↑k, .pointer (some ⟨b, off + k * 14, none⟩), .pointer (some ⟨b, off + k * 14 + 1, none⟩), .slice t.va t.vars.length t.vc, .int .i64 (bindsF n.cols t.vars)], defers := [] } _ 9 { dst := some 4, op := Op.assign (Operand.tmp 19), type := 3, pos := "check.go:54", after := #[{ on := 8, ground := Ground.data }, { on := 8, ground := Ground.chain }, { on := 0, ground := Ground.phase }, { on := 1, ground := Ground.phase }, { on := 2, ground := Ground.phase }, { on := 3, ground := Ground.phase }, { on := 4, ground := Ground.phase }, { on := 5, ground := Ground.phase }, { on := 6, ground := Ground.phase }, { on := 7, ground := Ground.phase }, { on := 8, ground := Ground.phase }], guard := none } (.int .i64 (bindsF n.cols t.vars)) (by kernel_rfl) (by kernel_rfl) (by kernel_rfl) (by rfl) (fun w' hw => ?hy) hS (by kernel_rfl) (by rfl) ?_
  case hy =>
    clear ht hc hb hd hS
    go_simp
    try with_reducible rfl
  refine hd _ _ _ _ (by kernel_rfl) ?_
  clear ht hc hb hd F
  have HB : Hid (Below w.heap.size w w2) := then_ H0.out.2.2.1 hS
  clear hS
  go_wp2_with fail
  go_ret
  exact ⟨rfl, HB.out⟩
theorem Binds_any (n : Ne) (k : Int) (w : World) (hn : NeOk w n) (hm : Sm n) : Calls Tryz.prog 16 #[.agg (netC n), .int .i64 k] w fun e w' => e = .returned (.int .i64 (if inB k n.tasks.length then bindsF n.cols (n.tasks.getD k.toNat nilTa).vars else 0)) ∧ Below w.heap.size w w' := by
  cases h : inB k n.tasks.length with
  | true =>
    obtain ⟨j, rfl, hj⟩ := inB_yes h
    exact Binds_yes n j w hn hm hj
  | false =>
    have HW : Hid (∀ W, Calls Tryz.prog 41 #[.int .i64 k, .int .i64 (n.tasks.length : Int)] W fun e w' => e = .returned (.bool false) ∧ w' = W) := fun W => by rw [← h]; exact within_any _ _ W
    unfold netC
    clear hn hm h
    go_enter Tryz.func16, Tryz.ntmps16
    go_wp2_with (go_at_call 41; refine (HW.out _).mono ?_; rintro e w' ⟨he, hw⟩; subst he; have hw := hw.symm; subst hw)
    go_ret
    exact ⟨rfl, (Below.refl _ _).alloc (Nat.le_refl _) _⟩
theorem goes_Place1 : Goes 40 := fun args W => by kernel_rfl
theorem goes_Place2 : Goes 42 := fun args W => by kernel_rfl
theorem goes_Task1 : Goes 47 := fun args W => by kernel_rfl
theorem goes_Task2 : Goes 48 := fun args W => by kernel_rfl
theorem goes_Task3 : Goes 49 := fun args W => by kernel_rfl
/-- what is told of the place k, of the task k -/
def placeT (n : Ne) (k : Int) : Int := if inB k n.places.length then placeF n k.toNat else 3
def taskT (n : Ne) (k : Int) : Int := if inB k n.tasks.length then (if wrongF n.cols < n.cols.length then 8 else taskF n k.toNat) else 3
theorem placeT_eq (n : Ne) (k : Int) : firstNZ [errB (!inB k n.places.length) 3, placeF n k.toNat] = placeT n k := by
  unfold placeT
  cases h : inB k n.places.length with
  | true =>
    show firstNZ [0, placeF n k.toNat] = _
    unfold firstNZ; rw [if_pos rfl]; unfold firstNZ; unfold firstNZ
    split
    · rename_i h0; rw [if_pos rfl, h0]
    · rw [if_pos rfl]
  | false => rfl
theorem taskT_eq (n : Ne) (k : Int) : firstNZ [errB (!inB k n.tasks.length) 3, errB (decide (wrongF n.cols < n.cols.length)) 8, taskF n k.toNat] = taskT n k := by
  unfold taskT
  cases h : inB k n.tasks.length with
  | true =>
    by_cases hw : wrongF n.cols < n.cols.length
    · rw [decide_eq_true hw, if_pos rfl, if_pos hw]; rfl
    · rw [decide_eq_false hw, if_pos rfl, if_neg hw]
      show firstNZ [0, 0, taskF n k.toNat] = _
      unfold firstNZ; rw [if_pos rfl]; unfold firstNZ; rw [if_pos rfl]; unfold firstNZ; unfold firstNZ
      split
      · rename_i h0; rw [h0]
      · rfl
  | false => rfl

set_option maxHeartbeats 1000000 in
theorem Place_any (n : Ne) (k : Int) (w : World) (hn : NeOk w n) (hm : Sm n) : Calls Tryz.prog 11 #[.agg (netC n), .int .i64 k] w fun e w' => e = .returned (.int .i64 (placeT n k)) ∧ Below w.heap.size w w' := by
  obtain ⟨wz, hwz⟩ : ∃ wz, wz = (w.alloc (.cells (netC n) 26)).alloc (.cells #[.int .i64 k] 3) := ⟨_, rfl⟩
  obtain ⟨hz, hq, hx⟩ := two_boxes hwz
  have HB0 : Hid (AskB wz (.func (.func 40) #[] #[.pointer (some ⟨w.heap.size + 1, 0, none⟩), .pointer (some ⟨w.heap.size, 0, none⟩)]) (!inB k n.places.length)) := ⟨_, _, rfl, goes_Place1, fun W hW => Place1_any _ _ k n W (box_below hx hW) (hq.below hW)⟩
  have HB1 : Hid (inB k n.places.length = true → Ask wz (.func (.func 42) #[] #[.pointer (some ⟨w.heap.size, 0, none⟩), .pointer (some ⟨w.heap.size + 1, 0, none⟩)]) (placeF n k.toNat)) := fun h => by
    obtain ⟨j, rfl, hj⟩ := inB_yes h
    exact ⟨_, _, rfl, goes_Place2, fun W hW => Place2_any _ _ j n W (box_below hx hW) (hq.below hW) (hn.below (then_ hz hW)) hm hj⟩
  have HZ : Hid (Below w.heap.size w wz) := hz
  rw [← placeT_eq]
  clear hz hq hx hn hm
  unfold netC at hwz ⊢
  go_enter Tryz.func11, Tryz.ntmps11
  go_wp2_with fail
  rw [← hwz]
  refine (tells_any _ _ _ _ HB0.out).mono ?_
  rintro en v0 ⟨K0, c0, he, hu, hb⟩
  subst he
  have U0 : Hid (Ask v0 (.func (.func K0) #[] c0) _ ∧ Below wz.heap.size wz v0) := ⟨hu, hb⟩
  clear hu hb
  go_wp2_with fail
  refine (first_new #[.func (.func K0) #[] c0, .func (.func 42) #[] #[.pointer (some ⟨w.heap.size, 0, none⟩), .pointer (some ⟨w.heap.size + 1, 0, none⟩)]] _ 2 [errB (!inB k n.places.length) 3, placeF n k.toNat] v0 rfl rfl (by decide) (fun i hi h0 => ?_)).mono ?_
  rotate_left 1
  · rintro en wl ⟨he, hb⟩
    subst he
    have HB : Hid (Below w.heap.size w wl) := then_ HZ.out (then_ U0.out.2 hb)
    clear hb U0
    go_wp2_with fail
    go_ret
    exact ⟨rfl, HB.out⟩
  · match i, hi with
    | 0, _ => exact U0.out.1
    | 1, _ => exact (HB1.out (by have := errB_zero (by decide) (h0 0 (by decide)); simpa using this)).below U0.out.2

set_option maxHeartbeats 1000000 in
theorem Task_any (n : Ne) (k : Int) (w : World) (hn : NeOk w n) (hm : Sm n) : Calls Tryz.prog 13 #[.agg (netC n), .int .i64 k] w fun e w' => e = .returned (.int .i64 (taskT n k)) ∧ Below w.heap.size w w' := by
  obtain ⟨wz, hwz⟩ : ∃ wz, wz = (w.alloc (.cells (netC n) 26)).alloc (.cells #[.int .i64 k] 3) := ⟨_, rfl⟩
  obtain ⟨hz, hq, hx⟩ := two_boxes hwz
  have HB0 : Hid (AskB wz (.func (.func 47) #[] #[.pointer (some ⟨w.heap.size + 1, 0, none⟩), .pointer (some ⟨w.heap.size, 0, none⟩)]) (!inB k n.tasks.length)) := ⟨_, _, rfl, goes_Task1, fun W hW => Task1_any _ _ k n W (box_below hx hW) (hq.below hW)⟩
  have HB1 : Hid (AskB wz (.func (.func 48) #[] #[.pointer (some ⟨w.heap.size, 0, none⟩)]) (decide (wrongF n.cols < n.cols.length))) := ⟨_, _, rfl, goes_Task2, fun W hW => Task2_any _ n W (hq.below hW) (hn.below (then_ hz hW)) hm⟩
  have HB2 : Hid (inB k n.tasks.length = true → Ask wz (.func (.func 49) #[] #[.pointer (some ⟨w.heap.size, 0, none⟩), .pointer (some ⟨w.heap.size + 1, 0, none⟩)]) (taskF n k.toNat)) := fun h => by
    obtain ⟨j, rfl, hj⟩ := inB_yes h
    exact ⟨_, _, rfl, goes_Task3, fun W hW => Task3_any _ _ j n W (box_below hx hW) (hq.below hW) (hn.below (then_ hz hW)) hm hj⟩
  have HZ : Hid (Below w.heap.size w wz) := hz
  rw [← taskT_eq]
  clear hz hq hx hn hm
  unfold netC at hwz ⊢
  go_enter Tryz.func13, Tryz.ntmps13
  go_wp2_with fail
  rw [← hwz]
  refine (tells_any _ _ _ _ HB0.out).mono ?_
  rintro en v0 ⟨K0, c0, he, hu, hb⟩
  subst he
  have U0 : Hid (Ask v0 (.func (.func K0) #[] c0) _ ∧ Below wz.heap.size wz v0) := ⟨hu, hb⟩
  clear hu hb
  go_wp2_with fail
  refine (tells_any _ _ _ _ (HB1.out.below U0.out.2)).mono ?_
  rintro en v1 ⟨K1, c1, he, hu, hb⟩
  subst he
  have U1 : Hid (Ask v1 (.func (.func K0) #[] c0) _ ∧ Ask v1 (.func (.func K1) #[] c1) _ ∧ Below wz.heap.size wz v1) := ⟨U0.out.1.below hb, hu, then_ U0.out.2 hb⟩
  clear hu hb U0
  go_wp2_with fail
  refine (first_new #[.func (.func K0) #[] c0, .func (.func K1) #[] c1, .func (.func 49) #[] #[.pointer (some ⟨w.heap.size, 0, none⟩), .pointer (some ⟨w.heap.size + 1, 0, none⟩)]] _ 3 [errB (!inB k n.tasks.length) 3, errB (decide (wrongF n.cols < n.cols.length)) 8, taskF n k.toNat] v1 rfl rfl (by decide) (fun i hi h0 => ?_)).mono ?_
  rotate_left 1
  · rintro en wl ⟨he, hb⟩
    subst he
    have HB : Hid (Below w.heap.size w wl) := then_ HZ.out (then_ U1.out.2.2 hb)
    clear hb U1
    go_wp2_with fail
    go_ret
    exact ⟨rfl, HB.out⟩
  · match i, hi with
    | 0, _ => exact U1.out.1
    | 1, _ => exact U1.out.2.1
    | 2, _ => exact (HB2.out (by have := errB_zero (by decide) (h0 0 (by decide)); simpa using this)).below U1.out.2.2
end Go.Proofs.YtgdkomkflfodaaaGreat.Check
