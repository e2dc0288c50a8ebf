/- check.Reached: a contract of the call, over the turned program. -/
import Derived.Test.YtgdkomkflfodaaaGreatMbD
namespace Go.Proofs.YtgdkomkflfodaaaGreat.Check
open Go.Proofs.YtgdkomkflfodaaaGreat.Dag Go.RowKit Go.Proofs.YtgdkomkflfodaaaGreat.Frame Go.Proofs.YtgdkomkflfodaaaGreat.Colour Go.Proofs.YtgdkomkflfodaaaGreat.Expr
set_option linter.unusedVariables false
set_option linter.unusedSimpArgs false
/-- what is answered: just what can be come to, rising, each once -/
def ReachPost (n : Ne) (w : World) (e : Ending) (w' : World) : Prop := ∃ P T a1 c1 a2 c2, e = .returned (.tuple #[.slice a1 (trueL n.places.length P).length c1, .slice a2 (trueL n.tasks.length T).length c2]) ∧ Told n P T ∧ IR w w' a1 c1 (trueL n.places.length P) ∧ IR w w' a2 c2 (trueL n.tasks.length T)
set_option maxHeartbeats 4000000 in
set_option maxRecDepth 10000 in
theorem Reached_any (n : Ne) (w : World) (hn : NeOk w n) (hm : Sm n) (hs : sumIns n n.tasks.length ≤ 1000000) : Calls Tryz.prog 15 #[.agg (netC n)] w (ReachPost n w) := by
  have H0 : Hid (NeOk w n ∧ Sm n ∧ sumIns n n.tasks.length ≤ 1000000) := ⟨hn, hm, hs⟩
  obtain ⟨wz, hwz⟩ : ∃ wz, wz = w.alloc (.cells (netC n) 26) := ⟨_, rfl⟩
  have HZ : Hid (Below w.heap.size w wz ∧ NBox wz w.heap.size n ∧ w.heap.size < wz.heap.size) := by rw [hwz]; exact ⟨(Below.refl _ _).alloc (Nat.le_refl _) _, NBox.new w n _, by simp⟩
  have htl := hm.1.2.2
  have hpl := hm.1.2.1
  have hmk := run_make_row' (P := Tryz.prog) 85 4 (.bool false) 1 Tryz.underlying85 infoBool rfl .i64 .i64 n.places.length (by omega) (by omega)
  have hmk2 := run_make_row' (P := Tryz.prog) 85 4 (.bool false) 1 Tryz.underlying85 infoBool rfl .i64 .i64 n.tasks.length (by omega) (by omega)
  clear hn hm hs
  have HN : Hid (NeOk wz n) := H0.out.1.below HZ.out.1
  obtain ⟨c0, c1, c2, c3, c4⟩ := HZ.out.2.1
  unfold netC at hwz ⊢
  go_enter Tryz.func15, Tryz.ntmps15
  go_upto_region 1 with fail
  rw [← hwz]
  clear hwz
  go_cut [4] from 12 (fun s wr => ∃ gp gt q, s = .pointer (some ⟨q, 0, none⟩) ∧ Hid (F3 wz n.places.length n.tasks.length gp gt q wr))
  case first =>
    refine wp_region_held_drew (S := fun W => Below wz.heap.size wz W) (by kernel_rfl) ((Below.refl _ _).drew) (fun hS => ?_)
    refine wpAnyH_steps (l' := #[false, false, false, false, false, false, false, false, false, false, false]) (a' := { tmps := #[Value.agg #[Value.slice n.ca n.cols.length n.cc, Value.slice n.pa n.places.length n.pc, Value.slice n.ta n.tasks.length n.tc, Value.int IntKind.i64 n.frm, Value.int IntKind.i64 n.too], Value.pointer (some { block := w.heap.size, off := 0 }), Value.slice none 0 0, Value.slice none 0 0, undef, undef, undef, undef, undef, undef, undef, undef, undef, undef, undef, undef, undef, undef, undef, undef, undef, undef, undef, undef, undef, undef, undef, undef, undef, undef, undef, undef, undef, undef, undef, undef, undef, undef, undef, undef, undef, undef, undef, undef, undef, undef, undef, undef, undef, undef, undef, undef, undef, undef, undef, undef, undef, undef, undef, undef, undef, undef, undef, undef, undef, undef, undef, undef, undef, undef, undef, undef, undef, undef, undef, undef, undef, undef, undef, undef, undef, undef], defers := [] }) (by kernel_rfl) (by rfl) (by kernel_rfl) (fun _ _ d _ _ h => by cases d <;> exact h) (fun F ht hc hb hd => ?_)
    refine ht _ _ #[true, false, false, false, false, false, false, false, false, false, false] _ { tmps := #[Value.agg #[Value.slice n.ca n.cols.length n.cc, Value.slice n.pa n.places.length n.pc, Value.slice n.ta n.tasks.length n.tc, Value.int IntKind.i64 n.frm, Value.int IntKind.i64 n.too], Value.pointer (some { block := w.heap.size, off := 0 }), Value.slice none 0 0, Value.slice none 0 0, undef, undef, undef, undef, undef, undef, undef, undef, .pointer (some ⟨w.heap.size, 1, none⟩), undef, undef, undef, undef, undef, undef, undef, undef, undef, undef, undef, undef, undef, undef, undef, undef, undef, undef, undef, undef, undef, undef, undef, undef, undef, undef, undef, undef, undef, undef, undef, undef, undef, undef, undef, undef, undef, undef, undef, undef, undef, undef, undef, undef, undef, undef, undef, undef, undef, undef, undef, undef, undef, undef, undef, undef, undef, undef, undef, undef, undef, undef, undef, undef, undef, undef, undef, undef, undef], defers := [] } _ 0 { dst := some 12, op := Op.fieldAddr 26 (Operand.tmp 1) 1, type := 0, pos := "reached.go:9", after := #[], guard := none } (.pointer (some ⟨w.heap.size, 1, none⟩)) (by kernel_rfl) (by kernel_rfl) (by kernel_rfl) (by rfl) (fun w' hw => ?hy) hS (by kernel_rfl) (by rfl) ?_
    case hy =>
      have f1 := box_below c1 hw
      have f2 := box_below c2 hw
      clear ht hc hb hd
      go_simp
      try with_reducible rfl
    refine ht _ _ #[true, true, false, false, false, false, false, false, false, false, false] _ { tmps := #[Value.agg #[Value.slice n.ca n.cols.length n.cc, Value.slice n.pa n.places.length n.pc, Value.slice n.ta n.tasks.length n.tc, Value.int IntKind.i64 n.frm, Value.int IntKind.i64 n.too], Value.pointer (some { block := w.heap.size, off := 0 }), Value.slice none 0 0, Value.slice none 0 0, undef, undef, undef, undef, undef, undef, undef, undef, .pointer (some ⟨w.heap.size, 1, none⟩), .slice n.pa n.places.length n.pc, undef, undef, undef, undef, undef, undef, undef, undef, undef, undef, undef, undef, undef, undef, undef, undef, undef, undef, undef, undef, undef, undef, undef, undef, undef, undef, undef, undef, undef, undef, undef, undef, undef, undef, undef, undef, undef, undef, undef, undef, undef, undef, undef, undef, undef, undef, undef, undef, undef, undef, undef, undef, undef, undef, undef, undef, undef, undef, undef, undef, undef, undef, undef, undef, undef, undef, undef, undef], defers := [] } _ 1 { dst := some 13, op := Op.load 23 (Operand.tmp 12), type := 23, pos := "reached.go:9", after := #[{ on := 0, ground := Ground.data }], guard := none } (.slice n.pa n.places.length n.pc) (by kernel_rfl) (by kernel_rfl) (by kernel_rfl) (by rfl) (fun w' hw => ?hy) hS (by kernel_rfl) (by rfl) ?_
    case hy =>
      have f1 := box_below c1 hw
      have f2 := box_below c2 hw
      clear ht hc hb hd
      go_simp
      try with_reducible rfl
    refine ht _ _ #[true, true, true, false, false, false, false, false, false, false, false] _ { tmps := #[Value.agg #[Value.slice n.ca n.cols.length n.cc, Value.slice n.pa n.places.length n.pc, Value.slice n.ta n.tasks.length n.tc, Value.int IntKind.i64 n.frm, Value.int IntKind.i64 n.too], Value.pointer (some { block := w.heap.size, off := 0 }), Value.slice none 0 0, Value.slice none 0 0, undef, undef, undef, undef, undef, undef, undef, undef, .pointer (some ⟨w.heap.size, 1, none⟩), .slice n.pa n.places.length n.pc, .int .i64 ↑n.places.length, undef, undef, undef, undef, undef, undef, undef, undef, undef, undef, undef, undef, undef, undef, undef, undef, undef, undef, undef, undef, undef, undef, undef, undef, undef, undef, undef, undef, undef, undef, undef, undef, undef, undef, undef, undef, undef, undef, undef, undef, undef, undef, undef, undef, undef, undef, undef, undef, undef, undef, undef, undef, undef, undef, undef, undef, undef, undef, undef, undef, undef, undef, undef, undef, undef, undef, undef], defers := [] } _ 2 { dst := some 14, op := Op.call { callee := Callee.builtin Builtin.len, args := #[Operand.tmp 13], argTypes := #[23] }, type := 3, pos := "reached.go:9", after := #[{ on := 1, ground := Ground.data }], guard := none } (.int .i64 ↑n.places.length) (by kernel_rfl) (by kernel_rfl) (by kernel_rfl) (by rfl) (fun w' hw => ?hy) hS (by kernel_rfl) (by rfl) ?_
    case hy =>
      clear ht hc hb hd
      go_simp
      try with_reducible rfl
    refine ht _ _ #[true, true, true, false, true, false, false, false, false, false, false] _ { tmps := #[Value.agg #[Value.slice n.ca n.cols.length n.cc, Value.slice n.pa n.places.length n.pc, Value.slice n.ta n.tasks.length n.tc, Value.int IntKind.i64 n.frm, Value.int IntKind.i64 n.too], Value.pointer (some { block := w.heap.size, off := 0 }), Value.slice none 0 0, Value.slice none 0 0, undef, undef, undef, undef, undef, undef, undef, undef, .pointer (some ⟨w.heap.size, 1, none⟩), .slice n.pa n.places.length n.pc, .int .i64 ↑n.places.length, undef, .pointer (some ⟨w.heap.size, 2, none⟩), undef, undef, undef, undef, undef, undef, undef, undef, undef, undef, undef, undef, undef, undef, undef, undef, undef, undef, undef, undef, undef, undef, undef, undef, undef, undef, undef, undef, undef, undef, undef, undef, undef, undef, undef, undef, undef, undef, undef, undef, undef, undef, undef, undef, undef, undef, undef, undef, undef, undef, undef, undef, undef, undef, undef, undef, undef, undef, undef, undef, undef, undef, undef, undef, undef], defers := [] } _ 4 { dst := some 16, op := Op.fieldAddr 26 (Operand.tmp 1) 2, type := 0, pos := "reached.go:9", after := #[], guard := none } (.pointer (some ⟨w.heap.size, 2, none⟩)) (by kernel_rfl) (by kernel_rfl) (by kernel_rfl) (by rfl) (fun w' hw => ?hy) hS (by kernel_rfl) (by rfl) ?_
    case hy =>
      have f1 := box_below c1 hw
      have f2 := box_below c2 hw
      clear ht hc hb hd
      go_simp
      try with_reducible rfl
    refine ht _ _ #[true, true, true, false, true, true, false, false, false, false, false] _ { tmps := #[Value.agg #[Value.slice n.ca n.cols.length n.cc, Value.slice n.pa n.places.length n.pc, Value.slice n.ta n.tasks.length n.tc, Value.int IntKind.i64 n.frm, Value.int IntKind.i64 n.too], Value.pointer (some { block := w.heap.size, off := 0 }), Value.slice none 0 0, Value.slice none 0 0, undef, undef, undef, undef, undef, undef, undef, undef, .pointer (some ⟨w.heap.size, 1, none⟩), .slice n.pa n.places.length n.pc, .int .i64 ↑n.places.length, undef, .pointer (some ⟨w.heap.size, 2, none⟩), .slice n.ta n.tasks.length n.tc, undef, undef, undef, undef, undef, undef, undef, undef, undef, undef, undef, undef, undef, undef, undef, undef, undef, undef, undef, undef, undef, undef, undef, undef, undef, undef, undef, undef, undef, undef, undef, undef, undef, undef, undef, undef, undef, undef, undef, undef, undef, undef, undef, undef, undef, undef, undef, undef, undef, undef, undef, undef, undef, undef, undef, undef, undef, undef, undef, undef, undef, undef, undef, undef], defers := [] } _ 5 { dst := some 17, op := Op.load 24 (Operand.tmp 16), type := 24, pos := "reached.go:9", after := #[{ on := 4, ground := Ground.data }], guard := none } (.slice n.ta n.tasks.length n.tc) (by kernel_rfl) (by kernel_rfl) (by kernel_rfl) (by rfl) (fun w' hw => ?hy) hS (by kernel_rfl) (by rfl) ?_
    case hy =>
      have f1 := box_below c1 hw
      have f2 := box_below c2 hw
      clear ht hc hb hd
      go_simp
      try with_reducible rfl
    refine ht _ _ #[true, true, true, false, true, true, true, false, false, false, false] _ { tmps := #[Value.agg #[Value.slice n.ca n.cols.length n.cc, Value.slice n.pa n.places.length n.pc, Value.slice n.ta n.tasks.length n.tc, Value.int IntKind.i64 n.frm, Value.int IntKind.i64 n.too], Value.pointer (some { block := w.heap.size, off := 0 }), Value.slice none 0 0, Value.slice none 0 0, undef, undef, undef, undef, undef, undef, undef, undef, .pointer (some ⟨w.heap.size, 1, none⟩), .slice n.pa n.places.length n.pc, .int .i64 ↑n.places.length, undef, .pointer (some ⟨w.heap.size, 2, none⟩), .slice n.ta n.tasks.length n.tc, .int .i64 ↑n.tasks.length, undef, undef, undef, undef, undef, undef, undef, undef, undef, undef, undef, undef, undef, undef, undef, undef, undef, undef, undef, undef, undef, undef, undef, undef, undef, undef, undef, undef, undef, undef, undef, undef, undef, undef, undef, undef, undef, undef, undef, undef, undef, undef, undef, undef, undef, undef, undef, undef, undef, undef, undef, undef, undef, undef, undef, undef, undef, undef, undef, undef, undef, undef, undef], defers := [] } _ 6 { dst := some 18, op := Op.call { callee := Callee.builtin Builtin.len, args := #[Operand.tmp 17], argTypes := #[24] }, type := 3, pos := "reached.go:9", after := #[{ on := 5, ground := Ground.data }], guard := none } (.int .i64 ↑n.tasks.length) (by kernel_rfl) (by kernel_rfl) (by kernel_rfl) (by rfl) (fun w' hw => ?hy) hS (by kernel_rfl) (by rfl) ?_
    case hy =>
      clear ht hc hb hd
      go_simp
      try with_reducible rfl
    have L0 : ∀ (gp gt q : Nat) (W : World), Hid (F3 wz n.places.length n.tasks.length gp gt q W) → F 0 #[true, true, true, true, true, true, true, true, true, true, true] { tmps := #[Value.agg #[Value.slice n.ca n.cols.length n.cc, Value.slice n.pa n.places.length n.pc, Value.slice n.ta n.tasks.length n.tc, Value.int IntKind.i64 n.frm, Value.int IntKind.i64 n.too], Value.pointer (some { block := w.heap.size, off := 0 }), Value.slice none 0 0, Value.slice none 0 0, .pointer (some ⟨q, 0, none⟩), undef, undef, undef, undef, undef, undef, undef, .pointer (some ⟨w.heap.size, 1, none⟩), .slice n.pa n.places.length n.pc, .int .i64 ↑n.places.length, .slice (some ⟨gp, 0, none⟩) n.places.length n.places.length, .pointer (some ⟨w.heap.size, 2, none⟩), .slice n.ta n.tasks.length n.tc, .int .i64 ↑n.tasks.length, .slice (some ⟨gt, 0, none⟩) n.tasks.length n.tasks.length, .agg #[.slice (some ⟨gp, 0, none⟩) n.places.length n.places.length, .slice (some ⟨gt, 0, none⟩) n.tasks.length n.tasks.length, .slice none 0 0], undef, undef, undef, undef, undef, undef, undef, undef, undef, undef, undef, undef, undef, undef, undef, undef, undef, undef, undef, undef, undef, undef, undef, undef, undef, undef, undef, undef, undef, undef, undef, undef, undef, undef, undef, undef, undef, undef, undef, undef, undef, undef, undef, undef, undef, undef, undef, undef, undef, undef, undef, undef, undef, undef, undef, undef, undef, undef, undef, undef, undef], defers := [] } W := by
      intro gp gt q W HW
      refine hd _ _ _ _ (by kernel_rfl) ?_
      clear hd ht hc hb F
      go_wp2_with fail
      go_meet
      case rel => exact ⟨gp, gt, q, rfl, HW⟩
    have L1 : ∀ (gp gt q : Nat) (W : World), Hid (A3 wz n.places.length n.tasks.length gp gt q W) → F 1 #[true, true, true, true, true, true, true, true, true, true, false] { tmps := #[Value.agg #[Value.slice n.ca n.cols.length n.cc, Value.slice n.pa n.places.length n.pc, Value.slice n.ta n.tasks.length n.tc, Value.int IntKind.i64 n.frm, Value.int IntKind.i64 n.too], Value.pointer (some { block := w.heap.size, off := 0 }), Value.slice none 0 0, Value.slice none 0 0, .pointer (some ⟨q, 0, none⟩), undef, undef, undef, undef, undef, undef, undef, .pointer (some ⟨w.heap.size, 1, none⟩), .slice n.pa n.places.length n.pc, .int .i64 ↑n.places.length, .slice (some ⟨gp, 0, none⟩) n.places.length n.places.length, .pointer (some ⟨w.heap.size, 2, none⟩), .slice n.ta n.tasks.length n.tc, .int .i64 ↑n.tasks.length, .slice (some ⟨gt, 0, none⟩) n.tasks.length n.tasks.length, .agg #[.slice (some ⟨gp, 0, none⟩) n.places.length n.places.length, .slice (some ⟨gt, 0, none⟩) n.tasks.length n.tasks.length, .slice none 0 0], undef, undef, undef, undef, undef, undef, undef, undef, undef, undef, undef, undef, undef, undef, undef, undef, undef, undef, undef, undef, undef, undef, undef, undef, undef, undef, undef, undef, undef, undef, undef, undef, undef, undef, undef, undef, undef, undef, undef, undef, undef, undef, undef, undef, undef, undef, undef, undef, undef, undef, undef, undef, undef, undef, undef, undef, undef, undef, undef, undef, undef], defers := [] } W := by
      intro gp gt q W HW
      refine hc _ _ #[true, true, true, true, true, true, true, true, true, true, true] _ _ 10 { dst := none, op := Op.store 87 (Operand.tmp 4) (Operand.tmp 20), type := 0, pos := "reached.go:9", after := #[{ on := 9, ground := Ground.data }, { on := 8, ground := Ground.data }, { on := 0, ground := Ground.phase }, { on := 1, ground := Ground.phase }, { on := 2, ground := Ground.phase }, { on := 3, ground := Ground.phase }, { on := 4, ground := Ground.phase }, { on := 5, ground := Ground.phase }, { on := 6, ground := Ground.phase }, { on := 7, ground := Ground.phase }, { on := 8, ground := Ground.phase }, { on := 9, ground := Ground.phase }], guard := none } (by kernel_rfl) (by kernel_rfl) (by kernel_rfl) (fun K hK => ?_)
      obtain ⟨⟨d0, d1, d2⟩, ⟨f0, f1, f2⟩, ql⟩ := HW.out.cells
      have hK0 : Hid _ := hK
      clear hK ht hc hb hd
      go_simp
      exact hK0.out _ _ HW.out.fin.1 (L0 gp gt q _ HW.out.fin)
    have L2 : ∀ (gp gt q : Nat) (W : World), Hid (A3 wz n.places.length n.tasks.length gp gt q W) → F 2 #[true, true, true, true, true, true, true, true, false, true, false] { tmps := #[Value.agg #[Value.slice n.ca n.cols.length n.cc, Value.slice n.pa n.places.length n.pc, Value.slice n.ta n.tasks.length n.tc, Value.int IntKind.i64 n.frm, Value.int IntKind.i64 n.too], Value.pointer (some { block := w.heap.size, off := 0 }), Value.slice none 0 0, Value.slice none 0 0, .pointer (some ⟨q, 0, none⟩), undef, undef, undef, undef, undef, undef, undef, .pointer (some ⟨w.heap.size, 1, none⟩), .slice n.pa n.places.length n.pc, .int .i64 ↑n.places.length, .slice (some ⟨gp, 0, none⟩) n.places.length n.places.length, .pointer (some ⟨w.heap.size, 2, none⟩), .slice n.ta n.tasks.length n.tc, .int .i64 ↑n.tasks.length, .slice (some ⟨gt, 0, none⟩) n.tasks.length n.tasks.length, undef, undef, undef, undef, undef, undef, undef, undef, undef, undef, undef, undef, undef, undef, undef, undef, undef, undef, undef, undef, undef, undef, undef, undef, undef, undef, undef, undef, undef, undef, undef, undef, undef, undef, undef, undef, undef, undef, undef, undef, undef, undef, undef, undef, undef, undef, undef, undef, undef, undef, undef, undef, undef, undef, undef, undef, undef, undef, undef, undef, undef, undef], defers := [] } W := by
      intro gp gt q W HW
      refine ht _ _ #[true, true, true, true, true, true, true, true, true, true, false] _ { tmps := #[Value.agg #[Value.slice n.ca n.cols.length n.cc, Value.slice n.pa n.places.length n.pc, Value.slice n.ta n.tasks.length n.tc, Value.int IntKind.i64 n.frm, Value.int IntKind.i64 n.too], Value.pointer (some { block := w.heap.size, off := 0 }), Value.slice none 0 0, Value.slice none 0 0, .pointer (some ⟨q, 0, none⟩), undef, undef, undef, undef, undef, undef, undef, .pointer (some ⟨w.heap.size, 1, none⟩), .slice n.pa n.places.length n.pc, .int .i64 ↑n.places.length, .slice (some ⟨gp, 0, none⟩) n.places.length n.places.length, .pointer (some ⟨w.heap.size, 2, none⟩), .slice n.ta n.tasks.length n.tc, .int .i64 ↑n.tasks.length, .slice (some ⟨gt, 0, none⟩) n.tasks.length n.tasks.length, .agg #[.slice (some ⟨gp, 0, none⟩) n.places.length n.places.length, .slice (some ⟨gt, 0, none⟩) n.tasks.length n.tasks.length, .slice none 0 0], undef, undef, undef, undef, undef, undef, undef, undef, undef, undef, undef, undef, undef, undef, undef, undef, undef, undef, undef, undef, undef, undef, undef, undef, undef, undef, undef, undef, undef, undef, undef, undef, undef, undef, undef, undef, undef, undef, undef, undef, undef, undef, undef, undef, undef, undef, undef, undef, undef, undef, undef, undef, undef, undef, undef, undef, undef, undef, undef, undef, undef], defers := [] } _ 8 { dst := some 20, op := Op.build 87 #[(0, Operand.tmp 15), (1, Operand.tmp 19)], type := 87, pos := "reached.go:9", after := #[{ on := 3, ground := Ground.data }, { on := 7, ground := Ground.data }], guard := none } (.agg #[.slice (some ⟨gp, 0, none⟩) n.places.length n.places.length, .slice (some ⟨gt, 0, none⟩) n.tasks.length n.tasks.length, .slice none 0 0]) (by kernel_rfl) (by kernel_rfl) (by kernel_rfl) (by rfl) (fun w' hw => ?hy) HW.out.1 (by kernel_rfl) (by rfl) ?_
      case hy =>
        clear ht hc hb hd L1
        go_simp
        try with_reducible rfl
      exact L1 gp gt q W HW
    have L37 : ∀ (gp gt : Nat) (W : World), Hid (P2 wz n.places.length n.tasks.length gp gt W) → F 3 #[true, true, true, true, true, true, true, true, false, false, false] { tmps := #[Value.agg #[Value.slice n.ca n.cols.length n.cc, Value.slice n.pa n.places.length n.pc, Value.slice n.ta n.tasks.length n.tc, Value.int IntKind.i64 n.frm, Value.int IntKind.i64 n.too], Value.pointer (some { block := w.heap.size, off := 0 }), Value.slice none 0 0, Value.slice none 0 0, undef, undef, undef, undef, undef, undef, undef, undef, .pointer (some ⟨w.heap.size, 1, none⟩), .slice n.pa n.places.length n.pc, .int .i64 ↑n.places.length, .slice (some ⟨gp, 0, none⟩) n.places.length n.places.length, .pointer (some ⟨w.heap.size, 2, none⟩), .slice n.ta n.tasks.length n.tc, .int .i64 ↑n.tasks.length, .slice (some ⟨gt, 0, none⟩) n.tasks.length n.tasks.length, undef, undef, undef, undef, undef, undef, undef, undef, undef, undef, undef, undef, undef, undef, undef, undef, undef, undef, undef, undef, undef, undef, undef, undef, undef, undef, undef, undef, undef, undef, undef, undef, undef, undef, undef, undef, undef, undef, undef, undef, undef, undef, undef, undef, undef, undef, undef, undef, undef, undef, undef, undef, undef, undef, undef, undef, undef, undef, undef, undef, undef, undef], defers := [] } W := by
      intro gp gt W HW
      refine ht _ _ #[true, true, true, true, true, true, true, true, true, false, false] _ { tmps := #[Value.agg #[Value.slice n.ca n.cols.length n.cc, Value.slice n.pa n.places.length n.pc, Value.slice n.ta n.tasks.length n.tc, Value.int IntKind.i64 n.frm, Value.int IntKind.i64 n.too], Value.pointer (some { block := w.heap.size, off := 0 }), Value.slice none 0 0, Value.slice none 0 0, undef, undef, undef, undef, undef, undef, undef, undef, .pointer (some ⟨w.heap.size, 1, none⟩), .slice n.pa n.places.length n.pc, .int .i64 ↑n.places.length, .slice (some ⟨gp, 0, none⟩) n.places.length n.places.length, .pointer (some ⟨w.heap.size, 2, none⟩), .slice n.ta n.tasks.length n.tc, .int .i64 ↑n.tasks.length, .slice (some ⟨gt, 0, none⟩) n.tasks.length n.tasks.length, .agg #[.slice (some ⟨gp, 0, none⟩) n.places.length n.places.length, .slice (some ⟨gt, 0, none⟩) n.tasks.length n.tasks.length, .slice none 0 0], undef, undef, undef, undef, undef, undef, undef, undef, undef, undef, undef, undef, undef, undef, undef, undef, undef, undef, undef, undef, undef, undef, undef, undef, undef, undef, undef, undef, undef, undef, undef, undef, undef, undef, undef, undef, undef, undef, undef, undef, undef, undef, undef, undef, undef, undef, undef, undef, undef, undef, undef, undef, undef, undef, undef, undef, undef, undef, undef, undef, undef], defers := [] } _ 8 { dst := some 20, op := Op.build 87 #[(0, Operand.tmp 15), (1, Operand.tmp 19)], type := 87, pos := "reached.go:9", after := #[{ on := 3, ground := Ground.data }, { on := 7, ground := Ground.data }], guard := none } (.agg #[.slice (some ⟨gp, 0, none⟩) n.places.length n.places.length, .slice (some ⟨gt, 0, none⟩) n.tasks.length n.tasks.length, .slice none 0 0]) (by kernel_rfl) (by kernel_rfl) (by kernel_rfl) (by rfl) (fun w' hw => ?hy) HW.out.1 (by kernel_rfl) (by rfl) ?_
      case hy =>
        clear ht hc hb hd L1 L2
        go_simp
        try with_reducible rfl
      refine hc _ _ #[true, true, true, true, true, true, true, true, true, true, false] _ _ 9 { dst := some 4, op := Op.alloc 87, type := 0, pos := "reached.go:9", after := #[], guard := none } (by kernel_rfl) (by kernel_rfl) (by kernel_rfl) (fun K hK => ?_)
      have hK0 : Hid _ := hK
      clear hK ht hc hb hd
      go_simp
      exact hK0.out _ _ HW.out.box.1 (L1 gp gt _ _ HW.out.box)
    have L39 : ∀ (gp q : Nat) (W : World), Hid (PB wz n.places.length gp q W) → F 3 #[true, true, true, true, true, true, true, false, false, true, false] { tmps := #[Value.agg #[Value.slice n.ca n.cols.length n.cc, Value.slice n.pa n.places.length n.pc, Value.slice n.ta n.tasks.length n.tc, Value.int IntKind.i64 n.frm, Value.int IntKind.i64 n.too], Value.pointer (some { block := w.heap.size, off := 0 }), Value.slice none 0 0, Value.slice none 0 0, .pointer (some ⟨q, 0, none⟩), undef, undef, undef, undef, undef, undef, undef, .pointer (some ⟨w.heap.size, 1, none⟩), .slice n.pa n.places.length n.pc, .int .i64 ↑n.places.length, .slice (some ⟨gp, 0, none⟩) n.places.length n.places.length, .pointer (some ⟨w.heap.size, 2, none⟩), .slice n.ta n.tasks.length n.tc, .int .i64 ↑n.tasks.length, undef, undef, undef, undef, undef, undef, undef, undef, undef, undef, undef, undef, undef, undef, undef, undef, undef, undef, undef, undef, undef, undef, undef, undef, undef, undef, undef, undef, undef, undef, undef, undef, undef, undef, undef, undef, undef, undef, undef, undef, undef, undef, undef, undef, undef, undef, undef, undef, undef, undef, undef, undef, undef, undef, undef, undef, undef, undef, undef, undef, undef, undef, undef], defers := [] } W := by
      intro gp q W HW
      refine hc _ _ #[true, true, true, true, true, true, true, true, false, true, false] _ _ 7 { dst := some 19, op := Op.makeSlice 85 (Operand.tmp 18) (Operand.tmp 18), type := 85, pos := "reached.go:9", after := #[{ on := 6, ground := Ground.data }, { on := 6, ground := Ground.data }], guard := none } (by kernel_rfl) (by kernel_rfl) (by kernel_rfl) (fun K hK => ?_)
      have hK0 : Hid _ := hK
      clear hK ht hc hb hd
      go_simp
      exact hK0.out _ _ (HW.out.row n.tasks.length).1 (L2 gp _ q _ (HW.out.row n.tasks.length))
    have L79 : ∀ (gt q : Nat) (W : World), Hid (PB wz n.tasks.length gt q W) → F 3 #[true, true, true, false, true, true, true, true, false, true, false] { tmps := #[Value.agg #[Value.slice n.ca n.cols.length n.cc, Value.slice n.pa n.places.length n.pc, Value.slice n.ta n.tasks.length n.tc, Value.int IntKind.i64 n.frm, Value.int IntKind.i64 n.too], Value.pointer (some { block := w.heap.size, off := 0 }), Value.slice none 0 0, Value.slice none 0 0, .pointer (some ⟨q, 0, none⟩), undef, undef, undef, undef, undef, undef, undef, .pointer (some ⟨w.heap.size, 1, none⟩), .slice n.pa n.places.length n.pc, .int .i64 ↑n.places.length, undef, .pointer (some ⟨w.heap.size, 2, none⟩), .slice n.ta n.tasks.length n.tc, .int .i64 ↑n.tasks.length, .slice (some ⟨gt, 0, none⟩) n.tasks.length n.tasks.length, undef, undef, undef, undef, undef, undef, undef, undef, undef, undef, undef, undef, undef, undef, undef, undef, undef, undef, undef, undef, undef, undef, undef, undef, undef, undef, undef, undef, undef, undef, undef, undef, undef, undef, undef, undef, undef, undef, undef, undef, undef, undef, undef, undef, undef, undef, undef, undef, undef, undef, undef, undef, undef, undef, undef, undef, undef, undef, undef, undef, undef, undef], defers := [] } W := by
      intro gt q W HW
      refine hc _ _ #[true, true, true, true, true, true, true, true, false, true, false] _ _ 3 { dst := some 15, op := Op.makeSlice 85 (Operand.tmp 14) (Operand.tmp 14), type := 85, pos := "reached.go:9", after := #[{ on := 2, ground := Ground.data }, { on := 2, ground := Ground.data }], guard := none } (by kernel_rfl) (by kernel_rfl) (by kernel_rfl) (fun K hK => ?_)
      have hK0 : Hid _ := hK
      clear hK ht hc hb hd
      go_simp
      exact hK0.out _ _ (HW.out.row' n.places.length).1 (L2 _ gt q _ (HW.out.row' n.places.length))
    have L3 : ∀ (gp : Nat) (W : World), Hid (P1 wz n.places.length gp W) → F 4 #[true, true, true, true, true, true, true, false, false, false, false] { tmps := #[Value.agg #[Value.slice n.ca n.cols.length n.cc, Value.slice n.pa n.places.length n.pc, Value.slice n.ta n.tasks.length n.tc, Value.int IntKind.i64 n.frm, Value.int IntKind.i64 n.too], Value.pointer (some { block := w.heap.size, off := 0 }), Value.slice none 0 0, Value.slice none 0 0, undef, undef, undef, undef, undef, undef, undef, undef, .pointer (some ⟨w.heap.size, 1, none⟩), .slice n.pa n.places.length n.pc, .int .i64 ↑n.places.length, .slice (some ⟨gp, 0, none⟩) n.places.length n.places.length, .pointer (some ⟨w.heap.size, 2, none⟩), .slice n.ta n.tasks.length n.tc, .int .i64 ↑n.tasks.length, undef, undef, undef, undef, undef, undef, undef, undef, undef, undef, undef, undef, undef, undef, undef, undef, undef, undef, undef, undef, undef, undef, undef, undef, undef, undef, undef, undef, undef, undef, undef, undef, undef, undef, undef, undef, undef, undef, undef, undef, undef, undef, undef, undef, undef, undef, undef, undef, undef, undef, undef, undef, undef, undef, undef, undef, undef, undef, undef, undef, undef, undef, undef], defers := [] } W := by
      intro gp W HW
      refine hb _ _ _ _ [7, 9] (by kernel_rfl) (by simp) ?_
      refine AllFH.cons (o := { dst := some 19, op := Op.makeSlice 85 (Operand.tmp 18) (Operand.tmp 18), type := 85, pos := "reached.go:9", after := #[{ on := 6, ground := Ground.data }, { on := 6, ground := Ground.data }], guard := none }) (l' := #[true, true, true, true, true, true, true, true, false, false, false]) (by kernel_rfl) (by kernel_rfl) (fun K hK => ?_) ?_
      · have hK0 : Hid _ := hK
        clear hK ht hc hb hd
        go_simp
        exact hK0.out _ _ (HW.out.row n.tasks.length).1 (L37 gp _ _ (HW.out.row n.tasks.length))
      refine AllFH.cons (o := { dst := some 4, op := Op.alloc 87, type := 0, pos := "reached.go:9", after := #[], guard := none }) (l' := #[true, true, true, true, true, true, true, false, false, true, false]) (by kernel_rfl) (by kernel_rfl) (fun K hK => ?_) ?_
      · have hK0 : Hid _ := hK
        clear hK ht hc hb hd
        go_simp
        exact hK0.out _ _ HW.out.box.1 (L39 gp _ _ HW.out.box)
      exact AllFH.nil
    have L7 : ∀ (gt : Nat) (W : World), Hid (P1 wz n.tasks.length gt W) → F 4 #[true, true, true, false, true, true, true, true, false, false, false] { tmps := #[Value.agg #[Value.slice n.ca n.cols.length n.cc, Value.slice n.pa n.places.length n.pc, Value.slice n.ta n.tasks.length n.tc, Value.int IntKind.i64 n.frm, Value.int IntKind.i64 n.too], Value.pointer (some { block := w.heap.size, off := 0 }), Value.slice none 0 0, Value.slice none 0 0, undef, undef, undef, undef, undef, undef, undef, undef, .pointer (some ⟨w.heap.size, 1, none⟩), .slice n.pa n.places.length n.pc, .int .i64 ↑n.places.length, undef, .pointer (some ⟨w.heap.size, 2, none⟩), .slice n.ta n.tasks.length n.tc, .int .i64 ↑n.tasks.length, .slice (some ⟨gt, 0, none⟩) n.tasks.length n.tasks.length, undef, undef, undef, undef, undef, undef, undef, undef, undef, undef, undef, undef, undef, undef, undef, undef, undef, undef, undef, undef, undef, undef, undef, undef, undef, undef, undef, undef, undef, undef, undef, undef, undef, undef, undef, undef, undef, undef, undef, undef, undef, undef, undef, undef, undef, undef, undef, undef, undef, undef, undef, undef, undef, undef, undef, undef, undef, undef, undef, undef, undef, undef], defers := [] } W := by
      intro gt W HW
      refine hb _ _ _ _ [3, 9] (by kernel_rfl) (by simp) ?_
      refine AllFH.cons (o := { dst := some 15, op := Op.makeSlice 85 (Operand.tmp 14) (Operand.tmp 14), type := 85, pos := "reached.go:9", after := #[{ on := 2, ground := Ground.data }, { on := 2, ground := Ground.data }], guard := none }) (l' := #[true, true, true, true, true, true, true, true, false, false, false]) (by kernel_rfl) (by kernel_rfl) (fun K hK => ?_) ?_
      · have hK0 : Hid _ := hK
        clear hK ht hc hb hd
        go_simp
        exact hK0.out _ _ (HW.out.row' n.places.length).1 (L37 _ gt _ (HW.out.row' n.places.length))
      refine AllFH.cons (o := { dst := some 4, op := Op.alloc 87, type := 0, pos := "reached.go:9", after := #[], guard := none }) (l' := #[true, true, true, false, true, true, true, true, false, true, false]) (by kernel_rfl) (by kernel_rfl) (fun K hK => ?_) ?_
      · have hK0 : Hid _ := hK
        clear hK ht hc hb hd
        go_simp
        exact hK0.out _ _ HW.out.box.1 (L79 gt _ _ HW.out.box)
      exact AllFH.nil
    have L9 : ∀ (q : Nat) (W : World), Hid (B1 wz q W) → F 4 #[true, true, true, false, true, true, true, false, false, true, false] { tmps := #[Value.agg #[Value.slice n.ca n.cols.length n.cc, Value.slice n.pa n.places.length n.pc, Value.slice n.ta n.tasks.length n.tc, Value.int IntKind.i64 n.frm, Value.int IntKind.i64 n.too], Value.pointer (some { block := w.heap.size, off := 0 }), Value.slice none 0 0, Value.slice none 0 0, .pointer (some ⟨q, 0, none⟩), undef, undef, undef, undef, undef, undef, undef, .pointer (some ⟨w.heap.size, 1, none⟩), .slice n.pa n.places.length n.pc, .int .i64 ↑n.places.length, undef, .pointer (some ⟨w.heap.size, 2, none⟩), .slice n.ta n.tasks.length n.tc, .int .i64 ↑n.tasks.length, undef, undef, undef, undef, undef, undef, undef, undef, undef, undef, undef, undef, undef, undef, undef, undef, undef, undef, undef, undef, undef, undef, undef, undef, undef, undef, undef, undef, undef, undef, undef, undef, undef, undef, undef, undef, undef, undef, undef, undef, undef, undef, undef, undef, undef, undef, undef, undef, undef, undef, undef, undef, undef, undef, undef, undef, undef, undef, undef, undef, undef, undef, undef], defers := [] } W := by
      intro q W HW
      refine hb _ _ _ _ [3, 7] (by kernel_rfl) (by simp) ?_
      refine AllFH.cons (o := { dst := some 15, op := Op.makeSlice 85 (Operand.tmp 14) (Operand.tmp 14), type := 85, pos := "reached.go:9", after := #[{ on := 2, ground := Ground.data }, { on := 2, ground := Ground.data }], guard := none }) (l' := #[true, true, true, true, true, true, true, false, false, true, false]) (by kernel_rfl) (by kernel_rfl) (fun K hK => ?_) ?_
      · have hK0 : Hid _ := hK
        clear hK ht hc hb hd
        go_simp
        exact hK0.out _ _ (HW.out.row n.places.length).1 (L39 _ q _ (HW.out.row n.places.length))
      refine AllFH.cons (o := { dst := some 19, op := Op.makeSlice 85 (Operand.tmp 18) (Operand.tmp 18), type := 85, pos := "reached.go:9", after := #[{ on := 6, ground := Ground.data }, { on := 6, ground := Ground.data }], guard := none }) (l' := #[true, true, true, false, true, true, true, true, false, true, false]) (by kernel_rfl) (by kernel_rfl) (fun K hK => ?_) ?_
      · have hK0 : Hid _ := hK
        clear hK ht hc hb hd
        go_simp
        exact hK0.out _ _ (HW.out.row n.tasks.length).1 (L79 _ q _ (HW.out.row n.tasks.length))
      exact AllFH.nil
    refine hb _ _ _ _ [3, 7, 9] (by kernel_rfl) (by simp) ?_
    refine AllFH.cons (o := { dst := some 15, op := Op.makeSlice 85 (Operand.tmp 14) (Operand.tmp 14), type := 85, pos := "reached.go:9", after := #[{ on := 2, ground := Ground.data }, { on := 2, ground := Ground.data }], guard := none }) (l' := #[true, true, true, true, true, true, true, false, false, false, false]) (by kernel_rfl) (by kernel_rfl) (fun K hK => ?_) ?_
    · have hK0 : Hid _ := hK
      clear hK ht hc hb hd
      go_simp
      exact hK0.out _ _ (P1.of hS n.places.length).1 (L3 _ _ (P1.of hS n.places.length))
    refine AllFH.cons (o := { dst := some 19, op := Op.makeSlice 85 (Operand.tmp 18) (Operand.tmp 18), type := 85, pos := "reached.go:9", after := #[{ on := 6, ground := Ground.data }, { on := 6, ground := Ground.data }], guard := none }) (l' := #[true, true, true, false, true, true, true, true, false, false, false]) (by kernel_rfl) (by kernel_rfl) (fun K hK => ?_) ?_
    · have hK0 : Hid _ := hK
      clear hK ht hc hb hd
      go_simp
      exact hK0.out _ _ (P1.of hS n.tasks.length).1 (L7 _ _ (P1.of hS n.tasks.length))
    refine AllFH.cons (o := { dst := some 4, op := Op.alloc 87, type := 0, pos := "reached.go:9", after := #[], guard := none }) (l' := #[true, true, true, false, true, true, true, false, false, true, false]) (by kernel_rfl) (by kernel_rfl) (fun K hK => ?_) ?_
    · have hK0 : Hid _ := hK
      clear hK ht hc hb hd
      go_simp
      exact hK0.out _ _ (B1.of hS).1 (L9 _ _ (B1.of hS))
    exact AllFH.nil
  case rest =>
    obtain ⟨gp, gt, q, rfl, HC⟩ := hcut
    clear hmk hmk2 c0 c1 c2 c4
    have HC1 : Hid (∀ b, (b = q ∨ b = gp ∨ b = gt) → wz.heap.size ≤ b) := fun b hb => (HC.out.2.own_le b (by rcases hb with e | e | e; exact .inl e; exact .inr (.inl e); exact .inr (.inr (.inl e)))).1
    have c3 := box_below c3 HC.out.1
    have C1 : Hid (Calls Tryz.prog 55 #[.pointer (some ⟨q, 0, none⟩), .int .i64 n.frm] wc (ComePost wz.heap.size wc (fun b => b = q ∨ b = gp ∨ b = gt) q gp gt n.places.length n.tasks.length (comeP (fun _ => false) n.frm) (fun _ => false) (comeO n.places.length (fun _ => false) [] n.frm))) := come_any _ _ _ q gp gt _ _ _ _ _ none 0 n.frm wc HC.out.2 hpl
    go_wp2_with fail
    refine C1.out.mono ?_
    rintro e w1 ⟨a1, k1, he, h1⟩
    subst he
    have H1 : Hid (WM wz.heap.size wc (fun b => b = q ∨ b = gp ∨ b = gt) q gp gt n.places.length n.tasks.length (comeP (fun _ => false) n.frm) (fun _ => false) (comeO n.places.length (fun _ => false) [] n.frm) a1 k1 w1 ∧ W0I n (comeP (fun _ => false) n.frm) (comeO n.places.length (fun _ => false) [] n.frm) 0) := ⟨h1, W0I.first n⟩
    have hb1 : Below wz.heap.size wz w1 := h1.base HC.out.1 HC1.out
    have c1 := box_below HZ.out.2.1.2.1 hb1
    clear C1 h1 hb1 c3
    go_wp2_with fail
    clear c1
    go_loopw [27] (fun v wr => ∃ (i : Nat) (P : Nat → Bool) (O : List Int) (a : Option Addr) (c : Nat), v = .int .i64 (i : Int) ∧ i ≤ n.places.length ∧ Hid (WM wz.heap.size wc (fun b => b = q ∨ b = gp ∨ b = gt) q gp gt n.places.length n.tasks.length P (fun _ => false) O a c wr ∧ W0I n P O i)) (fun v _ => match v with | .int _ z => n.places.length - z.toNat | _ => 0)
    case atStart => exact ⟨0, _, _, a1, k1, rfl, by omega, H1⟩
    case round =>
      obtain ⟨i, P, O, a, c, rfl, hi, HI⟩ := hrel
      by_cases hlt : i < n.places.length
      · have hlt' : (i : Int) < n.places.length := by omega
        have hbr : Below wz.heap.size wz wr := HI.out.1.base HC.out.1 HC1.out
        obtain ⟨b, off, ha, hr, _⟩ := (HN.out.below hbr).2.2.1.at hlt
        obtain ⟨p, hp⟩ : ∃ p, p = n.places.getD i nilPl := ⟨_, rfl⟩
        rw [← hp] at hr
        have HP : Hid (p = n.places.getD i nilPl) := hp
        clear hp
        have d0 : wr.cell? ⟨b, off + i * 3, none⟩ = some (.string p.name) := hr 0 _ rfl
        have d1 : wr.cell? ⟨b, off + i * 3 + 1, none⟩ = some (.int .i64 p.colour) := hr 1 _ rfl
        have d2 : wr.cell? ⟨b, off + i * 3 + 2, none⟩ = some (.slice p.fa p.first.length p.fc) := hr 2 _ rfl
        have hbl : b < wr.heap.size := World.block_lt_of_cell? _ _ d0
        rw [ha]
        clear hr hbr
        go_upto_region 6 with fail
        obtain ⟨w4, hw4⟩ : ∃ w4, w4 = wr.alloc (.cells #[.string p.name, .int .i64 p.colour, .slice p.fa p.first.length p.fc] 45) := ⟨_, rfl⟩
        obtain ⟨r, hr⟩ : ∃ r, r = wr.heap.size := ⟨_, rfl⟩
        have y2 : w4.cell? ⟨r, 2, none⟩ = some (.slice p.fa p.first.length p.fc) := by rw [hw4, World.cell?_alloc_at _ _ _ _ hr]; rfl
        have H4 : Hid (WM wz.heap.size wc (fun b => b = q ∨ b = gp ∨ b = gt) q gp gt n.places.length n.tasks.length P (fun _ => false) O a c w4 ∧ W0I n P O i) := ⟨HI.out.1.below (by rw [hw4]; exact (Below.refl _ _).alloc (Nat.le_refl _) _), HI.out.2⟩
        rw [← hw4, ← hr]
        clear hw4 hr d0 d1 d2 hbl HI
        by_cases hf : p.first.length > 0
        · have hf' : (p.first.length : Int) > 0 := by omega
          have C2 : Hid (Calls Tryz.prog 55 #[.pointer (some ⟨q, 0, none⟩), .int .i64 (i : Int)] w4 (ComePost wz.heap.size wc (fun b => b = q ∨ b = gp ∨ b = gt) q gp gt n.places.length n.tasks.length (comeP P i) (fun _ => false) (comeO n.places.length P O i))) := come_any _ _ _ q gp gt _ _ _ _ _ a c i w4 H4.out.1 hpl
          have HW : Hid (W0I n (comeP P (i : Int)) (comeO n.places.length P O (i : Int)) (i + 1)) := H4.out.2.come i (fun k hk e => .inr (by have : k = i := (by omega); subst this; rw [← HP.out]; intro e2; rw [e2] at hf; simp at hf)) (i + 1) (fun k hk h1 h2 _ => by omega)
          go_wp2_with fail
          refine C2.out.mono ?_
          rintro e w5 ⟨a5, k5, he, h5⟩
          subst he
          have H5 : Hid (WM wz.heap.size wc (fun b => b = q ∨ b = gp ∨ b = gt) q gp gt n.places.length n.tasks.length (comeP P i) (fun _ => false) (comeO n.places.length P O i) a5 k5 w5) := h5
          clear h5 C2
          go_wp2_with fail
          go_roundw
          case rel => exact ⟨i + 1, _, _, a5, k5, by simp, by omega, ⟨H5.out, HW.out⟩⟩
          case measure => simp; omega
        · have hf' : ¬ (p.first.length : Int) > 0 := by omega
          have HW : Hid (W0I n P O (i + 1)) := H4.out.2.skip (by rw [← HP.out]; exact List.length_eq_zero_iff.1 (by omega))
          go_wp2_with fail
          go_roundw
          case rel => exact ⟨i + 1, P, O, a, c, by simp, by omega, ⟨H4.out.1, HW.out⟩⟩
          case measure => simp; omega
      · have hlt' : ¬ (i : Int) < n.places.length := by omega
        have e : i = n.places.length := by omega
        subst e
        have HB : Hid (Below wz.heap.size wz wr) := HI.out.1.base HC.out.1 HC1.out
        have HWI : Hid (WI n P (fun _ => false) O (fun _ => False)) := HI.out.2.done
        obtain ⟨c0, c1, c2, c3, c4⟩ := HZ.out.2.1.below HB.out
        have CT : Hid (Calls Tryz.prog 56 #[.agg (netC n)] wr (TkPost n wr)) := takersOf_any n wr (HN.out.below HB.out) H0.out.2.1 H0.out.2.2
        unfold netC at CT
        go_upto_region 9 with fail
        go_wp2_with fail
        refine CT.out.mono ?_
        rintro e w3 ⟨g, sa, cs, he, hT, hb3⟩
        subst he
        have HQ := (HI.out.1.below hb3).rebase
        have H3 : Hid (WM wz.heap.size w3 (fun b => b = q ∨ b = gp ∨ b = gt ∨ a.map Addr.block = some b) q gp gt n.places.length n.tasks.length P (fun _ => false) O a c w3) := HQ
        have HB3 : Hid (Below wz.heap.size wz w3) := then_ HB.out hb3
        have HM3 : Hid (∀ b, (b = q ∨ b = gp ∨ b = gt ∨ a.map Addr.block = some b) → wz.heap.size ≤ b) := fun b hb => (HI.out.1.own_le b hb).1
        have HT : Hid (∀ W, Ch (fun b => b = q ∨ b = gp ∨ b = gt ∨ a.map Addr.block = some b) w3 W → TkM wr.heap.size g n.places.length (tkAll n n.tasks.length) sa cs W) := fun W hW => hT.ch hW (fun hb => by have := (HI.out.1.own_le g hb).2; have := hT.2.1.1; omega) (fun p hp k hk hb => by have := (HI.out.1.own_le k hb).2; have := (own_lt (hT.2.2.1 p hp) hk).1; omega)
        have HL : Hid (∀ p, (tkAll n n.tasks.length p).length ≤ 1000000) := fun p => Nat.le_trans (tkAll_len n _ p) H0.out.2.2
        clear CT hT hb3 HQ c0 c1 c2 c3 c4 HB HI
        go_wp2_with fail
        go_loopw [] (fun wr => ∃ (P T : Nat → Bool) (O : List Int) (a' : Option Addr) (c' : Nat), Hid (WM wz.heap.size w3 (fun b => b = q ∨ b = gp ∨ b = gt ∨ a.map Addr.block = some b) q gp gt n.places.length n.tasks.length P T O a' c' wr ∧ WI n P T O (fun _ => False))) (fun wr => farW gp q n.places.length wr)
        case atStart => exact ⟨P, fun _ => false, O, a, c, ⟨H3.out, HWI.out⟩⟩
        case round =>
          clear H3 HWI
          obtain ⟨P, T, O, a', c', HI⟩ := hrel
          obtain ⟨x0, x1, x2, x3, ql⟩ := wk_at HI.out.1
          by_cases hlt : O.length = 0
          · rw [hlt] at x2
            have HE : Hid (Told n P T ∧ WM wz.heap.size w3 (fun b => b = q ∨ b = gp ∨ b = gt ∨ a.map Addr.block = some b) q gp gt n.places.length n.tasks.length P T O a' c' wr) := ⟨by have := HI.out.2; rw [List.length_eq_zero_iff.1 hlt] at this; exact this.told, HI.out.1⟩
            have BP := HI.out.1.1.2.1
            have BT := HI.out.1.1.2.2.1
            have HBP : Hid (∀ W, Below wr.heap.size wr W → Bs W (some ⟨gp, 0, none⟩) n.places.length P) := fun W hW => .inr ⟨gp, 0, rfl, fun i hi => by rw [Nat.zero_add]; exact box_below (BP.cell hi) hW⟩
            have HBT : Hid (∀ W, Below wr.heap.size wr W → Bs W (some ⟨gt, 0, none⟩) n.tasks.length T) := fun W hW => .inr ⟨gt, 0, rfl, fun i hi => by rw [Nat.zero_add]; exact box_below (BT.cell hi) hW⟩
            have HB : Hid (Below w.heap.size w wr) := then_ HZ.out.1 (HI.out.1.base HB3.out HM3.out)
            have HX : Hid (wr.cell? ⟨q, 0, none⟩ = some (.slice (some ⟨gp, 0, none⟩) n.places.length n.places.length) ∧ wr.cell? ⟨q, 1, none⟩ = some (.slice (some ⟨gt, 0, none⟩) n.tasks.length n.tasks.length)) := ⟨x0, x1⟩
            clear HI BP BT x0 x1
            go_upto_region 19 with fail
            clear x2 x3 ql hlt
            refine wp_region_held_drew (S := fun W => Below wr.heap.size wr W) (by kernel_rfl) ((Below.refl _ _).drew) (fun hS => ?_)
            refine wpAnyH_steps (l' := #[false, false, false, false, false, false, false, false]) (a' := { tmps := #[Value.agg #[Value.slice n.ca n.cols.length n.cc, Value.slice n.pa n.places.length n.pc, Value.slice n.ta n.tasks.length n.tc, Value.int IntKind.i64 n.frm, Value.int IntKind.i64 n.too], Value.pointer (some { block := w.heap.size, off := 0 }), Value.slice none 0 0, Value.slice none 0 0, Value.pointer (some { block := q, off := 0 }), u5, u6, Value.slice (some { block := g, off := 0 }) n.places.length n.places.length, u8, u9, undef, u11, u12, u13, u14, u15, u16, u17, u18, u19, u20, Value.pointer (some { block := w.heap.size, off := 3 }), Value.int IntKind.i64 n.frm, Value.tuple #[], Value.pointer (some { block := w.heap.size, off := 1 }), Value.slice n.pa n.places.length n.pc, Value.int IntKind.i64 ↑n.places.length, Value.int IntKind.i64 ↑n.places.length, Value.bool false, u29, u30, u31, u32, u33, u34, u35, u36, u37, u38, Value.agg #[Value.slice n.ca n.cols.length n.cc, Value.slice n.pa n.places.length n.pc, Value.slice n.ta n.tasks.length n.tc, Value.int IntKind.i64 n.frm, Value.int IntKind.i64 n.too], Value.slice (some { block := g, off := 0 }) n.places.length n.places.length, Value.pointer (some { block := q, off := 2 }), Value.slice a' 0 c', Value.int IntKind.i64 0, Value.bool false, u45, u46, u47, u48, u49, u50, u51, u52, u53, u54, u55, u56, u57, u58, u59, u60, u61, u62, u63, u64, u65, u66, u67, u68, u69, u70, u71, u72, u73, u74, u75, u76, u77, u78, u79, u80, u81], defers := [] }) (by kernel_rfl) (by rfl) (by kernel_rfl) (fun _ _ d _ _ h => by cases d <;> exact h) (fun F ht hc hb hd => ?_)
            refine ht _ _ #[true, false, false, false, false, false, false, false] _ { tmps := #[Value.agg #[Value.slice n.ca n.cols.length n.cc, Value.slice n.pa n.places.length n.pc, Value.slice n.ta n.tasks.length n.tc, Value.int IntKind.i64 n.frm, Value.int IntKind.i64 n.too], Value.pointer (some { block := w.heap.size, off := 0 }), Value.slice none 0 0, Value.slice none 0 0, Value.pointer (some { block := q, off := 0 }), u5, u6, Value.slice (some { block := g, off := 0 }) n.places.length n.places.length, u8, u9, undef, u11, u12, u13, u14, u15, u16, u17, u18, u19, u20, Value.pointer (some { block := w.heap.size, off := 3 }), Value.int IntKind.i64 n.frm, Value.tuple #[], Value.pointer (some { block := w.heap.size, off := 1 }), Value.slice n.pa n.places.length n.pc, Value.int IntKind.i64 ↑n.places.length, Value.int IntKind.i64 ↑n.places.length, Value.bool false, u29, u30, u31, u32, u33, u34, u35, u36, u37, u38, Value.agg #[Value.slice n.ca n.cols.length n.cc, Value.slice n.pa n.places.length n.pc, Value.slice n.ta n.tasks.length n.tc, Value.int IntKind.i64 n.frm, Value.int IntKind.i64 n.too], Value.slice (some { block := g, off := 0 }) n.places.length n.places.length, Value.pointer (some { block := q, off := 2 }), Value.slice a' 0 c', Value.int IntKind.i64 0, Value.bool false, u45, u46, u47, u48, u49, u50, u51, u52, u53, u54, u55, u56, u57, u58, u59, u60, u61, u62, u63, u64, u65, u66, u67, u68, u69, u70, u71, u72, u73, u74, u75, .pointer (some ⟨q, 0, none⟩), u77, u78, u79, u80, u81], defers := [] } _ 0 { dst := some 76, op := Op.fieldAddr 87 (Operand.tmp 4) 0, type := 0, pos := "reached.go:25", after := #[], guard := none } (.pointer (some ⟨q, 0, none⟩)) (by kernel_rfl) (by kernel_rfl) (by kernel_rfl) (by rfl) (fun w' hw => ?hy) hS (by kernel_rfl) (by rfl) ?_
            case hy =>
              clear ht hc hb hd hS
              go_simp
              try with_reducible rfl
            refine ht _ _ #[true, true, false, false, false, false, false, false] _ { tmps := #[Value.agg #[Value.slice n.ca n.cols.length n.cc, Value.slice n.pa n.places.length n.pc, Value.slice n.ta n.tasks.length n.tc, Value.int IntKind.i64 n.frm, Value.int IntKind.i64 n.too], Value.pointer (some { block := w.heap.size, off := 0 }), Value.slice none 0 0, Value.slice none 0 0, Value.pointer (some { block := q, off := 0 }), u5, u6, Value.slice (some { block := g, off := 0 }) n.places.length n.places.length, u8, u9, undef, u11, u12, u13, u14, u15, u16, u17, u18, u19, u20, Value.pointer (some { block := w.heap.size, off := 3 }), Value.int IntKind.i64 n.frm, Value.tuple #[], Value.pointer (some { block := w.heap.size, off := 1 }), Value.slice n.pa n.places.length n.pc, Value.int IntKind.i64 ↑n.places.length, Value.int IntKind.i64 ↑n.places.length, Value.bool false, u29, u30, u31, u32, u33, u34, u35, u36, u37, u38, Value.agg #[Value.slice n.ca n.cols.length n.cc, Value.slice n.pa n.places.length n.pc, Value.slice n.ta n.tasks.length n.tc, Value.int IntKind.i64 n.frm, Value.int IntKind.i64 n.too], Value.slice (some { block := g, off := 0 }) n.places.length n.places.length, Value.pointer (some { block := q, off := 2 }), Value.slice a' 0 c', Value.int IntKind.i64 0, Value.bool false, u45, u46, u47, u48, u49, u50, u51, u52, u53, u54, u55, u56, u57, u58, u59, u60, u61, u62, u63, u64, u65, u66, u67, u68, u69, u70, u71, u72, u73, u74, u75, .pointer (some ⟨q, 0, none⟩), .slice (some ⟨gp, 0, none⟩) n.places.length n.places.length, u78, u79, u80, u81], defers := [] } _ 1 { dst := some 77, op := Op.load 85 (Operand.tmp 76), type := 85, pos := "reached.go:25", after := #[{ on := 0, ground := Ground.data }], guard := none } (.slice (some ⟨gp, 0, none⟩) n.places.length n.places.length) (by kernel_rfl) (by kernel_rfl) (by kernel_rfl) (by rfl) (fun w' hw => ?hy) hS (by kernel_rfl) (by rfl) ?_
            case hy =>
              have f0 := box_below HX.out.1 hw
              clear ht hc hb hd hS
              go_simp
              try with_reducible rfl
            refine ht _ _ #[true, true, false, true, false, false, false, false] _ { tmps := #[Value.agg #[Value.slice n.ca n.cols.length n.cc, Value.slice n.pa n.places.length n.pc, Value.slice n.ta n.tasks.length n.tc, Value.int IntKind.i64 n.frm, Value.int IntKind.i64 n.too], Value.pointer (some { block := w.heap.size, off := 0 }), Value.slice none 0 0, Value.slice none 0 0, Value.pointer (some { block := q, off := 0 }), u5, u6, Value.slice (some { block := g, off := 0 }) n.places.length n.places.length, u8, u9, undef, u11, u12, u13, u14, u15, u16, u17, u18, u19, u20, Value.pointer (some { block := w.heap.size, off := 3 }), Value.int IntKind.i64 n.frm, Value.tuple #[], Value.pointer (some { block := w.heap.size, off := 1 }), Value.slice n.pa n.places.length n.pc, Value.int IntKind.i64 ↑n.places.length, Value.int IntKind.i64 ↑n.places.length, Value.bool false, u29, u30, u31, u32, u33, u34, u35, u36, u37, u38, Value.agg #[Value.slice n.ca n.cols.length n.cc, Value.slice n.pa n.places.length n.pc, Value.slice n.ta n.tasks.length n.tc, Value.int IntKind.i64 n.frm, Value.int IntKind.i64 n.too], Value.slice (some { block := g, off := 0 }) n.places.length n.places.length, Value.pointer (some { block := q, off := 2 }), Value.slice a' 0 c', Value.int IntKind.i64 0, Value.bool false, u45, u46, u47, u48, u49, u50, u51, u52, u53, u54, u55, u56, u57, u58, u59, u60, u61, u62, u63, u64, u65, u66, u67, u68, u69, u70, u71, u72, u73, u74, u75, .pointer (some ⟨q, 0, none⟩), .slice (some ⟨gp, 0, none⟩) n.places.length n.places.length, u78, .pointer (some ⟨q, 1, none⟩), u80, u81], defers := [] } _ 3 { dst := some 79, op := Op.fieldAddr 87 (Operand.tmp 4) 1, type := 0, pos := "reached.go:25", after := #[], guard := none } (.pointer (some ⟨q, 1, none⟩)) (by kernel_rfl) (by kernel_rfl) (by kernel_rfl) (by rfl) (fun w' hw => ?hy) hS (by kernel_rfl) (by rfl) ?_
            case hy =>
              clear ht hc hb hd hS
              go_simp
              try with_reducible rfl
            refine ht _ _ #[true, true, false, true, true, false, false, false] _ { tmps := #[Value.agg #[Value.slice n.ca n.cols.length n.cc, Value.slice n.pa n.places.length n.pc, Value.slice n.ta n.tasks.length n.tc, Value.int IntKind.i64 n.frm, Value.int IntKind.i64 n.too], Value.pointer (some { block := w.heap.size, off := 0 }), Value.slice none 0 0, Value.slice none 0 0, Value.pointer (some { block := q, off := 0 }), u5, u6, Value.slice (some { block := g, off := 0 }) n.places.length n.places.length, u8, u9, undef, u11, u12, u13, u14, u15, u16, u17, u18, u19, u20, Value.pointer (some { block := w.heap.size, off := 3 }), Value.int IntKind.i64 n.frm, Value.tuple #[], Value.pointer (some { block := w.heap.size, off := 1 }), Value.slice n.pa n.places.length n.pc, Value.int IntKind.i64 ↑n.places.length, Value.int IntKind.i64 ↑n.places.length, Value.bool false, u29, u30, u31, u32, u33, u34, u35, u36, u37, u38, Value.agg #[Value.slice n.ca n.cols.length n.cc, Value.slice n.pa n.places.length n.pc, Value.slice n.ta n.tasks.length n.tc, Value.int IntKind.i64 n.frm, Value.int IntKind.i64 n.too], Value.slice (some { block := g, off := 0 }) n.places.length n.places.length, Value.pointer (some { block := q, off := 2 }), Value.slice a' 0 c', Value.int IntKind.i64 0, Value.bool false, u45, u46, u47, u48, u49, u50, u51, u52, u53, u54, u55, u56, u57, u58, u59, u60, u61, u62, u63, u64, u65, u66, u67, u68, u69, u70, u71, u72, u73, u74, u75, .pointer (some ⟨q, 0, none⟩), .slice (some ⟨gp, 0, none⟩) n.places.length n.places.length, u78, .pointer (some ⟨q, 1, none⟩), .slice (some ⟨gt, 0, none⟩) n.tasks.length n.tasks.length, u81], defers := [] } _ 4 { dst := some 80, op := Op.load 85 (Operand.tmp 79), type := 85, pos := "reached.go:25", after := #[{ on := 3, ground := Ground.data }], guard := none } (.slice (some ⟨gt, 0, none⟩) n.tasks.length n.tasks.length) (by kernel_rfl) (by kernel_rfl) (by kernel_rfl) (by rfl) (fun w' hw => ?hy) hS (by kernel_rfl) (by rfl) ?_
            case hy =>
              have f1 := box_below HX.out.2 hw
              clear ht hc hb hd hS
              go_simp
              try with_reducible rfl
            refine hc _ _ #[true, true, true, true, true, false, false, false] _ _ 2 { dst := some 78, op := Op.call { callee := Callee.value (Operand.func 58), args := #[Operand.tmp 77], argTypes := #[85] }, type := 36, pos := "reached.go:25", after := #[{ on := 1, ground := Ground.data }], guard := none } (by kernel_rfl) (by kernel_rfl) (by kernel_rfl) (fun K hK => ?_)
            have hK0 : Hid _ := hK
            clear hK hS
            go_simp
            refine (numbers_any (some ⟨gp, 0, none⟩) n.places.length n.places.length P wr.drew (HBP.out _ (Below.refl _ _).drew) hpl).mono ?_
            rintro e wa ⟨a2, c2, he, hi2⟩
            subst he
            have hS : Below wr.heap.size wr wa := then_ (Below.refl _ _).drew hi2.2
            have I2 : Hid (IR wr.drew wa a2 c2 (trueL n.places.length P) ∧ Below wr.heap.size wr wa) := ⟨hi2, hS⟩
            clear hi2
            try go_simp
            refine hK0.out _ _ hS ?_
            clear hK0 K
            refine hc _ _ #[true, true, true, true, true, true, false, false] _ _ 5 { dst := some 81, op := Op.call { callee := Callee.value (Operand.func 58), args := #[Operand.tmp 80], argTypes := #[85] }, type := 36, pos := "reached.go:25", after := #[{ on := 4, ground := Ground.data }, { on := 2, ground := Ground.chain }], guard := none } (by kernel_rfl) (by kernel_rfl) (by kernel_rfl) (fun K hK => ?_)
            have hK0 : Hid _ := hK
            clear hK hS
            go_simp
            refine (numbers_any (some ⟨gt, 0, none⟩) n.tasks.length n.tasks.length T wa (HBT.out _ I2.out.2) htl).mono ?_
            rintro e wb ⟨a3, c3, he, hi3⟩
            subst he
            have hS : Below wr.heap.size wr wb := then_ I2.out.2 hi3.2
            have I3 : Hid (IR wr.drew wb a2 c2 (trueL n.places.length P) ∧ IR wa wb a3 c3 (trueL n.tasks.length T) ∧ Below wr.heap.size wr wb) := ⟨I2.out.1.below hi3.2, hi3, hS⟩
            clear hi3
            try go_simp
            refine hK0.out _ _ hS ?_
            clear hK0 K
            refine ht _ _ #[true, true, true, true, true, true, true, false] _ { tmps := #[Value.agg #[Value.slice n.ca n.cols.length n.cc, Value.slice n.pa n.places.length n.pc, Value.slice n.ta n.tasks.length n.tc, Value.int IntKind.i64 n.frm, Value.int IntKind.i64 n.too], Value.pointer (some { block := w.heap.size, off := 0 }), .slice a2 (trueL n.places.length P).length c2, Value.slice none 0 0, Value.pointer (some { block := q, off := 0 }), u5, u6, Value.slice (some { block := g, off := 0 }) n.places.length n.places.length, u8, u9, undef, u11, u12, u13, u14, u15, u16, u17, u18, u19, u20, Value.pointer (some { block := w.heap.size, off := 3 }), Value.int IntKind.i64 n.frm, Value.tuple #[], Value.pointer (some { block := w.heap.size, off := 1 }), Value.slice n.pa n.places.length n.pc, Value.int IntKind.i64 ↑n.places.length, Value.int IntKind.i64 ↑n.places.length, Value.bool false, u29, u30, u31, u32, u33, u34, u35, u36, u37, u38, Value.agg #[Value.slice n.ca n.cols.length n.cc, Value.slice n.pa n.places.length n.pc, Value.slice n.ta n.tasks.length n.tc, Value.int IntKind.i64 n.frm, Value.int IntKind.i64 n.too], Value.slice (some { block := g, off := 0 }) n.places.length n.places.length, Value.pointer (some { block := q, off := 2 }), Value.slice a' 0 c', Value.int IntKind.i64 0, Value.bool false, u45, u46, u47, u48, u49, u50, u51, u52, u53, u54, u55, u56, u57, u58, u59, u60, u61, u62, u63, u64, u65, u66, u67, u68, u69, u70, u71, u72, u73, u74, u75, .pointer (some ⟨q, 0, none⟩), .slice (some ⟨gp, 0, none⟩) n.places.length n.places.length, .slice a2 (trueL n.places.length P).length c2, .pointer (some ⟨q, 1, none⟩), .slice (some ⟨gt, 0, none⟩) n.tasks.length n.tasks.length, .slice a3 (trueL n.tasks.length T).length c3], defers := [] } _ 6 { dst := some 2, op := Op.assign (Operand.tmp 78), type := 36, pos := "reached.go:25", after := #[{ on := 2, ground := Ground.data }, { on := 5, ground := Ground.chain }, { on := 0, ground := Ground.phase }, { on := 1, ground := Ground.phase }, { on := 2, ground := Ground.phase }, { on := 3, ground := Ground.textOnly Departure.lateStores }, { on := 4, ground := Ground.textOnly Departure.lateStores }, { on := 5, ground := Ground.textOnly Departure.lateStoresUnsure }], guard := none } (.slice a2 (trueL n.places.length P).length c2) (by kernel_rfl) (by kernel_rfl) (by kernel_rfl) (by rfl) (fun w' hw => ?hy) hS (by kernel_rfl) (by rfl) ?_
            case hy =>
              clear ht hc hb hd hS
              go_simp
              try with_reducible rfl
            refine ht _ _ #[true, true, true, true, true, true, true, true] _ { tmps := #[Value.agg #[Value.slice n.ca n.cols.length n.cc, Value.slice n.pa n.places.length n.pc, Value.slice n.ta n.tasks.length n.tc, Value.int IntKind.i64 n.frm, Value.int IntKind.i64 n.too], Value.pointer (some { block := w.heap.size, off := 0 }), .slice a2 (trueL n.places.length P).length c2, .slice a3 (trueL n.tasks.length T).length c3, Value.pointer (some { block := q, off := 0 }), u5, u6, Value.slice (some { block := g, off := 0 }) n.places.length n.places.length, u8, u9, undef, u11, u12, u13, u14, u15, u16, u17, u18, u19, u20, Value.pointer (some { block := w.heap.size, off := 3 }), Value.int IntKind.i64 n.frm, Value.tuple #[], Value.pointer (some { block := w.heap.size, off := 1 }), Value.slice n.pa n.places.length n.pc, Value.int IntKind.i64 ↑n.places.length, Value.int IntKind.i64 ↑n.places.length, Value.bool false, u29, u30, u31, u32, u33, u34, u35, u36, u37, u38, Value.agg #[Value.slice n.ca n.cols.length n.cc, Value.slice n.pa n.places.length n.pc, Value.slice n.ta n.tasks.length n.tc, Value.int IntKind.i64 n.frm, Value.int IntKind.i64 n.too], Value.slice (some { block := g, off := 0 }) n.places.length n.places.length, Value.pointer (some { block := q, off := 2 }), Value.slice a' 0 c', Value.int IntKind.i64 0, Value.bool false, u45, u46, u47, u48, u49, u50, u51, u52, u53, u54, u55, u56, u57, u58, u59, u60, u61, u62, u63, u64, u65, u66, u67, u68, u69, u70, u71, u72, u73, u74, u75, .pointer (some ⟨q, 0, none⟩), .slice (some ⟨gp, 0, none⟩) n.places.length n.places.length, .slice a2 (trueL n.places.length P).length c2, .pointer (some ⟨q, 1, none⟩), .slice (some ⟨gt, 0, none⟩) n.tasks.length n.tasks.length, .slice a3 (trueL n.tasks.length T).length c3], defers := [] } _ 7 { dst := some 3, op := Op.assign (Operand.tmp 81), type := 36, pos := "reached.go:25", after := #[{ on := 5, ground := Ground.data }, { on := 6, ground := Ground.chain }, { on := 0, ground := Ground.phase }, { on := 1, ground := Ground.phase }, { on := 2, ground := Ground.phase }, { on := 3, ground := Ground.phase }, { on := 4, ground := Ground.phase }, { on := 5, ground := Ground.phase }, { on := 6, ground := Ground.phase }], guard := none } (.slice a3 (trueL n.tasks.length T).length c3) (by kernel_rfl) (by kernel_rfl) (by kernel_rfl) (by rfl) (fun w' hw => ?hy) hS (by kernel_rfl) (by rfl) ?_
            case hy =>
              clear ht hc hb hd hS
              go_simp
              try with_reducible rfl
            refine hd _ _ _ _ (by kernel_rfl) ?_
            clear ht hc hb hd F
            have FIN : Hid (ReachPost n w (.returned (.tuple #[.slice a2 (trueL n.places.length P).length c2, .slice a3 (trueL n.tasks.length T).length c3])) wb) := ⟨P, T, a2, c2, a3, c3, rfl, HE.out.1, I3.out.1.base (then_ HB.out (Below.refl _ _).drew), I3.out.2.1.base (then_ HB.out I2.out.2)⟩
            clear hS
            go_wp2_with fail
            refine bodyPost_ret (v := .tuple #[.slice a2 (trueL n.places.length P).length c2, .slice a3 (trueL n.tasks.length T).length c3]) ?_ rfl FIN.out
            simp [results, Tryz.results15, go_sem]
          · have hlt' : (O.length : Int) > 0 := by omega
            obtain ⟨m, hm⟩ : ∃ m, O.length = m + 1 := ⟨O.length - 1, by omega⟩
            obtain ⟨l, gg, p, hOl, hlm, ha, hp, hPp, hcell, hmc, hcm⟩ := HI.out.1.last hm
            subst hOl ha
            rw [hm] at x2 hlt'
            have hp' : (p : Int) < n.places.length := by omega
            have hm1 : m ≤ 1000000 := by have h1 := HI.out.1.2.2.2.2.1; have h2 := cnt_le n.places.length P; have h3 := H0.out.2.1.1.2.1; omega
            obtain ⟨w5, hw5⟩ : ∃ w5, w5 = wr.setCell ⟨q, 2, none⟩ (.slice (some ⟨gg, 0, none⟩) m c') := ⟨_, rfl⟩
            have H5 : Hid (WM wz.heap.size w3 (fun b => b = q ∨ b = gp ∨ b = gt ∨ a.map Addr.block = some b) q gp gt n.places.length n.tasks.length P T l (some ⟨gg, 0, none⟩) c' w5 ∧ WI n P T l (fun x => x = p) ∧ P p = true ∧ p < n.places.length ∧ far n.places.length P l + 1 = farW gp q n.places.length wr) := by
              refine ⟨by rw [hw5]; exact HI.out.1.pop hlm, ?_, hPp, hp, by rw [HI.out.1.farW, far_pop]⟩
              have := HI.out.2.pop (by simp) (by simp : (l ++ [(p : Int)]).getLast (by simp) = (p : Int))
              have e : (l ++ [(p : Int)]).dropLast = l := by simp
              exact e ▸ this
            clear HI hlm hm hPp
            go_upto_region 14 with fail
            rw [← hw5]
            obtain ⟨wo, hwo⟩ : ∃ wo : World, wo = wr := ⟨_, rfl⟩
            rw [← hwo] at H5 x0 x1 x2 x3 ql hcell hw5
            have HF0 : Hid (wo = wr) := hwo
            clear hw5 x0 x1 x2 x3 ql hcell hmc hcm hlt hlt' hwo
            have g0 := ((HT.out w5 H5.out.1.2.2.1).at H5.out.2.2.2.1).1
            have HLp : Hid ((tkAll n n.tasks.length p).length ≤ 1000000) := HL.out p
            obtain ⟨tk, htk⟩ : ∃ tk, tk = tkAll n n.tasks.length p := ⟨_, rfl⟩
            have HK : Hid (tk = tkAll n n.tasks.length p ∧ (∀ z, z ∈ tk ↔ ∃ t : Nat, z = t ∧ t < n.tasks.length ∧ TI n t p) ∧ tk.length ≤ 1000000) := ⟨htk, fun z => by rw [htk]; exact tkAll_mem n p z H5.out.2.2.2.1 _, by rw [htk]; exact HLp.out⟩
            rw [← htk] at g0
            clear htk HLp
            go_wp2_with fail
            clear g0
            have htkl := HK.out.2.2
            go_loopw [64] (fun v wr2 => ∃ (j : Nat) (P T : Nat → Bool) (O : List Int) (a' : Option Addr) (c' : Nat), v = .int .i64 (j : Int) ∧ j ≤ tk.length ∧ Hid (WM wz.heap.size w3 (fun b => b = q ∨ b = gp ∨ b = gt ∨ a.map Addr.block = some b) q gp gt n.places.length n.tasks.length P T O a' c' wr2 ∧ WI n P T O (fun x => x = p) ∧ P p = true ∧ (∀ i, i < j → T (tk.getD i 0).toNat = true) ∧ far n.places.length P O + 1 ≤ farW gp q n.places.length wo)) (fun v _ => match v with | .int _ z => tk.length - z.toNat | _ => 0)
            case atStart => exact ⟨0, P, T, l, some ⟨gg, 0, none⟩, c', rfl, by omega, ⟨H5.out.1, H5.out.2.1, H5.out.2.2.1, fun i hi => by omega, by rw [H5.out.2.2.2.2, HF0.out]; exact Nat.le_refl _⟩⟩
            case round =>
              have HPp : Hid (p < n.places.length) := H5.out.2.2.2.1
              clear H5
              obtain ⟨j, P, T, O, a', c', rfl, hj, HI⟩ := hrel
              by_cases hlt : j < tk.length
              · have hlt' : (j : Int) < tk.length := by omega
                have hown := (HT.out wr HI.out.1.2.2.1).2.2.1 p HPp.out
                rw [← HK.out.1] at hown
                obtain ⟨k, hkz, hk, hti⟩ := (HK.out.2.1 (tk.getD j 0)).1 (by rw [List.getD_eq_getElem?_getD, List.getElem?_eq_getElem hlt]; exact List.getElem_mem hlt)
                obtain ⟨gb, gcap, hsp, e0⟩ : ∃ gb gcap, (sa p = some ⟨gb, 0, none⟩ ∧ cs p = gcap) ∧ wr.cell? ⟨gb, j, none⟩ = some (.int .i64 (k : Int)) := by
                  rcases hown.2 with ⟨_, h0⟩ | ⟨gb, cap, cur, hv, _⟩
                  · omega
                  · injection hv with h1 h2 h3
                    refine ⟨gb, cap, ⟨h1, h3⟩, ?_⟩
                    rw [h1, h3] at hown
                    rw [World.ownsRow.cellAt hown j (by omega)]
                    unfold ints
                    rw [List.getElem?_map, List.getElem?_eq_getElem hlt]
                    rw [List.getD_eq_getElem?_getD, List.getElem?_eq_getElem hlt] at hkz
                    have hkz : tk[j] = (k : Int) := hkz
                    rw [hkz]; rfl
                obtain ⟨hs1, hs2⟩ := hsp
                have hbr : Below wz.heap.size wz wr := HI.out.1.base HB3.out HM3.out
                have f2 := box_below HZ.out.2.1.2.2.1 hbr
                have hk' : (k : Int) < n.tasks.length := by omega
                obtain ⟨b, off, hta, hr, ho⟩ := (HN.out.below hbr).2.2.2.at hk
                obtain ⟨b2, off2, hta2, hr2, ho⟩ := HN.out.2.2.2.at hk
                clear hta2 hr2
                obtain ⟨t, ht⟩ : ∃ t, t = n.tasks.getD k nilTa := ⟨_, rfl⟩
                rw [← ht] at hr ho
                have hmo : t.outs.length ≤ 1000000 := by rw [ht]; exact (H0.out.2.1.2.2.1 _ (task_mem hk)).2.2.1
                have d0 : wr.cell? ⟨b, off + k * 14, none⟩ = some (.string t.name) := hr 0 _ rfl
                have d1 : wr.cell? ⟨b, off + k * 14 + 1, none⟩ = some (.slice t.va t.vars.length t.vc) := hr 1 _ rfl
                have d2 : wr.cell? ⟨b, off + k * 14 + 2, none⟩ = some (.int .i64 t.guard.kind) := hr 2 _ rfl
                have d3 : wr.cell? ⟨b, off + k * 14 + 3, none⟩ = some (.int .i64 t.guard.num) := hr 3 _ rfl
                have d4 : wr.cell? ⟨b, off + k * 14 + 4, none⟩ = some (.slice t.ga t.guard.kids.length t.gc) := hr 4 _ rfl
                have d5 : wr.cell? ⟨b, off + k * 14 + 5, none⟩ = some (.int .i64 t.join) := hr 5 _ rfl
                have d6 : wr.cell? ⟨b, off + k * 14 + 6, none⟩ = some (.int .i64 t.split) := hr 6 _ rfl
                have d7 : wr.cell? ⟨b, off + k * 14 + 7, none⟩ = some (.slice t.ia t.ins.length t.ic) := hr 7 _ rfl
                have d8 : wr.cell? ⟨b, off + k * 14 + 8, none⟩ = some (.slice t.oa t.outs.length t.oc) := hr 8 _ rfl
                have d9 : wr.cell? ⟨b, off + k * 14 + 9, none⟩ = some (.slice t.ca t.cancel.length t.cc) := hr 9 _ rfl
                have d10 : wr.cell? ⟨b, off + k * 14 + 10, none⟩ = some (.int .i64 t.after) := hr 10 _ rfl
                have d11 : wr.cell? ⟨b, off + k * 14 + 11, none⟩ = some (.int .i64 t.m0) := hr 11 _ rfl
                have d12 : wr.cell? ⟨b, off + k * 14 + 12, none⟩ = some (.int .i64 t.m1) := hr 12 _ rfl
                have d13 : wr.cell? ⟨b, off + k * 14 + 13, none⟩ = some (.int .i64 t.m2) := hr 13 _ rfl
                have HJ : Hid (t = n.tasks.getD k nilTa ∧ k < n.tasks.length ∧ TI n k p ∧ (tk.getD j 0).toNat = k) := ⟨ht, hk, hti, by rw [hkz]; exact Int.toNat_natCast _⟩
                have CD : Hid (∀ W, W = wr → Calls Tryz.prog 57 #[.pointer (some ⟨q, 0, none⟩), t.agg, .int .i64 (k : Int)] W (DoPost wz.heap.size w3 (fun b => b = q ∨ b = gp ∨ b = gt ∨ a.map Addr.block = some b) q gp gt n.places.length n.tasks.length (doT T k) (doPO n.places.length P T O t k))) := fun W hW => do_any wz w3 _ q gp gt _ _ P T O a' c' t k W (by rw [hW]; exact HI.out.1) HB3.out HM3.out hpl hk ho hmo
                unfold Ta.agg at CD
                clear hr ho ht hown hkz hti hbr hmo
                rw [hs1, hs2]
                rw [hta] at f2
                clear hta
                go_upto_region 17 with fail
                go_wp2_with fail
                refine (CD.out wr rfl).mono ?_
                rintro e w7 ⟨a7, c7, he, h7⟩
                subst he
                have NX : Hid (WM wz.heap.size w3 (fun b => b = q ∨ b = gp ∨ b = gt ∨ a.map Addr.block = some b) q gp gt n.places.length n.tasks.length (doPO n.places.length P T O t k).1 (doT T k) (doPO n.places.length P T O t k).2 a7 c7 w7 ∧ WI n (doPO n.places.length P T O t k).1 (doT T k) (doPO n.places.length P T O t k).2 (fun x => x = p) ∧ (doPO n.places.length P T O t k).1 p = true ∧ (∀ i, i < j + 1 → doT T k (tk.getD i 0).toNat = true) ∧ far n.places.length (doPO n.places.length P T O t k).1 (doPO n.places.length P T O t k).2 + 1 ≤ farW gp q n.places.length wo) := by
                  refine ⟨h7, ?_, doPO_le HI.out.2.2.1, fun i hi => ?_, ?_⟩
                  · have := HI.out.2.1.do HJ.out.2.1 HPp.out HI.out.2.2.1 HJ.out.2.2.1
                    rw [← HJ.out.1] at this
                    exact this
                  · by_cases e : i = j
                    · subst e; rw [HJ.out.2.2.2]; exact doT_at
                    · exact doT_le (HI.out.2.2.2.1 i (by omega))
                  · have h1 := far_do n.places.length P T O t k
                    have h2 := HI.out.2.2.2.2
                    omega
                clear h7 CD HI d0 d1 d2 d3 d4 d5 d6 d7 d8 d9 d10 d11 d12 d13 e0 f2
                go_wp2_with fail
                go_roundw
                case rel => exact ⟨j + 1, _, _, _, a7, c7, by simp, by omega, NX.out⟩
                case measure => simp; omega
              · have hlt' : ¬ (j : Int) < tk.length := by omega
                have NX : Hid (WM wz.heap.size w3 (fun b => b = q ∨ b = gp ∨ b = gt ∨ a.map Addr.block = some b) q gp gt n.places.length n.tasks.length P T O a' c' wr ∧ WI n P T O (fun _ => False) ∧ farW gp q n.places.length wr < farW gp q n.places.length wo) := by
                  refine ⟨HI.out.1, HI.out.2.1.push fun t ht hti => ?_, by rw [HI.out.1.farW]; have := HI.out.2.2.2.2; omega⟩
                  obtain ⟨i, hi, e⟩ := List.getElem_of_mem ((HK.out.2.1 (t : Int)).2 ⟨t, rfl, ht, hti⟩)
                  have := HI.out.2.2.2.1 i (by omega)
                  rw [List.getD_eq_getElem?_getD, List.getElem?_eq_getElem hi, e] at this
                  exact this
                go_wp2_with fail
                rw [HF0.out] at NX
                go_roundw
                case rel => exact ⟨P, T, O, a', c', ⟨NX.out.1, NX.out.2.1⟩⟩
                case measure => exact NX.out.2.2
end Go.Proofs.YtgdkomkflfodaaaGreat.Check
