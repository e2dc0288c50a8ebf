/- In how many ways variables have members, and how many instances a task may have: contracts of the calls, over the turned program. -/
import Derived.Test.YtgdkomkflfodaaaGreatChkCan
import Derived.ChangeKeysEq
namespace Go.Proofs.YtgdkomkflfodaaaGreat.Check
open Go.RowKit Go.Proofs.YtgdkomkflfodaaaGreat.Frame Go.Proofs.YtgdkomkflfodaaaGreat.Colour Go.Proofs.YtgdkomkflfodaaaGreat.Expr
set_option linter.unusedVariables false
set_option linter.unusedSimpArgs false

theorem sizeF_le (cs : List Col) (k : Int) : 0 ≤ Colour.sizeF cs k ∧ Colour.sizeF cs k ≤ 1024 := by
  unfold Colour.sizeF
  cases h : sizesF cs with
  | none => exact ⟨Int.le_refl 0, (by decide : (0 : Int) ≤ 1024)⟩
  | some ns =>
    obtain ⟨_, hl, ha⟩ := sizesF_out h
    dsimp only
    split
    · rename_i hw
      have hw := of_decide_eq_true (show decide _ = true from hw)
      have := ha k.toNat (by omega)
      omega
    · exact ⟨Int.le_refl 0, (by decide : (0 : Int) ≤ 1024)⟩
def goB (cs : List Col) : List Va → Int → Int
  | [], ways => ways
  | v :: r, ways => if inB v.colour cs.length then goB cs r (min (ways * Colour.sizeF cs v.colour) 1025) else 0
def bindsF (cs : List Col) (l : List Va) : Int := goB cs l 1
theorem drop_va (l : List Va) (k : Nat) (h : k < l.length) : l.drop k = l.getD k nilVa :: l.drop (k + 1) := by
  rw [List.drop_eq_getElem_cons h, List.getD_eq_getElem?_getD, List.getElem?_eq_getElem h]; rfl

set_option maxHeartbeats 1000000 in
theorem binds_any (n : Ne) (g cp : Nat) (a : Option Addr) (l : List Va) (w : World) (h : Su w n g) (hs : Vas w a l) (hm : l.length ≤ 1000000) :
    Calls Tryz.prog 59 #[.agg (subC n g), .slice a l.length cp] w fun e w' => e = .returned (.int .i64 (bindsF n.cols l)) ∧ Below w.heap.size w w' := by
  have H0 : Hid (Su w n g ∧ Vas w a l) := ⟨h, hs⟩
  have IC : Hid (∀ c W, Calls Tryz.prog 82 #[.agg (subC n g), .int .i64 c] W fun e w' => e = .returned (.bool (inB c n.cols.length)) ∧ Below W.heap.size W w') := fun c W => isColour_any n g c W
  obtain ⟨wz, hwz⟩ : ∃ wz, wz = w.alloc (.cells (subC n g) 67) := ⟨_, rfl⟩
  have HZ : Hid (Below w.heap.size w wz ∧ SBox wz w.heap.size n g) := by rw [hwz]; exact ⟨(Below.refl _ _).alloc (Nat.le_refl _) _, SBox.new w n g _⟩
  clear h hs
  unfold subC at hwz IC ⊢
  go_enter Tryz.func59, Tryz.ntmps59
  go_wp2_with fail
  rw [← hwz]
  go_loopw [10, 5] (fun v u wr => ∃ (i : Nat) (ways : Int), v = .int .i64 (i : Int) ∧ u = .int .i64 ways ∧ i ≤ l.length ∧ (0 ≤ ways ∧ ways ≤ 1025) ∧ Hid (Below wz.heap.size wz wr ∧ goB n.cols (l.drop i) ways = bindsF n.cols l)) (fun v u _ => match v with | .int _ z => l.length - z.toNat | _ => 0)
  case atStart => exact ⟨0, 1, rfl, rfl, by omega, ⟨by decide, by decide⟩, ⟨Below.refl _ _, rfl⟩⟩
  case round =>
    obtain ⟨i, ways, rfl, rfl, hi, hw, HI⟩ := hrel
    by_cases hlt : i < l.length
    · have hlt' : (i : Int) < l.length := by omega
      obtain ⟨b, off, ha, d0, d1⟩ := (H0.out.2.below (then_ HZ.out.1 HI.out.1)).cell hlt
      have hbl : b < wr.heap.size := World.block_lt_of_cell? _ _ d0
      subst ha
      obtain ⟨v, hv⟩ : ∃ v, v = l.getD i nilVa := ⟨_, rfl⟩
      rw [← hv] at d0 d1
      have HV : Hid (goB n.cols (l.drop i) ways = if inB v.colour n.cols.length then goB n.cols (l.drop (i + 1)) (min (ways * Colour.sizeF n.cols v.colour) 1025) else 0) := by
        rw [drop_va l i hlt, ← hv]; rfl
      clear hv
      obtain ⟨c0, c1, c2, c3, c4, c5⟩ := HZ.out.2.below HI.out.1
      have hql : w.heap.size < wr.heap.size := World.block_lt_of_cell? _ _ c0
      go_wp2_with fail
      refine (IC.out _ _).mono ?_
      rintro e w1 ⟨he, hb⟩
      subst he
      have hbb : Below wr.heap.size wr (wr.alloc (.cells #[.string v.name, .int .i64 v.colour] 56)) := (Below.refl _ _).alloc (Nat.le_refl _) _
      have hbx : w1.cell? ⟨wr.heap.size, 1, none⟩ = some (.int .i64 v.colour) := box_below (World.cell?_alloc_at _ _ _ _ rfl) hb
      have B1 : Hid (Below wz.heap.size wz w1) := then_ HI.out.1 (then_ hbb hb)
      clear c0 c1 c2 c3 c4 c5 d0 d1 hbb hb
      obtain ⟨c0, c1, c2, c3, c4, c5⟩ := HZ.out.2.below B1.out
      cases hc : inB v.colour n.cols.length with
      | false =>
        have R : Hid (bindsF n.cols l = 0) := by rw [← HI.out.2, HV.out, hc]; rfl
        go_wp2_with fail
        go_ret
        exact ⟨by rw [R.out]; rfl, then_ HZ.out.1 B1.out⟩
      | true =>
        obtain ⟨c, hcc, hcl⟩ := inB_yes hc
        have hcl' : (c : Int) < n.cols.length := by omega
        have s1 := (H0.out.1.below (then_ HZ.out.1 B1.out)).2.1 c hcl
        have hle := sizeF_le n.cols c
        obtain ⟨sz, hsz⟩ : ∃ sz, sz = Colour.sizeF n.cols c := ⟨_, rfl⟩
        rw [← hsz] at s1 hle
        have NX : Hid (Below wz.heap.size wz w1 ∧ goB n.cols (l.drop (i + 1)) (min (ways * sz) 1025) = bindsF n.cols l) := ⟨B1.out, by rw [← HI.out.2, HV.out, hc, if_pos rfl, hcc, hsz]⟩
        rw [hcc] at hbx
        have hp : 0 ≤ ways * sz ∧ ways * sz ≤ 1025 * 1024 := ⟨Int.mul_nonneg hw.1 hle.1, Int.mul_le_mul hw.2 hle.2 hle.1 (by decide)⟩
        have hwr : IntKind.i64.wrap (ways * sz) = ways * sz := wrap_id (by omega) (by omega)
        clear hsz HV IC hcc
        go_wp2_with fail
        go_roundw
        case rel => exact ⟨i + 1, min (ways * sz) 1025, by simp, by simp, by omega, ⟨by omega, by omega⟩, NX⟩
        case measure => simp; omega
    · have hlt' : ¬ (i : Int) < l.length := by omega
      have R : Hid (bindsF n.cols l = ways) := by rw [← HI.out.2, List.drop_eq_nil_of_le (by omega)]; rfl
      go_wp2_with fail
      go_ret
      exact ⟨by rw [R.out]; rfl, then_ HZ.out.1 HI.out.1⟩

/- instances -/
def severalB (a b c : Int) : Bool := ((a == 0 && b == 0) && c == 0) || (decide (1 ≤ a) && decide (a ≤ b) && decide (b ≤ 16) && decide (1 ≤ c) && decide (c ≤ b))
def eq3 (x c e y d f : Int) : Bool := (x == y && c == d) && e == f
theorem intInfo3 : ∃ i, Tryz.prog.info? 3 = some i := Option.isSome_iff_exists.1 (by kernel_rfl)
theorem intCells3 : Tryz.prog.cellsOf 3 = 1 := by kernel_rfl
theorem eq3_run (x c e y d f : Int) (w : World) : (Op.equalIn 10000 51 (.agg #[.int .i64 x, .int .i64 c, .int .i64 e]) (.agg #[.int .i64 y, .int .i64 d, .int .i64 f])).run Tryz.prog w = .ok (eq3 x c e y d f) w := by
  obtain ⟨i, hi⟩ := intInfo3
  rw [run_equalIn_array w 9999 _ _ Tryz.underlying51 hi, intCells3]
  have p : ∀ (a b z : Int) (j : Nat) (v : Value), (#[.int .i64 a, .int .i64 b, .int .i64 z] : Array Value)[j]? = some v → (part 3 #[.int .i64 a, .int .i64 b, .int .i64 z] j).run Tryz.prog w = .ok v w := fun a b z j v h => by
    simp [part, isAgg, run_underlying Tryz.underlying3, h]
  have q : ∀ a b : Int, (Op.equalIn 9999 3 (.int .i64 a) (.int .i64 b)).run Tryz.prog w = .ok (a == b) w := fun a b => run_equalIn_int w 9998 3 .i64 .i64 a b Tryz.underlying3
  show (Op.eqItems 9999 3 1 _ _ [0, 1, 2]).run Tryz.prog w = _
  have e1 := q x y
  have e2 := q c d
  have e3 := q e f
  have p1 := p x c e 0 (.int .i64 x) rfl
  have p2 := p x c e 1 (.int .i64 c) rfl
  have p5 := p x c e 2 (.int .i64 e) rfl
  have p3 := p y d f 0 (.int .i64 y) rfl
  have p4 := p y d f 1 (.int .i64 d) rfl
  have p6 := p y d f 2 (.int .i64 f) rfl
  clear q p
  unfold eq3
  cases h1 : (x == y) <;> rw [h1] at e1 <;> cases h2 : (c == d) <;> rw [h2] at e2 <;> cases h3 : (e == f) <;> rw [h3] at e3 <;> simp [Op.eqItems, p1, p2, p3, p4, p5, p6, e1, e2, e3]

set_option maxHeartbeats 1000000 in
set_option maxRecDepth 10000 in
theorem several_any (a b c : Int) (w : World) : Calls Tryz.prog 102 #[.agg #[.int .i64 a, .int .i64 b, .int .i64 c]] w fun e w' => e = .returned (.bool (severalB a b c)) ∧ Below w.heap.size w w' := by
  have he := eq3_run a b c 0 0 0
  obtain ⟨wz, hwz⟩ : ∃ wz, wz = w.alloc (.cells #[.int .i64 a, .int .i64 b, .int .i64 c] 51) := ⟨_, rfl⟩
  have hz : Below w.heap.size w wz := by rw [hwz]; exact (Below.refl _ _).alloc (Nat.le_refl _) _
  have k0 : wz.cell? ⟨w.heap.size, 0, none⟩ = some (.int .i64 a) := by rw [hwz]; exact World.cell?_alloc_at _ _ _ _ rfl
  have k1 : wz.cell? ⟨w.heap.size, 1, none⟩ = some (.int .i64 b) := by rw [hwz]; exact World.cell?_alloc_at _ _ _ _ rfl
  have k2 : wz.cell? ⟨w.heap.size, 2, none⟩ = some (.int .i64 c) := by rw [hwz]; exact World.cell?_alloc_at _ _ _ _ rfl
  have HZ : Hid (Below w.heap.size w wz) := hz
  clear hz
  have hR : severalB a b c = (eq3 a b c 0 0 0 || (decide (1 ≤ a) && decide (a ≤ b) && decide (b ≤ 16) && decide (1 ≤ c) && decide (c ≤ b))) := rfl
  cases hq : eq3 a b c 0 0 0 with
  | true =>
    rw [hq] at he hR
    rw [hR]
    clear hR hq
    go_enter Tryz.func102, Tryz.ntmps102
    go_wp2_with fail
    rw [← hwz]
    go_quiet (fail)
    generalize hwq : wz.drewN _ = wq
    have HQ : Hid (Below w.heap.size w wq ∧ wq.cell? ⟨w.heap.size, 0, none⟩ = some (.int .i64 a)) := by rw [← hwq]; exact ⟨below_drewN HZ.out _, k0⟩
    have l0 : wq.cell? ⟨w.heap.size, 0, none⟩ = some (.int .i64 a) := by rw [← hwq]; exact k0
    have l1 : wq.cell? ⟨w.heap.size, 1, none⟩ = some (.int .i64 b) := by rw [← hwq]; exact k1
    have l2 : wq.cell? ⟨w.heap.size, 2, none⟩ = some (.int .i64 c) := by rw [← hwq]; exact k2
    clear hwq hwz k0 k1 k2
    go_wp2_with fail
    go_ret
    exact ⟨rfl, HQ.out.1⟩
  | false =>
    rw [hq] at he hR
    rw [hR]
    clear hR hq
    rw [Bool.false_or]
    generalize ht1 : decide (1 ≤ a) = t1
    generalize ht2 : decide (a ≤ b) = t2
    generalize ht3 : decide (b ≤ 16) = t3
    generalize ht4 : decide (1 ≤ c) = t4
    generalize ht5 : decide (c ≤ b) = t5
    go_enter Tryz.func102, Tryz.ntmps102
    go_wp2_with fail
    rw [← hwz]
    go_quiet (fail)
    generalize hwq : wz.drewN _ = wq
    have HQ : Hid (Below w.heap.size w wq ∧ wq.cell? ⟨w.heap.size, 0, none⟩ = some (.int .i64 a)) := by rw [← hwq]; exact ⟨below_drewN HZ.out _, k0⟩
    have l0 : wq.cell? ⟨w.heap.size, 0, none⟩ = some (.int .i64 a) := by rw [← hwq]; exact k0
    have l1 : wq.cell? ⟨w.heap.size, 1, none⟩ = some (.int .i64 b) := by rw [← hwq]; exact k1
    have l2 : wq.cell? ⟨w.heap.size, 2, none⟩ = some (.int .i64 c) := by rw [← hwq]; exact k2
    clear hwq hwz k0 k1 k2
    cases t1 with
    | false => go_wp2_with fail; go_ret; exact ⟨rfl, HQ.out.1⟩
    | true =>
      cases t2 with
      | false => go_wp2_with fail; go_ret; exact ⟨rfl, HQ.out.1⟩
      | true =>
        cases t3 with
        | false => go_wp2_with fail; go_ret; exact ⟨rfl, HQ.out.1⟩
        | true =>
          cases t4 with
          | false => go_wp2_with fail; go_ret; exact ⟨rfl, HQ.out.1⟩
          | true =>
            cases t5 with
            | false => go_wp2_with fail; go_ret; exact ⟨rfl, HQ.out.1⟩
            | true => go_wp2_with fail; go_ret; exact ⟨rfl, HQ.out.1⟩
end Go.Proofs.YtgdkomkflfodaaaGreat.Check
