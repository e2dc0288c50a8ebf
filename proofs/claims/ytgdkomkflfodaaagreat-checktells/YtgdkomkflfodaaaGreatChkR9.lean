/- The document's own vars and kinds: contracts of the calls, over the turned program. -/
import Derived.Test.YtgdkomkflfodaaaGreatChkR8
import Derived.Test.YtgdkomkflfodaaaGreatMbA
namespace Go.Proofs.YtgdkomkflfodaaaGreat.Check
open Go.RowKit Go.Proofs.YtgdkomkflfodaaaGreat.Frame Go.Proofs.YtgdkomkflfodaaaGreat.Colour Go.Proofs.YtgdkomkflfodaaaGreat.Expr
set_option linter.unusedVariables false
set_option linter.unusedSimpArgs false

theorem varF_1 {n : Ne} {l : List Va} {i : Nat} (h1 : freeB (l.getD i nilVa).name = false) : varF n l i = 1 := by
  unfold varF varL namedF; rw [show freeB (varNm l i) = false from h1]; simp [firstNZ, errB]
theorem varF_5 {n : Ne} {l : List Va} {i : Nat} (h1 : freeB (l.getD i nilVa).name = true) (h2 : twiceB i (varNm l) = true) : varF n l i = 5 := by
  unfold varF varL namedF; rw [show freeB (varNm l i) = true from h1, h2]; simp [firstNZ, errB]
theorem varF_3 {n : Ne} {l : List Va} {i : Nat} (h1 : freeB (l.getD i nilVa).name = true) (h2 : twiceB i (varNm l) = false) (h3 : inB (l.getD i nilVa).colour n.cols.length = false) : varF n l i = 3 := by
  unfold varF varL namedF; rw [show freeB (varNm l i) = true from h1, h2, h3]; simp [firstNZ, errB]
theorem varF_0 {n : Ne} {l : List Va} {i : Nat} (h1 : freeB (l.getD i nilVa).name = true) (h2 : twiceB i (varNm l) = false) (h3 : inB (l.getD i nilVa).colour n.cols.length = true) : varF n l i = 0 := by
  unfold varF varL namedF; rw [show freeB (varNm l i) = true from h1, h2, h3]; simp [firstNZ, errB]
set_option maxRecDepth 100000 in
set_option maxHeartbeats 8000000 in
theorem rvars_any (n : Ne) (a : Option Addr) (cap : Nat) (l : List Va) (w : World) (h : NeOk w n) (hr : Vas w a l) (hlm : l.length ≤ 1000000) : Calls Tryz.prog 50 #[.agg #[.slice n.ca n.cols.length n.cc, .slice n.pa n.places.length n.pc, .slice n.ta n.tasks.length n.tc, .int .i64 n.frm, .int .i64 n.too], .slice a l.length cap] w fun e w' => e = .returned (.int .i64 (eachF l.length (varF n l))) ∧ Below w.heap.size w w' := by
  obtain ⟨q, hq⟩ : ∃ q, q = w.heap.size := ⟨_, rfl⟩
  obtain ⟨wz, hwz⟩ : ∃ wz, wz = w.alloc (.cells #[.slice n.ca n.cols.length n.cc, .slice n.pa n.places.length n.pc, .slice n.ta n.tasks.length n.tc, .int .i64 n.frm, .int .i64 n.too] 26) := ⟨_, rfl⟩
  have HZ : Hid (La w wz q n) := by rw [hwz, hq]; exact ⟨al_ _ _, NBox.new w n _, h.below (al_ _ _)⟩
  have H0 : Hid (Vas w a l) := hr
  obtain ⟨V, hV⟩ : ∃ V, V = eachF l.length (varF n l) := ⟨_, rfl⟩
  have HV : Hid (V = eachF l.length (varF n l)) := hV
  rw [← hV]
  clear h hr hV
  go_enter Tryz.func50, Tryz.ntmps50
  go_upto_region 1 with fail
  rw [← hwz, ← hq]
  clear hwz hq
  go_wp2_with fail
  go_loopw [5] (fun v wr => ∃ i : Nat, v = .int .i64 (i : Int) ∧ i ≤ l.length ∧ Hid (La w wr q n ∧ ∀ j, j < i → varF n l j = 0)) (fun v _ => l.length - (intOf v).toNat)
  case atStart => exact ⟨0, rfl, by omega, HZ.out, fun j hj => absurd hj (Nat.not_lt_zero _)⟩
  case round =>
    clear HZ
    obtain ⟨i, rfl, hi, HI⟩ := hrel
    by_cases hlt : i < l.length
    · have hlt' : (i : Int) < l.length := by omega
      obtain ⟨b, off, ha, r0, _⟩ := (H0.out.below HI.out.1.1).cell hlt
      have HC : Hid (∀ W, La w W q n → ∀ j, j < l.length → W.cell? ⟨b, off + j * 2, none⟩ = some (.string (l.getD j nilVa).name) ∧ W.cell? ⟨b, off + j * 2 + 1, none⟩ = some (.int .i64 (l.getD j nilVa).colour)) := fun W hW j hj => by
        obtain ⟨b', off', ha', r0', r1'⟩ := (H0.out.below hW.1).cell hj
        rw [ha] at ha'
        cases ha'
        exact ⟨r0', r1'⟩
      obtain ⟨x, hxe⟩ : ∃ x, x = l.getD i nilVa := ⟨_, rfl⟩
      rw [← hxe] at r0
      have HX : Hid (x = l.getD i nilVa) := hxe
      have FC : Hid (∀ W, Calls Tryz.prog 43 #[.string x.name] W fun e w' => e = .returned (.bool (freeB x.name)) ∧ Below W.heap.size W w') := fun W => rfree_any x.name W
      subst ha
      clear hxe
      cases hf : freeB x.name with
      | false =>
        have E : Hid (V = 1) := by
          have e3 : varF n l i = 1 := varF_1 (by rw [← HX.out]; exact hf)
          rw [Hid, HV.out]
          exact (eachF_at hlt HI.out.2 (by rw [e3]; decide)).trans e3
        rw [hf] at FC
        go_wp2_with fail
        refine (FC.out _).mono ?_
        rintro e w2 ⟨he, hb⟩
        subst he
        have HB : Hid (Below w.heap.size w w2) := then_ HI.out.1.1 hb
        clear hb FC r0
        go_wp2_with fail
        go_ret
        exact ⟨by rw [E.out]; try rfl, HB.out⟩
      | true =>
      have HF : Hid (freeB (l.getD i nilVa).name = true) := by rw [← HX.out]; exact hf
      rw [hf] at FC
      clear hf
      go_wp2_with fail
      refine (FC.out _).mono ?_
      rintro e w2 ⟨he, hb⟩
      subst he
      have H2 : Hid (La w w2 q n) := HI.out.1.on hb
      clear hb FC r0
      go_wp2_with fail
      go_loopw [6] (fun v wv => ∃ j : Nat, v = .int .i64 (j : Int) ∧ j ≤ i ∧ Hid (La w wv q n ∧ ∀ j', j' < j → eqS (varNm l j') (varNm l i) = false)) (fun v _ => i - (intOf v).toNat)
      case atStart => exact ⟨0, rfl, by omega, H2.out, fun j hj => absurd hj (Nat.not_lt_zero _)⟩
      case round =>
        clear H2
        obtain ⟨j, rfl, hj, HK⟩ := hrel
        obtain ⟨r0, r1⟩ := HC.out wr HK.out.1 i hlt
        rw [← HX.out] at r0 r1
        by_cases hji : j < i
        · have hji' : (j : Int) < i := by omega
          have hjl : (j : Int) < l.length := by omega
          obtain ⟨s0, _⟩ := HC.out wr HK.out.1 j (by omega)
          obtain ⟨s, hs⟩ : ∃ s, s = (l.getD j nilVa).name := ⟨_, rfl⟩
          rw [← hs] at s0
          have DN : Hid (∀ m, Below wr.heap.size wr (wr.drewN m)) := fun m => below_drewN (Below.refl _ _) _
          have EQ : Hid (eqS (varNm l j) (varNm l i) = (s.toList == x.name.toList)) := by unfold Hid eqS varNm; rw [← hs, ← HX.out]
          clear hs r1
          cases hq : (s.toList == x.name.toList) with
          | true =>
            have E : Hid (V = 5) := by
              have e3 : varF n l i = 5 := varF_5 HF.out (twiceB_yes hji (EQ.out.trans hq))
              rw [Hid, HV.out]
              exact (eachF_at hlt HI.out.2 (by rw [e3]; decide)).trans e3
            have HB : Hid (Below w.heap.size w wr) := HK.out.1.1
            go_wp2_with fail
            go_quiet (fail)
            go_wp2_with fail
            go_ret
            exact ⟨by rw [E.out]; try rfl, then_ HB.out (DN.out _)⟩
          | false =>
            have NX : Hid (∀ j', j' < j + 1 → eqS (varNm l j') (varNm l i) = false) := fun j' hj' => by
              rcases Nat.lt_succ_iff_lt_or_eq.1 hj' with g | g
              · exact HK.out.2 j' g
              · rw [g]; exact EQ.out.trans hq
            go_wp2_with fail
            go_quiet (fail)
            go_wp2_with fail
            go_roundw
            case rel => first | exact ⟨j + 1, by simp, by omega, HK.out.1.on (DN.out _), NX.out⟩ | exact ⟨_, _, ⟨j + 1, by go_num, by omega, HK.out.1.on (DN.out _), NX.out⟩, rfl, rfl⟩
            all_goals (simp [intOf]; omega)
        · have hji' : ¬ (j : Int) < i := by omega
          have HTW : Hid (twiceB i (varNm l) = false) := twiceB_no fun j' hj' => HK.out.2 j' (by omega)
          obtain ⟨c0, c1, c2, c3, c4⟩ := HK.out.1.2.1
          obtain ⟨bp, hbp⟩ : ∃ bp, bp = inB x.colour n.cols.length := ⟨_, rfl⟩
          have HBP : Hid (bp = inB (l.getD i nilVa).colour n.cols.length) := by rw [Hid, hbp, HX.out]
          have IP2 : Hid (∀ wx, Below wr.heap.size wr wx → Calls Tryz.prog 44 #[.agg #[.slice n.ca n.cols.length n.cc, .slice n.pa n.places.length n.pc, .slice n.ta n.tasks.length n.tc, .int .i64 n.frm, .int .i64 n.too], .int .i64 x.colour] wx fun e w' => e = .returned (.bool bp) ∧ Below wr.heap.size wr w') := fun wx hwx => (risColour_any n x.colour wx).mono fun e w' h => ⟨by rw [hbp]; exact h.1, then_ hwx h.2⟩
          have HCC : Hid (NBox wr q n ∧ wr.cell? ⟨b, off + i * 2 + 1, none⟩ = some (.int .i64 x.colour)) := ⟨HK.out.1.2.1, r1⟩
          clear hbp r0
          go_wp2_with fail
          go_region_held3 (fun w' => (w'.cell? ⟨q, 0, none⟩ = some (.slice n.ca n.cols.length n.cc) ∧ w'.cell? ⟨q, 1, none⟩ = some (.slice n.pa n.places.length n.pc) ∧ w'.cell? ⟨q, 2, none⟩ = some (.slice n.ta n.tasks.length n.tc) ∧ w'.cell? ⟨q, 3, none⟩ = some (.int .i64 n.frm) ∧ w'.cell? ⟨q, 4, none⟩ = some (.int .i64 n.too)) ∧ w'.cell? ⟨b, off + i * 2 + 1, none⟩ = some (.int .i64 x.colour)) (go_keep)
            (first | (go_at_call 44; refine (IP2.out _ (by exact (Below.refl _ _).drew)).mono ?_; rintro e w5 ⟨he, hb5⟩; subst he; have g0 := box_below HCC.out.1.1 hb5; have g1 := box_below HCC.out.1.2.1 hb5; have g2 := box_below HCC.out.1.2.2.1 hb5; have g3 := box_below HCC.out.1.2.2.2.1 hb5; have g4 := box_below HCC.out.1.2.2.2.2 hb5; have g5 := box_below HCC.out.2 hb5))
          have N5 : Hid (La w w5 q n) := HK.out.1.on hb5
          clear g0 g1 g2 g3 g4 g5 c0 c1 c2 c3 c4 r1 IP2 hb5
          cases bp with
          | false =>
            have E : Hid (V = 3) := by
              have e3 : varF n l i = 3 := varF_3 HF.out HTW.out HBP.out.symm
              rw [Hid, HV.out]
              exact (eachF_at hlt HI.out.2 (by rw [e3]; decide)).trans e3
            have HB : Hid (Below w.heap.size w w5) := N5.out.1
            go_wp2_with fail
            go_ret
            exact ⟨by rw [E.out]; try rfl, HB.out⟩
          | true =>
            have NX : Hid (∀ j, j < i + 1 → varF n l j = 0) := fun j hj => by
              rcases Nat.lt_succ_iff_lt_or_eq.1 hj with g | g
              · exact HI.out.2 j g
              · rw [g]; exact varF_0 HF.out HTW.out HBP.out.symm
            go_wp2_with fail
            go_roundw
            case rel => first | exact ⟨i + 1, by simp, by omega, N5.out, NX.out⟩ | exact ⟨_, _, ⟨i + 1, by go_num, by omega, N5.out, NX.out⟩, rfl, rfl⟩
            all_goals (simp [intOf]; omega)
    · have hlt' : ¬ (i : Int) < l.length := by omega
      have E : Hid (V = 0) := HV.out.trans <| eachF_none fun j hj => HI.out.2 j (by omega)
      have HB : Hid (Below w.heap.size w wr) := HI.out.1.1
      go_wp2_with fail
      go_ret
      exact ⟨by rw [E.out]; try rfl, HB.out⟩

/-- may a task's join, split, After and Many be? -/
def kindsT (t : Ta) : Bool := !(kindsB t || manyB t)
def KindsP (t : Ta) : Prop := (¬ (t.join = 3 ∧ 4 < t.ins.length) ∧ ¬ (t.split = 3 ∧ 4 < t.outs.length)) ∧ (1 ≤ t.join ∧ t.join ≤ 3) ∧ (1 ≤ t.split ∧ t.split ≤ 3) ∧ (0 ≤ t.after ∧ t.after ≤ 65536) ∧ severalB t.m0 t.m1 t.m2 = true
theorem chosen_iff (k : Int) (n : Nat) : chosenB k n = true ↔ (1 ≤ k ∧ k ≤ 3) ∧ ¬ (k = 3 ∧ 4 < n) := by
  unfold chosenB
  simp only [Bool.or_eq_true, Bool.and_eq_true, beq_iff_eq, decide_eq_true_eq]
  omega
theorem kinds_iff (t : Ta) : kindsT t = true ↔ KindsP t := by
  unfold kindsT kindsB manyB KindsP
  simp only [Bool.not_eq_true', Bool.or_eq_false_iff, Bool.not_eq_false', chosen_iff, decide_eq_false_iff_not]
  cases severalB t.m0 t.m1 t.m2 <;> simp <;> omega
theorem kinds_yes {t : Ta} (h : KindsP t) : kindsT t = true := (kinds_iff t).2 h
theorem kinds_no {t : Ta} (h : ¬ KindsP t) : kindsT t = false := by
  cases hk : kindsT t with
  | false => rfl
  | true => exact absurd ((kinds_iff t).1 hk) h
end Go.Proofs.YtgdkomkflfodaaaGreat.Check
