/- The document's own kinds: a contract of the call, over the turned program. -/
import Derived.Test.YtgdkomkflfodaaaGreatChkR9
namespace Go.Proofs.YtgdkomkflfodaaaGreat.Check
open Go.RowKit Go.Proofs.YtgdkomkflfodaaaGreat.Frame Go.Proofs.YtgdkomkflfodaaaGreat.Colour Go.Proofs.YtgdkomkflfodaaaGreat.Expr
set_option linter.unusedVariables false
set_option linter.unusedSimpArgs false

set_option maxRecDepth 100000 in
set_option maxHeartbeats 8000000 in
theorem rkinds_any (t : Ta) (w : World) : Calls Tryz.prog 54 #[t.agg] w fun e w' => e = .returned (.bool (kindsT t)) ∧ Below w.heap.size w w' := by
  unfold Ta.agg
  have he := eq3_run t.m0 t.m1 t.m2 0 0 0
  have hR : severalB t.m0 t.m1 t.m2 = (eq3 t.m0 t.m1 t.m2 0 0 0 || (decide (1 ≤ t.m0) && decide (t.m0 ≤ t.m1) && decide (t.m1 ≤ 16) && decide (1 ≤ t.m2) && decide (t.m2 ≤ t.m1))) := rfl
  obtain ⟨sv, hsv⟩ : ∃ sv, sv = severalB t.m0 t.m1 t.m2 := ⟨_, rfl⟩
  have HSV : Hid (sv = severalB t.m0 t.m1 t.m2) := hsv
  obtain ⟨q, hq⟩ : ∃ q, q = w.heap.size := ⟨_, rfl⟩
  obtain ⟨wz, hwz⟩ : ∃ wz, wz = w.alloc (.cells #[.string t.name, .slice t.va t.vars.length t.vc, .int .i64 t.guard.kind, .int .i64 t.guard.num, .slice t.ga t.guard.kids.length t.gc, .int .i64 t.join, .int .i64 t.split, .slice t.ia t.ins.length t.ic, .slice t.oa t.outs.length t.oc, .slice t.ca t.cancel.length t.cc, .int .i64 t.after, .int .i64 t.m0, .int .i64 t.m1, .int .i64 t.m2] 53) := ⟨_, rfl⟩
  have htb : TBox wz q t := fun j v hj => by
    have hj : (List.toArray t.cells)[j]? = some v := by simpa using hj
    rw [Nat.zero_add, hwz, World.cell?_alloc_at _ _ _ _ hq]
    exact hj
  have hbz : Below w.heap.size w wz := by rw [hwz]; exact al_ _ _
  obtain ⟨p, hp⟩ : ∃ p, p = wz.heap.size := ⟨_, rfl⟩
  obtain ⟨wm, hwm⟩ : ∃ wm, wm = wz.alloc (.cells #[.int .i64 t.m0, .int .i64 t.m1, .int .i64 t.m2] 51) := ⟨_, rfl⟩
  have HZ : Hid (Below w.heap.size w wm) := by rw [hwm]; exact then_ hbz (al_ _ _)
  have HTB : Hid (TBox wm q t) := by rw [hwm]; exact htb.below (al_ _ _)
  have a0 : wm.cell? ⟨p, 0, none⟩ = some (.int .i64 t.m0) := by rw [hwm]; exact World.cell?_alloc_at _ _ _ _ hp
  have a1 : wm.cell? ⟨p, 1, none⟩ = some (.int .i64 t.m1) := by rw [hwm]; exact World.cell?_alloc_at _ _ _ _ hp
  have a2 : wm.cell? ⟨p, 2, none⟩ = some (.int .i64 t.m2) := by rw [hwm]; exact World.cell?_alloc_at _ _ _ _ hp
  obtain ⟨c0, c1, c2, c3, c4, c5, c6, c7, c8, c9, c10, c11, c12, c13⟩ := htb.cells
  clear hbz hsv
  go_enter Tryz.func54, Tryz.ntmps54
  go_upto_region 1 with fail
  rw [← hwz, ← hq]
  clear hwz hq
  go_upto_region 2 with fail
  rw [← hwm, ← hp]
  clear hwm hp c0 c1 c2 c3 c4 c5 c6 c7 c8 c9 c10 c11 c12 c13 htb
  go_cut [4] from 7 (fun s wc => s = .bool sv ∧ wc = wm)
  case first =>
    clear HTB
    cases hq : eq3 t.m0 t.m1 t.m2 0 0 0 with
    | true =>
      rw [hq] at he hR
      have S : Hid (sv = true) := by rw [Hid, HSV.out, hR]; rfl
      clear hR hq HSV
      go_wp2_with fail
      go_meet
      exact ⟨by rw [S.out], rfl⟩
    | false =>
      rw [hq] at he hR
      rw [Bool.false_or] at hR
      have S : Hid (sv = (decide (1 ≤ t.m0) && decide (t.m0 ≤ t.m1) && decide (t.m1 ≤ 16) && decide (1 ≤ t.m2) && decide (t.m2 ≤ t.m1))) := by rw [Hid, HSV.out, hR]
      clear hR hq HSV
      by_cases g1 : 1 ≤ t.m0
      rotate_left 1
      · have S2 : Hid (sv = false) := by rw [Hid, S.out]; simp [g1]
        clear S
        go_wp2_with fail
        go_meet
        exact ⟨by rw [S2.out], rfl⟩
      by_cases g2 : t.m0 ≤ t.m1
      rotate_left 1
      · have S2 : Hid (sv = false) := by rw [Hid, S.out]; simp [g2]
        clear S
        go_wp2_with fail
        go_meet
        exact ⟨by rw [S2.out], rfl⟩
      by_cases g3 : t.m1 ≤ 16
      rotate_left 1
      · have S2 : Hid (sv = false) := by rw [Hid, S.out]; simp [g3]
        clear S
        go_wp2_with fail
        go_meet
        exact ⟨by rw [S2.out], rfl⟩
      by_cases g4 : 1 ≤ t.m2
      rotate_left 1
      · have S2 : Hid (sv = false) := by rw [Hid, S.out]; simp [g4]
        clear S
        go_wp2_with fail
        go_meet
        exact ⟨by rw [S2.out], rfl⟩
      by_cases g5 : t.m2 ≤ t.m1
      rotate_left 1
      · have S2 : Hid (sv = false) := by rw [Hid, S.out]; simp [g5]
        clear S
        go_wp2_with fail
        go_meet
        exact ⟨by rw [S2.out], rfl⟩
      have S2 : Hid (sv = true) := by rw [Hid, S.out]; simp [g1, g2, g3, g4, g5]
      clear S
      go_wp2_with fail
      go_meet
      exact ⟨by rw [S2.out], rfl⟩
  case rest =>
    obtain ⟨rfl, rfl⟩ := hcut
    clear he hR a0 a1 a2
    obtain ⟨c0, c1, c2, c3, c4, c5, c6, c7, c8, c9, c10, c11, c12, c13⟩ := HTB.out.cells
    clear c0 c1 c2 c3 c4 c9 c11 c12 c13
    obtain ⟨li, hli⟩ : ∃ li, li = t.ins.length := ⟨_, rfl⟩
    obtain ⟨lo, hlo⟩ : ∃ lo, lo = t.outs.length := ⟨_, rfl⟩
    obtain ⟨bad, hbad⟩ : ∃ bad, bad = decide ((t.join = 3 ∧ 4 < li) ∨ (t.split = 3 ∧ 4 < lo)) := ⟨_, rfl⟩
    rw [← hli] at c7
    rw [← hlo] at c8
    have HBAD : Hid (bad = decide ((t.join = 3 ∧ 4 < li) ∨ (t.split = 3 ∧ 4 < lo))) := hbad
    have HLI : Hid (li = t.ins.length ∧ lo = t.outs.length) := ⟨hli, hlo⟩
    clear hbad hli hlo
    go_upto_region 3 with fail
    go_cut [58] from 39 (fun s wx => s = .bool bad ∧ wx = wc)
    case first =>
      by_cases x1 : t.join = 3
      · by_cases x2 : 4 < li
        · have S : Hid (bad = true) := by rw [Hid, HBAD.out]; simp [x1, x2]
          have x2' : (4 : Int) < li := by omega
          have x1b : (t.join == 3) = true := by rw [x1]; rfl
          clear x1
          go_wp2_with fail
          go_meet
          exact ⟨by rw [S.out], rfl⟩
        · have x2' : ¬ (4 : Int) < li := by omega
          have x1b : (t.join == 3) = true := by rw [x1]; rfl
          by_cases x3 : t.split = 3
          · by_cases x4 : 4 < lo
            · have S : Hid (bad = true) := by rw [Hid, HBAD.out]; simp [x3, x4]
              have x4' : (4 : Int) < lo := by omega
              have x3b : (t.split == 3) = true := by rw [x3]; rfl
              clear x1 x3
              go_wp2_with fail
              go_meet
              exact ⟨by rw [S.out], rfl⟩
            · have S : Hid (bad = false) := by rw [Hid, HBAD.out]; simp [x2, x4]
              have x4' : ¬ (4 : Int) < lo := by omega
              have x3b : (t.split == 3) = true := by rw [x3]; rfl
              clear x1 x3
              go_wp2_with fail
              go_meet
              exact ⟨by rw [S.out], rfl⟩
          · have S : Hid (bad = false) := by rw [Hid, HBAD.out]; simp [x2, x3]
            have x3b : (t.split == 3) = false := beq_eq_false_iff_ne.2 x3
            clear x1
            go_wp2_with fail
            go_meet
            exact ⟨by rw [S.out], rfl⟩
      · have x1b : (t.join == 3) = false := beq_eq_false_iff_ne.2 x1
        by_cases x3 : t.split = 3
        · by_cases x4 : 4 < lo
          · have S : Hid (bad = true) := by rw [Hid, HBAD.out]; simp [x3, x4]
            have x4' : (4 : Int) < lo := by omega
            have x3b : (t.split == 3) = true := by rw [x3]; rfl
            clear x3
            go_wp2_with fail
            go_meet
            exact ⟨by rw [S.out], rfl⟩
          · have S : Hid (bad = false) := by rw [Hid, HBAD.out]; simp [x1, x4]
            have x4' : ¬ (4 : Int) < lo := by omega
            have x3b : (t.split == 3) = true := by rw [x3]; rfl
            clear x3
            go_wp2_with fail
            go_meet
            exact ⟨by rw [S.out], rfl⟩
        · have S : Hid (bad = false) := by rw [Hid, HBAD.out]; simp [x1, x3]
          have x3b : (t.split == 3) = false := beq_eq_false_iff_ne.2 x3
          go_wp2_with fail
          go_meet
          exact ⟨by rw [S.out], rfl⟩
    case rest =>
      obtain ⟨rfl, rfl⟩ := hcut
      cases bad with
      | true =>
        have N : Hid (kindsT t = false) := kinds_no fun hk => by
          have h1 := of_decide_eq_true HBAD.out.symm
          rw [HLI.out.1, HLI.out.2] at h1
          rcases h1 with h1 | h1
          · exact hk.1.1 h1
          · exact hk.1.2 h1
        go_wp2_with fail
        go_ret
        exact ⟨by rw [N.out]; try rfl, HZ.out⟩
      | false =>
        have NB : Hid (¬ (t.join = 3 ∧ 4 < t.ins.length) ∧ ¬ (t.split = 3 ∧ 4 < t.outs.length)) := by
          have h1 := of_decide_eq_false HBAD.out.symm
          rw [HLI.out.1, HLI.out.2] at h1
          exact ⟨fun h => h1 (.inl h), fun h => h1 (.inr h)⟩
        by_cases g1 : 1 ≤ t.join
        rotate_left 1
        · have N : Hid (kindsT t = false) := kinds_no fun hk => g1 hk.2.1.1
          go_wp2_with fail
          go_ret
          exact ⟨by rw [N.out]; try rfl, HZ.out⟩
        by_cases g2 : t.join ≤ 3
        rotate_left 1
        · have N : Hid (kindsT t = false) := kinds_no fun hk => g2 hk.2.1.2
          go_wp2_with fail
          go_ret
          exact ⟨by rw [N.out]; try rfl, HZ.out⟩
        by_cases g3 : 1 ≤ t.split
        rotate_left 1
        · have N : Hid (kindsT t = false) := kinds_no fun hk => g3 hk.2.2.1.1
          go_wp2_with fail
          go_ret
          exact ⟨by rw [N.out]; try rfl, HZ.out⟩
        by_cases g4 : t.split ≤ 3
        rotate_left 1
        · have N : Hid (kindsT t = false) := kinds_no fun hk => g4 hk.2.2.1.2
          go_wp2_with fail
          go_ret
          exact ⟨by rw [N.out]; try rfl, HZ.out⟩
        by_cases g5 : 0 ≤ t.after
        rotate_left 1
        · have N : Hid (kindsT t = false) := kinds_no fun hk => g5 hk.2.2.2.1.1
          go_wp2_with fail
          go_ret
          exact ⟨by rw [N.out]; try rfl, HZ.out⟩
        by_cases g6 : t.after ≤ 65536
        rotate_left 1
        · have N : Hid (kindsT t = false) := kinds_no fun hk => g6 hk.2.2.2.1.2
          go_wp2_with fail
          go_ret
          exact ⟨by rw [N.out]; try rfl, HZ.out⟩
        cases sv with
        | false =>
          have N : Hid (kindsT t = false) := kinds_no fun hk => by have h1 := hk.2.2.2.2; rw [← HSV.out] at h1; cases h1
          go_wp2_with fail
          go_ret
          exact ⟨by rw [N.out]; try rfl, HZ.out⟩
        | true =>
          have N : Hid (kindsT t = true) := kinds_yes ⟨NB.out, ⟨g1, g2⟩, ⟨g3, g4⟩, ⟨g5, g6⟩, HSV.out.symm⟩
          go_wp2_with fail
          go_ret
          exact ⟨by rw [N.out]; try rfl, HZ.out⟩
end Go.Proofs.YtgdkomkflfodaaaGreat.Check
