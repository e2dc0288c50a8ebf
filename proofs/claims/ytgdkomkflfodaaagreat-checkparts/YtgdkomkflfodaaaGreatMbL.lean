/- CheckParts: over the turned program. -/
import Derived.Test.YtgdkomkflfodaaaGreatMbK
namespace Go.Proofs.YtgdkomkflfodaaaGreat.Check
open Go.Proofs.YtgdkomkflfodaaaGreat.Dag Go.RowKit Go.Proofs.YtgdkomkflfodaaaGreat.Frame Go.Proofs.YtgdkomkflfodaaaGreat.Colour Go.Proofs.YtgdkomkflfodaaaGreat.Expr
set_option linter.unusedVariables false
set_option linter.unusedSimpArgs false

set_option maxRecDepth 100000 in
set_option maxHeartbeats 8000000 in
theorem parts_any (n : Ne) (w : World) (h : NeOk w n) (hl : NeLen n) : Calls Tryz.prog 5 #[.agg #[.slice n.ca n.cols.length n.cc, .slice n.pa n.places.length n.pc, .slice n.ta n.tasks.length n.tc, .int .i64 n.frm, .int .i64 n.too]] w fun e w' => e = .returned (.bool true) ∧ Below w.heap.size w w' := by
  obtain ⟨q, hq⟩ : ∃ q, q = w.heap.size := ⟨_, rfl⟩
  obtain ⟨wz, hwz⟩ : ∃ wz, wz = w.alloc (.cells #[.slice n.ca n.cols.length n.cc, .slice n.pa n.places.length n.pc, .slice n.ta n.tasks.length n.tc, .int .i64 n.frm, .int .i64 n.too] 26) := ⟨_, rfl⟩
  have HZ : Hid (Below w.heap.size w wz ∧ NBox wz q n ∧ NeOk wz n ∧ NeLen n) := by rw [hwz, hq]; exact ⟨(Below.refl _ _).alloc (Nat.le_refl _) _, NBox.new w n _, h.below ((Below.refl _ _).alloc (Nat.le_refl _) _), hl⟩
  clear h hl
  go_enter Tryz.func5, Tryz.ntmps5
  go_upto_region 1 with fail
  rw [← hwz, ← hq]
  clear hwz hq
  go_wp2_with fail
  refine (small_any wz).mono ?_
  rintro e w1 ⟨he, hb⟩
  subst he
  have H1 : Hid (La w w1 q n ∧ NeLen n) := ⟨⟨then_ HZ.out.1 hb, HZ.out.2.1.below hb, HZ.out.2.2.1.below hb⟩, HZ.out.2.2.2⟩
  clear hb HZ
  obtain ⟨c0, c1, c2, c3, c4⟩ := H1.out.1.2.1
  go_wp2_with fail
  refine (netFew_any n w1 H1.out.1.2.2 H1.out.2).mono ?_
  rintro e w2 ⟨b, he, hfew, hb⟩
  subst he
  have H2 : Hid (La w w2 q n ∧ (b = true → FewN n)) := ⟨H1.out.1.on hb, hfew⟩
  clear hb H1 hfew c0 c1 c2 c3 c4
  cases b with
  | false =>
    go_wp2_with fail
    go_ret
    exact ⟨rfl, H2.out.1.1⟩
  | true =>
  have HF : Hid (FewN n) := H2.out.2 (by simp)
  have HL : Hid (La w w2 q n) := H2.out.1
  clear H2
  obtain ⟨c0, c1, c2, c3, c4⟩ := HL.out.2.1
  go_wp2_with fail
  refine (net_any n w2 HL.out.2.2 HF.out.sm).mono ?_
  rintro e w3 ⟨kd, at_, er, he, hi, hb⟩
  subst he
  have HI : Hid (NetIs n kd at_ er) := hi
  obtain ⟨p, hp⟩ : ∃ p, p = w3.heap.size := ⟨_, rfl⟩
  have HL3 : Hid (La w w3 q n) := HL.out.on hb
  clear hi hb HL c0 c1 c2 c3 c4
  go_upto_region 6 with fail
  obtain ⟨w4, hw4⟩ : ∃ w4, w4 = w3.alloc (.cells #[.int .i64 kd, .int .i64 at_] 30) := ⟨_, rfl⟩
  have HL4 : Hid (La w w4 q n ∧ w4.cell? ⟨p, 0, none⟩ = some (.int .i64 kd) ∧ w4.cell? ⟨p, 1, none⟩ = some (.int .i64 at_)) := ⟨HL3.out.on (by rw [hw4]; exact al_ _ _), by rw [hw4]; exact part_new w3 kd at_ p hp _⟩
  rw [← hw4, ← hp]
  clear hw4 hp HL3
  by_cases he0 : er = 0
  · subst he0
    obtain ⟨hk0, hk1, hok⟩ := net_ok HI.out
    subst hk0 hk1
    have HO : Hid (OkN n) := hok
    clear hok HI
    have y2 : n.places.length ≤ 70 := HF.out.1.2.1
    have y3 : n.tasks.length ≤ 70 := HF.out.1.2.2
    go_wp2_with fail
    go_loopw [7] (fun i wr => ∃ k : Nat, i = .int .i64 (k : Int) ∧ k ≤ n.places.length ∧ Hid (Below w4.heap.size w4 wr)) (fun i _ => n.places.length - (intOf i).toNat)
    case atStart => exact ⟨0, rfl, by omega, Below.refl _ _⟩
    case round =>
      obtain ⟨k, rfl, hk, HB⟩ := hrel
      have HLr : Hid (La w wr q n) := HL4.out.1.on HB.out
      obtain ⟨c0, c1, c2, c3, c4⟩ := HLr.out.2.1
      by_cases hlt : k < n.places.length
      · have hlt' : (k : Int) < n.places.length := by omega
        have PC : Hid (Calls Tryz.prog 11 #[.agg #[.slice n.ca n.cols.length n.cc, .slice n.pa n.places.length n.pc, .slice n.ta n.tasks.length n.tc, .int .i64 n.frm, .int .i64 n.too], .int .i64 (k : Int)] wr fun e w' => e = .returned (.int .i64 0) ∧ Below wr.heap.size wr w') := by
          have := Place_any n k wr HLr.out.2.2 HF.out.sm
          rw [placeT_ok HO.out hlt] at this
          exact this
        go_wp2_with fail
        refine PC.out.mono ?_
        rintro e w5 ⟨he, hb⟩
        subst he
        have NX : Hid (Below w4.heap.size w4 w5) := then_ HB.out hb
        clear hb PC c0 c1 c2 c3 c4 HLr
        go_wp2_with fail
        go_roundw
        case rel => first | exact ⟨k + 1, by simp, by omega, NX⟩ | exact ⟨_, _, ⟨k + 1, by go_num, by omega, NX⟩, rfl, rfl⟩
        case measure => simp [intOf]; omega
      · have hlt' : ¬ (k : Int) < n.places.length := by omega
        go_wp2_with fail
        clear c0 c1 c2 c3 c4
        go_loopw [8] (fun i wv => ∃ k : Nat, i = .int .i64 (k : Int) ∧ k ≤ n.tasks.length ∧ Hid (Below w4.heap.size w4 wv)) (fun i _ => n.tasks.length - (intOf i).toNat)
        case atStart => exact ⟨0, rfl, by omega, HB⟩
        case round =>
          clear HB HLr
          obtain ⟨j, rfl, hj, HB⟩ := hrel
          have HLr : Hid (La w wr q n) := HL4.out.1.on HB.out
          obtain ⟨c0, c1, c2, c3, c4⟩ := HLr.out.2.1
          by_cases hjn : j < n.tasks.length
          · have hjn' : (j : Int) < n.tasks.length := by omega
            obtain ⟨bv, hbv⟩ : ∃ bv, bv = bindsF n.cols (n.tasks.getD j nilTa).vars := ⟨_, rfl⟩
            have hb1 : 1 ≤ bv := by rw [hbv]; exact binds_pos HO.out hjn
            have hb2 : bv ≤ 1024 := by rw [hbv]; exact task_binds (HO.out.2.2.2 j hjn)
            have TC : Hid (Calls Tryz.prog 13 #[.agg #[.slice n.ca n.cols.length n.cc, .slice n.pa n.places.length n.pc, .slice n.ta n.tasks.length n.tc, .int .i64 n.frm, .int .i64 n.too], .int .i64 (j : Int)] wr fun e w' => e = .returned (.int .i64 0) ∧ Below wr.heap.size wr w') := by
              have := Task_any n j wr HLr.out.2.2 HF.out.sm
              rw [taskT_ok HO.out hjn] at this
              exact this
            have BC : Hid (∀ W, La w W q n → Calls Tryz.prog 16 #[.agg #[.slice n.ca n.cols.length n.cc, .slice n.pa n.places.length n.pc, .slice n.ta n.tasks.length n.tc, .int .i64 n.frm, .int .i64 n.too], .int .i64 (j : Int)] W fun e w' => e = .returned (.int .i64 bv) ∧ Below W.heap.size W w') := fun W hW => by
              rw [hbv]; exact Binds_yes n j W hW.2.2 HF.out.sm hjn
            clear hbv
            go_wp2_with fail
            refine TC.out.mono ?_
            rintro e w5 ⟨he, hb⟩
            subst he
            have HL5 : Hid (La w w5 q n ∧ Below w4.heap.size w4 w5) := ⟨HLr.out.on hb, then_ HB.out hb⟩
            clear hb TC c0 c1 c2 c3 c4 HLr HB
            obtain ⟨c0, c1, c2, c3, c4⟩ := HL5.out.1.2.1
            go_wp2_with fail
            refine (BC.out w5 HL5.out.1).mono ?_
            rintro e w6 ⟨he, hb⟩
            subst he
            have HL6 : Hid (La w w6 q n ∧ Below w4.heap.size w4 w6) := ⟨HL5.out.1.on hb, then_ HL5.out.2 hb⟩
            clear hb c0 c1 c2 c3 c4 HL5
            obtain ⟨c0, c1, c2, c3, c4⟩ := HL6.out.1.2.1
            go_wp2_with fail
            refine (BC.out w6 HL6.out.1).mono ?_
            rintro e w7 ⟨he, hb⟩
            subst he
            have NX : Hid (Below w4.heap.size w4 w7) := then_ HL6.out.2 hb
            clear hb c0 c1 c2 c3 c4 HL6 BC
            go_wp2_with fail
            go_roundw
            case rel => first | exact ⟨j + 1, by simp, by omega, NX⟩ | exact ⟨_, _, ⟨j + 1, by go_num, by omega, NX⟩, rfl, rfl⟩
            case measure => simp [intOf]; omega
          · have hjn' : ¬ (j : Int) < n.tasks.length := by omega
            obtain ⟨ns, hns⟩ := right_of_wrong HO.out.2.1
            have hft := (whole_ok HO.out.1).2.2
            have HFT : Hid ((n.frm != n.too) = true) := bne_iff_ne.2 hft
            have RC : Hid (Calls Tryz.prog 17 #[.slice n.ca n.cols.length n.cc] wr fun e w' => e = .returned (.bool true) ∧ Below wr.heap.size wr w') := by
              have := Colour.right_any n.ca n.cols.length n.cc n.cols wr HLr.out.2.2.2.1
              rw [hns] at this
              exact this
            have e0 : wr.cell? ⟨p, 0, none⟩ = some (.int .i64 0) := box_below HL4.out.2.1 HB.out
            have e1 : wr.cell? ⟨p, 1, none⟩ = some (.int .i64 0) := box_below HL4.out.2.2 HB.out
            clear hns
            go_wp2_with fail
            refine RC.out.mono ?_
            rintro e w5 ⟨he, hb⟩
            subst he
            have HE : Hid (Below w.heap.size w w5) := then_ HLr.out.1 hb
            clear hb RC c0 c1 c2 c3 c4 e0 e1
            go_wp2_with fail
            go_ret
            exact ⟨Colour.retb HFT.out, HE.out⟩
  · have hcase := net_bad HI.out he0
    obtain ⟨e0, e1⟩ := HL4.out.2
    obtain ⟨c0, c1, c2, c3, c4⟩ := HL4.out.1.2.1
    rcases hcase with rfl | ⟨rfl, rfl⟩ | ⟨rfl, hpt⟩ | ⟨rfl, htt⟩
    · go_wp2_with fail
      go_ret
      exact ⟨rfl, HL4.out.1.1⟩
    · go_wp2_with fail
      go_ret
      exact ⟨rfl, HL4.out.1.1⟩
    · have PC : Hid (Calls Tryz.prog 11 #[.agg #[.slice n.ca n.cols.length n.cc, .slice n.pa n.places.length n.pc, .slice n.ta n.tasks.length n.tc, .int .i64 n.frm, .int .i64 n.too], .int .i64 at_] w4 fun e w' => e = .returned (.int .i64 er) ∧ Below w4.heap.size w4 w') := by
        have := Place_any n at_ w4 HL4.out.1.2.2 HF.out.sm
        rw [hpt] at this
        exact this
      clear hpt
      go_wp2_with fail
      refine PC.out.mono ?_
      rintro e w5 ⟨he, hb⟩
      subst he
      have HE : Hid (Below w.heap.size w w5) := then_ HL4.out.1.1 hb
      have e0 := box_below e0 hb
      clear hb PC c0 c1 c2 c3 c4 e1
      go_wp2_with fail
      go_ret
      exact ⟨rfl, HE.out⟩
    · have TC : Hid (Calls Tryz.prog 13 #[.agg #[.slice n.ca n.cols.length n.cc, .slice n.pa n.places.length n.pc, .slice n.ta n.tasks.length n.tc, .int .i64 n.frm, .int .i64 n.too], .int .i64 at_] w4 fun e w' => e = .returned (.int .i64 er) ∧ Below w4.heap.size w4 w') := by
        have := Task_any n at_ w4 HL4.out.1.2.2 HF.out.sm
        rw [htt] at this
        exact this
      clear htt
      go_wp2_with fail
      refine TC.out.mono ?_
      rintro e w5 ⟨he, hb⟩
      subst he
      have HE : Hid (Below w.heap.size w w5) := then_ HL4.out.1.1 hb
      clear hb TC c0 c1 c2 c3 c4 e0 e1
      go_wp2_with fail
      go_ret
      exact ⟨rfl, HE.out⟩
end Go.Proofs.YtgdkomkflfodaaaGreat.Check
