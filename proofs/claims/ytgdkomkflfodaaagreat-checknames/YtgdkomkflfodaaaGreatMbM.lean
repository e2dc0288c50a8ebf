/- CheckNames: over the turned program. -/
import Derived.Test.YtgdkomkflfodaaaGreatMbK
namespace Go.Proofs.YtgdkomkflfodaaaGreat.Check
open Go.Proofs.YtgdkomkflfodaaaGreat.Dag Go.RowKit Go.Proofs.YtgdkomkflfodaaaGreat.Frame Go.Proofs.YtgdkomkflfodaaaGreat.Colour Go.Proofs.YtgdkomkflfodaaaGreat.Expr
set_option linter.unusedVariables false
set_option linter.unusedSimpArgs false

theorem names_ok {s : ByteArray} (h : freeB s = true) : nameB s = true ∧ Token.wordB s.data.toList = false := by
  unfold freeB at h
  simpa using h
theorem free_name {s : ByteArray} (h : freeB s = true) (W : World) : Calls Tryz.prog 18 #[.string s] W fun e w' => e = .returned (.bool true) ∧ w' = W := by
  have := name_any s W
  rw [(names_ok h).1] at this
  exact this
theorem free_word {s : ByteArray} (h : freeB s = true) (W : World) : Calls Tryz.prog 19 #[.string s] W fun e w' => e = .returned (.bool false) ∧ w' = W := by
  have := Token.word_any s W
  rw [(names_ok h).2] at this
  exact this
theorem dwn {w W : World} {B : Nat} (h : Below B w W) (n : Nat) : Below B w (W.drewN n) := below_drewN h n
set_option maxRecDepth 100000 in
set_option maxHeartbeats 8000000 in
theorem names_any (n : Ne) (w : World) (h : NeOk w n) (hl : NeLen n) : Calls Tryz.prog 6 #[.agg #[.slice n.ca n.cols.length n.cc, .slice n.pa n.places.length n.pc, .slice n.ta n.tasks.length n.tc, .int .i64 n.frm, .int .i64 n.too]] w fun e w' => e = .returned (.bool true) ∧ Below w.heap.size w w' := by
  obtain ⟨q, hq⟩ : ∃ q, q = w.heap.size := ⟨_, rfl⟩
  obtain ⟨wz, hwz⟩ : ∃ wz, wz = w.alloc (.cells #[.slice n.ca n.cols.length n.cc, .slice n.pa n.places.length n.pc, .slice n.ta n.tasks.length n.tc, .int .i64 n.frm, .int .i64 n.too] 26) := ⟨_, rfl⟩
  have HZ : Hid (Below w.heap.size w wz ∧ NBox wz q n ∧ NeOk wz n ∧ NeLen n) := by rw [hwz, hq]; exact ⟨(Below.refl _ _).alloc (Nat.le_refl _) _, NBox.new w n _, h.below ((Below.refl _ _).alloc (Nat.le_refl _) _), hl⟩
  clear h hl
  go_enter Tryz.func6, Tryz.ntmps6
  go_upto_region 1 with fail
  rw [← hwz, ← hq]
  clear hwz hq
  go_wp2_with fail
  refine (small_any wz).mono ?_
  rintro e w1 ⟨he, hb⟩
  subst he
  have H1 : Hid (La w w1 q n ∧ NeLen n) := ⟨⟨then_ HZ.out.1 hb, HZ.out.2.1.below hb, HZ.out.2.2.1.below hb⟩, HZ.out.2.2.2⟩
  clear hb HZ
  obtain ⟨c0, c1, c2, c3, c4⟩ := H1.out.1.2.1
  go_wp2_with fail
  refine (netFew_any n w1 H1.out.1.2.2 H1.out.2).mono ?_
  rintro e w2 ⟨b, he, hfew, hb⟩
  subst he
  have H2 : Hid (La w w2 q n ∧ (b = true → FewN n)) := ⟨H1.out.1.on hb, hfew⟩
  clear hb H1 hfew c0 c1 c2 c3 c4
  cases b with
  | false =>
    go_wp2_with fail
    go_ret
    exact ⟨rfl, H2.out.1.1⟩
  | true =>
  have HF : Hid (FewN n) := H2.out.2 (by simp)
  have HL : Hid (La w w2 q n) := H2.out.1
  clear H2
  obtain ⟨c0, c1, c2, c3, c4⟩ := HL.out.2.1
  go_wp2_with fail
  refine (net_any n w2 HL.out.2.2 HF.out.sm).mono ?_
  rintro e w3 ⟨kd, at_, er, he, hi, hb⟩
  subst he
  have HI : Hid (NetIs n kd at_ er) := hi
  obtain ⟨p, hp⟩ : ∃ p, p = w3.heap.size := ⟨_, rfl⟩
  have HL3 : Hid (La w w3 q n) := HL.out.on hb
  clear hi hb HL c0 c1 c2 c3 c4
  go_upto_region 6 with fail
  obtain ⟨w4, hw4⟩ : ∃ w4, w4 = w3.alloc (.cells #[.int .i64 kd, .int .i64 at_] 30) := ⟨_, rfl⟩
  have HL4 : Hid (La w w4 q n ∧ w4.cell? ⟨p, 0, none⟩ = some (.int .i64 kd) ∧ w4.cell? ⟨p, 1, none⟩ = some (.int .i64 at_)) := ⟨HL3.out.on (by rw [hw4]; exact al_ _ _), by rw [hw4]; exact part_new w3 kd at_ p hp _⟩
  rw [← hw4, ← hp]
  clear hw4 hp HL3
  by_cases he0 : er = 0
  case neg =>
    go_wp2_with fail
    go_ret
    exact ⟨rfl, HL4.out.1.1⟩
  case pos =>
  subst he0
  have HO : Hid (OkN n) := (net_ok HI.out).2.2
  clear HI
  have y2 : n.places.length ≤ 70 := HF.out.1.2.1
  have y3 : n.tasks.length ≤ 70 := HF.out.1.2.2
  go_wp2_with fail
  go_loopw [7] (fun i wr => ∃ k : Nat, i = .int .i64 (k : Int) ∧ k ≤ n.places.length ∧ Hid (Below w4.heap.size w4 wr)) (fun i _ => n.places.length - (intOf i).toNat)
  case atStart => exact ⟨0, rfl, by omega, Below.refl _ _⟩
  case round =>
    obtain ⟨i, rfl, hi, HB⟩ := hrel
    have HLr : Hid (La w wr q n) := HL4.out.1.on HB.out
    obtain ⟨c0, c1, c2, c3, c4⟩ := HLr.out.2.1
    by_cases hlt : i < n.places.length
    · have hlt' : (i : Int) < n.places.length := by omega
      obtain ⟨b, off, ha, hr, _⟩ := HLr.out.2.2.2.2.1.at hlt
      have hfree := place_ok (HO.out.2.2.1 i hlt)
      obtain ⟨s, hs⟩ : ∃ s, s = (n.places.getD i nilPl).name := ⟨_, rfl⟩
      have e0 : wr.cell? ⟨b, off + i * 3, none⟩ = some (.string s) := by rw [hs]; exact hr 0 _ rfl
      have NC : Hid (∀ W, Calls Tryz.prog 18 #[.string s] W fun e w' => e = .returned (.bool true) ∧ w' = W) := fun W => free_name (by rw [hs]; exact hfree.1) W
      have WC : Hid (∀ W, Calls Tryz.prog 19 #[.string s] W fun e w' => e = .returned (.bool false) ∧ w' = W) := fun W => free_word (by rw [hs]; exact hfree.1) W
      have HD : Hid (∀ j, j < i → ((n.places.getD j nilPl).name.toList == s.toList) = false) := fun j hj => by rw [hs]; exact hfree.2 j hj
      have HP : Hid (∀ W, La w W q n → ∀ j, j < n.places.length → W.cell? ⟨b, off + j * 3, none⟩ = some (.string (n.places.getD j nilPl).name)) := fun W hW j hj => by
        obtain ⟨b', off', ha', hr', _⟩ := hW.2.2.2.2.1.at hj
        rw [ha] at ha'
        cases ha'
        exact hr' 0 _ rfl
      have HS : Hid (s = (n.places.getD i nilPl).name) := hs
      have HA : Hid (n.pa = some ⟨b, off, none⟩) := ha
      rw [ha] at c1
      clear hr hfree hs ha
      go_wp2_with fail
      refine (NC.out _).mono ?_
      rintro e w5 ⟨he, hw⟩
      subst he
      have hw := hw.symm
      subst hw
      go_wp2_with fail
      refine (WC.out _).mono ?_
      rintro e w5 ⟨he, hw⟩
      subst he
      have hw := hw.symm
      subst hw
      clear NC WC
      go_wp2_with fail
      clear c0 c1 c2 c3 c4 e0
      go_loopw [8] (fun v wv => ∃ k : Nat, v = .int .i64 (k : Int) ∧ k ≤ i ∧ Hid (Below w4.heap.size w4 wv)) (fun v _ => i - (intOf v).toNat)
      case atStart => exact ⟨0, rfl, by omega, HB⟩
      case round =>
        clear HB HLr
        obtain ⟨k, rfl, hk, HB⟩ := hrel
        by_cases hki : k < i
        · have hki' : (k : Int) < i := by omega
          have hkl' : (k : Int) < n.places.length := by omega
          have HLr : Hid (La w wr q n) := HL4.out.1.on HB.out
          obtain ⟨c0, c1, c2, c3, c4⟩ := HLr.out.2.1
          rw [HA.out] at c1
          obtain ⟨s2, hs2⟩ : ∃ s2, s2 = (n.places.getD k nilPl).name := ⟨_, rfl⟩
          have e0 : wr.cell? ⟨b, off + k * 3, none⟩ = some (.string s2) := by rw [hs2]; exact HP.out wr HLr.out k (by omega)
          have e1 : wr.cell? ⟨b, off + i * 3, none⟩ = some (.string s) := by rw [HS.out]; exact HP.out wr HLr.out i hlt
          have e2 : (s2.toList == s.toList) = false := by rw [hs2]; exact HD.out k hki
          have NX : Hid (∀ m, Below w4.heap.size w4 (wr.drewN m)) := fun m => dwn HB.out m
          clear hs2 c0 c2 c3 c4
          go_wp2_with fail
          go_quiet (fail)
          go_wp2_with fail
          go_roundw
          case rel => first | exact ⟨k + 1, by simp, by omega, NX.out _⟩ | exact ⟨_, _, ⟨k + 1, by go_num, by omega, NX.out _⟩, rfl, rfl⟩
          case measure => simp [intOf]; omega
        · have hki' : ¬ (k : Int) < i := by omega
          go_wp2_with fail
          go_roundw
          case rel => first | exact ⟨i + 1, by simp, by omega, HB⟩ | exact ⟨_, _, ⟨i + 1, by go_num, by omega, HB⟩, rfl, rfl⟩
          case measure => simp [intOf]; omega
    · have hlt' : ¬ (i : Int) < n.places.length := by omega
      go_wp2_with fail
      clear c0 c1 c2 c3 c4
      go_loopw [9] (fun v wv => ∃ i : Nat, v = .int .i64 (i : Int) ∧ i ≤ n.tasks.length ∧ Hid (Below w4.heap.size w4 wv)) (fun v _ => n.tasks.length - (intOf v).toNat)
      case atStart => exact ⟨0, rfl, by omega, HB⟩
      case round =>
        clear HB HLr hlt hlt' hi
        obtain ⟨i, rfl, hi, HB⟩ := hrel
        have HLr : Hid (La w wr q n) := HL4.out.1.on HB.out
        obtain ⟨c0, c1, c2, c3, c4⟩ := HLr.out.2.1
        by_cases hlt : i < n.tasks.length
        · have hlt' : (i : Int) < n.tasks.length := by omega
          obtain ⟨b, off, ha, hr, ho⟩ := HLr.out.2.2.2.2.2.at hlt
          have hok := HO.out.2.2.2 i hlt
          have hfew := HF.out.2.2.2 i hlt
          obtain ⟨t, ht⟩ : ∃ t, t = n.tasks.getD i nilTa := ⟨_, rfl⟩
          have HT : Hid (t = n.tasks.getD i nilTa) := ht
          have hnm := task_named hok
          have hnone := task_none hok
          have hright := task_right hok
          rw [← ht] at hr ho hnone hright hfew
          have hname : taskNm n i = t.name := by unfold taskNm; rw [← ht]
          rw [hname] at hnm
          have z1 := hnone.1
          have z2 := hnone.2
          have yv : t.vars.length ≤ 200 := hfew.1.1
          have yi : t.ins.length ≤ 200 := hfew.1.2.1
          have yo : t.outs.length ≤ 200 := hfew.1.2.2.1
          have NC : Hid (∀ W, Calls Tryz.prog 18 #[.string t.name] W fun e w' => e = .returned (.bool true) ∧ w' = W) := fun W => free_name hnm.1 W
          have WC : Hid (∀ W, Calls Tryz.prog 19 #[.string t.name] W fun e w' => e = .returned (.bool false) ∧ w' = W) := fun W => free_word hnm.1 W
          have RC : Hid (∀ W, TaOk W t → Calls Tryz.prog 20 #[.agg #[.int .i64 t.guard.kind, .int .i64 t.guard.num, .slice t.ga t.guard.kids.length t.gc], .int .i64 (t.vars.length : Int)] W fun e w' => e = .returned (.bool true) ∧ Below W.heap.size W w') := fun W hW => by
            have := Expr.right_any t.guard W t.ga t.gc (t.vars.length : Int) hW.2.1
            rw [hright] at this
            exact this
          have HD : Hid (∀ j, j < i → ((n.tasks.getD j nilTa).name.toList == t.name.toList) = false) := fun j hj => hnm.2 j hj
          have HV : Hid (∀ j, j < t.vars.length → ∀ k, k < j → ((t.vars.getD k nilVa).name.toList == (t.vars.getD j nilVa).name.toList) = false) := fun j hj k hk => by
            have hv := task_var hok (i := j) (by rw [← ht]; exact hj)
            rw [← ht] at hv
            exact (var_ok hv).1 k hk
          have HP : Hid (∀ W, La w W q n → ∀ j, j < n.tasks.length → W.cell? ⟨b, off + j * 14, none⟩ = some (.string (n.tasks.getD j nilTa).name)) := fun W hW j hj => by
            obtain ⟨b', off', ha', hr', _⟩ := hW.2.2.2.2.2.at hj
            rw [ha] at ha'
            cases ha'
            exact hr' 0 _ rfl
          have HA : Hid (n.ta = some ⟨b, off, none⟩) := ha
          have HTO : Hid (TaOk wr t) := ho
          have d0 : wr.cell? ⟨b, off + i * 14, none⟩ = some (.string t.name) := hr 0 _ rfl
          have d1 : wr.cell? ⟨b, off + i * 14 + 1, none⟩ = some (.slice t.va t.vars.length t.vc) := hr 1 _ rfl
          have d2 : wr.cell? ⟨b, off + i * 14 + 2, none⟩ = some (.int .i64 t.guard.kind) := hr 2 _ rfl
          have d3 : wr.cell? ⟨b, off + i * 14 + 3, none⟩ = some (.int .i64 t.guard.num) := hr 3 _ rfl
          have d4 : wr.cell? ⟨b, off + i * 14 + 4, none⟩ = some (.slice t.ga t.guard.kids.length t.gc) := hr 4 _ rfl
          have d5 : wr.cell? ⟨b, off + i * 14 + 5, none⟩ = some (.int .i64 t.join) := hr 5 _ rfl
          have d6 : wr.cell? ⟨b, off + i * 14 + 6, none⟩ = some (.int .i64 t.split) := hr 6 _ rfl
          have d7 : wr.cell? ⟨b, off + i * 14 + 7, none⟩ = some (.slice t.ia t.ins.length t.ic) := hr 7 _ rfl
          have d8 : wr.cell? ⟨b, off + i * 14 + 8, none⟩ = some (.slice t.oa t.outs.length t.oc) := hr 8 _ rfl
          have d9 : wr.cell? ⟨b, off + i * 14 + 9, none⟩ = some (.slice t.ca t.cancel.length t.cc) := hr 9 _ rfl
          have d10 : wr.cell? ⟨b, off + i * 14 + 10, none⟩ = some (.int .i64 t.after) := hr 10 _ rfl
          have d11 : wr.cell? ⟨b, off + i * 14 + 11, none⟩ = some (.int .i64 t.m0) := hr 11 _ rfl
          have d12 : wr.cell? ⟨b, off + i * 14 + 12, none⟩ = some (.int .i64 t.m1) := hr 12 _ rfl
          have d13 : wr.cell? ⟨b, off + i * 14 + 13, none⟩ = some (.int .i64 t.m2) := hr 13 _ rfl
          have hbl : b < wr.heap.size := World.block_lt_of_cell? _ _ d0
          rw [ha] at c2
          clear hr ho hok hfew hnm hnone hright hname ha ht
          go_upto_region 22 with fail
          obtain ⟨w5, hw5⟩ : ∃ w5, w5 = wr.alloc (.cells #[.string t.name, .slice t.va t.vars.length t.vc, .int .i64 t.guard.kind, .int .i64 t.guard.num, .slice t.ga t.guard.kids.length t.gc, .int .i64 t.join, .int .i64 t.split, .slice t.ia t.ins.length t.ic, .slice t.oa t.outs.length t.oc, .slice t.ca t.cancel.length t.cc, .int .i64 t.after, .int .i64 t.m0, .int .i64 t.m1, .int .i64 t.m2] 53) := ⟨_, rfl⟩
          obtain ⟨r, hr⟩ : ∃ r, r = wr.heap.size := ⟨_, rfl⟩
          have hb5 : Below wr.heap.size wr w5 := by rw [hw5]; exact al_ _ _
          have HR : Hid (∀ j v, t.cells[j]? = some v → w5.cell? ⟨r, j, none⟩ = some v) := fun j v hv => by
            rw [hw5, World.cell?_alloc_at _ _ _ _ hr]
            have : (List.toArray t.cells)[j]? = some v := by simpa using hv
            exact this
          have H5 : Hid (Below w4.heap.size w4 w5 ∧ TaOk w5 t) := ⟨then_ HB.out hb5, HTO.out.below hb5⟩
          rw [← hw5, ← hr]
          clear hw5 hr d0 d1 d2 d3 d4 d5 d6 d7 d8 d9 d10 d11 d12 d13 hbl HTO hb5 c0 c1 c2 c3 c4 HLr HB
          have HB5 : Below w5.heap.size w5 w5 := Below.refl _ _
          have d0 : w5.cell? ⟨r, 0, none⟩ = some (.string t.name) := box_below (HR.out 0 _ rfl) HB5
          have d1 : w5.cell? ⟨r, 1, none⟩ = some (.slice t.va t.vars.length t.vc) := box_below (HR.out 1 _ rfl) HB5
          have d2 : w5.cell? ⟨r, 2, none⟩ = some (.int .i64 t.guard.kind) := box_below (HR.out 2 _ rfl) HB5
          have d3 : w5.cell? ⟨r, 3, none⟩ = some (.int .i64 t.guard.num) := box_below (HR.out 3 _ rfl) HB5
          have d4 : w5.cell? ⟨r, 4, none⟩ = some (.slice t.ga t.guard.kids.length t.gc) := box_below (HR.out 4 _ rfl) HB5
          have d7 : w5.cell? ⟨r, 7, none⟩ = some (.slice t.ia t.ins.length t.ic) := box_below (HR.out 7 _ rfl) HB5
          have d8 : w5.cell? ⟨r, 8, none⟩ = some (.slice t.oa t.outs.length t.oc) := box_below (HR.out 8 _ rfl) HB5
          clear HB5
          go_wp2_with fail
          refine (NC.out _).mono ?_
          rintro e w6 ⟨he, hw⟩
          subst he
          have hw := hw.symm
          subst hw
          go_wp2_with fail
          refine (WC.out _).mono ?_
          rintro e w6 ⟨he, hw⟩
          subst he
          have hw := hw.symm
          subst hw
          go_wp2_with fail
          refine (RC.out _ H5.out.2).mono ?_
          rintro e w6 ⟨he, HB5⟩
          subst he
          clear d0 d1 d2 d3 d4 d7 d8 NC WC RC
          have H6 : Hid (Below w5.heap.size w5 w6) := HB5
          have d7 : w6.cell? ⟨r, 7, none⟩ = some (.slice t.ia t.ins.length t.ic) := box_below (HR.out 7 _ rfl) HB5
          have d8 : w6.cell? ⟨r, 8, none⟩ = some (.slice t.oa t.outs.length t.oc) := box_below (HR.out 8 _ rfl) HB5
          clear HB5
          have z1' : ¬ (t.ins.length : Int) < 1 := by omega
          have z2' : ¬ (t.outs.length : Int) < 1 := by omega
          go_wp2_with fail
          clear d7 d8 z1 z2 z1' z2'
          go_loopw [11] (fun v wv => ∃ k : Nat, v = .int .i64 (k : Int) ∧ k ≤ i ∧ Hid (Below w5.heap.size w5 wv)) (fun v _ => i - (intOf v).toNat)
          case atStart => exact ⟨0, rfl, by omega, H6⟩
          case round =>
            obtain ⟨k, rfl, hk, HB⟩ := hrel
            by_cases hki : k < i
            · have hki' : (k : Int) < i := by omega
              have hkl' : (k : Int) < n.tasks.length := by omega
              have HLr : Hid (La w wr q n) := (HL4.out.1.on H5.out.1).on HB.out
              obtain ⟨c0, c1, c2, c3, c4⟩ := HLr.out.2.1
              rw [HA.out] at c2
              have HB5 := HB.out
              have d0 : wr.cell? ⟨r, 0, none⟩ = some (.string t.name) := box_below (HR.out 0 _ rfl) HB5
              clear HB5
              obtain ⟨s2, hs2⟩ : ∃ s2, s2 = (n.tasks.getD k nilTa).name := ⟨_, rfl⟩
              have e0 : wr.cell? ⟨b, off + k * 14, none⟩ = some (.string s2) := by rw [hs2]; exact HP.out wr HLr.out k (by omega)
              have e2 : (s2.toList == t.name.toList) = false := by rw [hs2]; exact HD.out k hki
              have NX : Hid (∀ m, Below w5.heap.size w5 (wr.drewN m)) := fun m => dwn HB.out m
              clear hs2 c0 c1 c3 c4
              go_wp2_with fail
              go_quiet (fail)
              go_wp2_with fail
              go_roundw
              case rel => first | exact ⟨k + 1, by simp, by omega, NX.out _⟩ | exact ⟨_, _, ⟨k + 1, by go_num, by omega, NX.out _⟩, rfl, rfl⟩
              case measure => simp [intOf]; omega
            · have hki' : ¬ (k : Int) < i := by omega
              go_wp2_with fail
              clear hki hki' hk
              go_loopw [12] (fun v wv => ∃ k : Nat, v = .int .i64 (k : Int) ∧ k ≤ t.vars.length ∧ Hid (Below w5.heap.size w5 wv)) (fun v _ => t.vars.length - (intOf v).toNat)
              case atStart => exact ⟨0, rfl, by omega, HB⟩
              case round =>
                clear HB
                obtain ⟨k, rfl, hk, HB⟩ := hrel
                have HB5 := HB.out
                have d1 : wr.cell? ⟨r, 1, none⟩ = some (.slice t.va t.vars.length t.vc) := box_below (HR.out 1 _ rfl) HB5
                clear HB5
                by_cases hkv : k < t.vars.length
                · have hkv' : (k : Int) < t.vars.length := by omega
                  obtain ⟨b2, o2, hva, hr2, _⟩ := (H5.out.2.below HB.out).2.2.1.at hkv
                  have HVP : Hid (∀ W, Below w5.heap.size w5 W → ∀ j, j < t.vars.length → W.cell? ⟨b2, o2 + j * 2, none⟩ = some (.string (t.vars.getD j nilVa).name)) := fun W hW j hj => by
                    obtain ⟨b', off', ha', hr', _⟩ := (H5.out.2.below hW).2.2.1.at hj
                    rw [hva] at ha'
                    cases ha'
                    exact hr' 0 _ rfl
                  have HVA : Hid (t.va = some ⟨b2, o2, none⟩) := hva
                  clear hr2 hva
                  go_wp2_with fail
                  clear d1
                  go_loopw [13] (fun v wv => ∃ j : Nat, v = .int .i64 (j : Int) ∧ j ≤ k ∧ Hid (Below w5.heap.size w5 wv)) (fun v _ => k - (intOf v).toNat)
                  case atStart => exact ⟨0, rfl, by omega, HB⟩
                  case round =>
                    clear HB
                    obtain ⟨j, rfl, hj, HB⟩ := hrel
                    by_cases hjk : j < k
                    · have hjk' : (j : Int) < k := by omega
                      have hjv' : (j : Int) < t.vars.length := by omega
                      have HB5 := HB.out
                      have d1 : wr.cell? ⟨r, 1, none⟩ = some (.slice t.va t.vars.length t.vc) := box_below (HR.out 1 _ rfl) HB5
                      clear HB5
                      rw [HVA.out] at d1
                      obtain ⟨s1, hs1⟩ : ∃ s1, s1 = (t.vars.getD j nilVa).name := ⟨_, rfl⟩
                      obtain ⟨s2, hs2⟩ : ∃ s2, s2 = (t.vars.getD k nilVa).name := ⟨_, rfl⟩
                      have e0 : wr.cell? ⟨b2, o2 + j * 2, none⟩ = some (.string s1) := by rw [hs1]; exact HVP.out wr HB.out j (by omega)
                      have e1 : wr.cell? ⟨b2, o2 + k * 2, none⟩ = some (.string s2) := by rw [hs2]; exact HVP.out wr HB.out k hkv
                      have e2 : (s1.toList == s2.toList) = false := by rw [hs1, hs2]; exact HV.out k hkv j hjk
                      have NX : Hid (∀ m, Below w5.heap.size w5 (wr.drewN m)) := fun m => dwn HB.out m
                      clear hs1 hs2
                      go_wp2_with fail
                      go_quiet (fail)
                      go_wp2_with fail
                      go_roundw
                      case rel => first | exact ⟨j + 1, by simp, by omega, NX.out _⟩ | exact ⟨_, _, ⟨j + 1, by go_num, by omega, NX.out _⟩, rfl, rfl⟩
                      case measure => simp [intOf]; omega
                    · have hjk' : ¬ (j : Int) < k := by omega
                      go_wp2_with fail
                      go_roundw
                      case rel => first | exact ⟨k + 1, by simp, by omega, HB⟩ | exact ⟨_, _, ⟨k + 1, by go_num, by omega, HB⟩, rfl, rfl⟩
                      case measure => simp [intOf]; omega
                · have hkv' : ¬ (k : Int) < t.vars.length := by omega
                  have NX : Hid (Below w4.heap.size w4 wr) := then_ H5.out.1 HB.out
                  go_wp2_with fail
                  clear d1
                  go_roundw
                  case rel => first | exact ⟨i + 1, by simp, by omega, NX⟩ | exact ⟨_, _, ⟨i + 1, by go_num, by omega, NX⟩, rfl, rfl⟩
                  case measure => simp [intOf]; omega
        · have hlt' : ¬ (i : Int) < n.tasks.length := by omega
          obtain ⟨g1, g2, g3⟩ := whole_len HO.out.1
          have HE : Hid (Below w.heap.size w wr) := HLr.out.1
          go_wp2_with fail
          go_ret
          exact ⟨Colour.retb (by simp; omega), HE.out⟩
end Go.Proofs.YtgdkomkflfodaaaGreat.Check
