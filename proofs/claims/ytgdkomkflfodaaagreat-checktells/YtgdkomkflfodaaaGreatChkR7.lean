/- The document's own isPlace, isColour and Place: contracts of the calls, over the turned program. -/
import Derived.Test.YtgdkomkflfodaaaGreatChkR6
import Derived.Test.YtgdkomkflfodaaaGreatChkRb
import Derived.Deep.RegionHeld3
import Derived.WalkSmall
namespace Go.Proofs.YtgdkomkflfodaaaGreat.Check
open Go.RowKit Go.Proofs.YtgdkomkflfodaaaGreat.Frame Go.Proofs.YtgdkomkflfodaaaGreat.Colour Go.Proofs.YtgdkomkflfodaaaGreat.Expr
set_option linter.unusedVariables false
set_option linter.unusedSimpArgs false

theorem risPlace_any (n : Ne) (k : Int) (w : World) : Calls Tryz.prog 38 #[.agg #[.slice n.ca n.cols.length n.cc, .slice n.pa n.places.length n.pc, .slice n.ta n.tasks.length n.tc, .int .i64 n.frm, .int .i64 n.too], .int .i64 k] w fun e w' => e = .returned (.bool (inB k n.places.length)) ∧ Below w.heap.size w w' := by
  by_cases h1 : 0 ≤ k
  · have E : Hid (inB k n.places.length = decide (k < n.places.length)) := by unfold Hid inB; simp [h1]
    go_enter Tryz.func38, Tryz.ntmps38
    go_wp2_with fail
    go_ret
    exact ⟨by rw [E.out]; try rfl, al_ _ _⟩
  · have E : Hid (inB k n.places.length = false) := by unfold Hid inB; simp [h1]
    go_enter Tryz.func38, Tryz.ntmps38
    go_wp2_with fail
    go_ret
    exact ⟨by rw [E.out]; try rfl, al_ _ _⟩
theorem risColour_any (n : Ne) (k : Int) (w : World) : Calls Tryz.prog 44 #[.agg #[.slice n.ca n.cols.length n.cc, .slice n.pa n.places.length n.pc, .slice n.ta n.tasks.length n.tc, .int .i64 n.frm, .int .i64 n.too], .int .i64 k] w fun e w' => e = .returned (.bool (inB k n.cols.length)) ∧ Below w.heap.size w w' := by
  by_cases h1 : 0 ≤ k
  · have E : Hid (inB k n.cols.length = decide (k < n.cols.length)) := by unfold Hid inB; simp [h1]
    go_enter Tryz.func44, Tryz.ntmps44
    go_wp2_with fail
    go_ret
    exact ⟨by rw [E.out]; try rfl, al_ _ _⟩
  · have E : Hid (inB k n.cols.length = false) := by unfold Hid inB; simp [h1]
    go_enter Tryz.func44, Tryz.ntmps44
    go_wp2_with fail
    go_ret
    exact ⟨by rw [E.out]; try rfl, al_ _ _⟩

theorem lastB_yes {n : Ne} {p : Pl} {i : Nat} (hr : Bag.rightB p.first = true) (hi : i < p.first.length) (h : Colour.sizeF n.cols p.colour ≤ (p.first.getD i Bag.zr).1) : lastB n p = true := by
  have hp := (Bag.rightB_iff.1 hr).1
  have hl : (p.first.getD i Bag.zr).1 ≤ (p.first.getD (p.first.length - 1) Bag.zr).1 := by
    rcases Nat.lt_or_ge i (p.first.length - 1) with g | g
    · have := List.pairwise_iff_getElem.1 hp i (p.first.length - 1) hi (by omega) g
      rw [Bag.getD_get Bag.zr hi, Bag.getD_get Bag.zr (show p.first.length - 1 < p.first.length by omega)]
      omega
    · have e : i = p.first.length - 1 := by omega
      rw [e]; omega
  unfold lastB
  rw [decide_eq_true (show 0 < p.first.length by omega), decide_eq_true (Int.le_trans h hl)]; rfl
theorem lastB_no {n : Ne} {p : Pl} (h : ∀ i, i < p.first.length → ¬ Colour.sizeF n.cols p.colour ≤ (p.first.getD i Bag.zr).1) : lastB n p = false := by
  unfold lastB
  by_cases h0 : 0 < p.first.length
  · rw [decide_eq_false (h (p.first.length - 1) (by omega)), Bool.and_false]
  · rw [decide_eq_false h0, Bool.false_and]
theorem placeF_1 {n : Ne} {j : Nat} {p : Pl} (hp : p = n.places.getD j nilPl) (h1 : freeB p.name = false) : placeF n j = 1 := by
  unfold placeF placeL namedF placeNm; rw [← hp]; simp [firstNZ, errB, h1]
theorem placeF_5 {n : Ne} {j : Nat} {p : Pl} (hp : p = n.places.getD j nilPl) (h1 : freeB p.name = true) (h2 : twiceB j (placeNm n) = true) : placeF n j = 5 := by
  unfold placeF placeL namedF; rw [h2]; unfold placeNm; rw [← hp]; simp [firstNZ, errB, h1]
theorem placeF_3 {n : Ne} {j : Nat} {p : Pl} (hp : p = n.places.getD j nilPl) (h1 : freeB p.name = true) (h2 : twiceB j (placeNm n) = false) (h3 : inB p.colour n.cols.length = false) : placeF n j = 3 := by
  unfold placeF placeL namedF; rw [h2]; unfold placeNm; rw [← hp]; simp [firstNZ, errB, h1, h3]
theorem placeF_r {n : Ne} {j : Nat} {p : Pl} (hp : p = n.places.getD j nilPl) (h1 : freeB p.name = true) (h2 : twiceB j (placeNm n) = false) (h3 : inB p.colour n.cols.length = true) (h4 : Bag.rightB p.first = false) : placeF n j = 1 := by
  unfold placeF placeL namedF; rw [h2]; unfold placeNm; rw [← hp]; simp [firstNZ, errB, h1, h3, h4]
theorem placeF_l {n : Ne} {j : Nat} {p : Pl} (hp : p = n.places.getD j nilPl) (h1 : freeB p.name = true) (h2 : twiceB j (placeNm n) = false) (h3 : inB p.colour n.cols.length = true) (h4 : Bag.rightB p.first = true) : placeF n j = if lastB n p then 8 else 0 := by
  unfold placeF placeL namedF; rw [h2]; unfold placeNm; rw [← hp]; cases lastB n p <;> simp [firstNZ, errB, h1, h3, h4]
def Lp (w W : World) (q : Nat) (n : Ne) (t : Nat) (p : Pl) : Prop := La w W q n ∧ PBox W t p ∧ PlOk W p
theorem Lp.on {w W W' : World} {q t : Nat} {n : Ne} {p : Pl} (h : Lp w W q n t p) (hb : Below W.heap.size W W') : Lp w W' q n t p := ⟨h.1.on hb, h.2.1.below hb, h.2.2.below hb⟩
theorem PBox.new (w : World) (p : Pl) (T : TypeId) : PBox (w.alloc (.cells #[.string p.name, .int .i64 p.colour, .slice p.fa p.first.length p.fc] T)) w.heap.size p := by
  refine ⟨?_, ?_, ?_⟩ <;> exact (World.cell?_alloc_at _ _ _ _ rfl)
theorem NeOk.place {w : World} {n : Ne} {k : Nat} (h : NeOk w n) (hk : k < n.places.length) : ∃ b off, n.pa = some ⟨b, off, none⟩ ∧ (w.cell? ⟨b, off + k * 3, none⟩ = some (.string (n.places.getD k nilPl).name) ∧ w.cell? ⟨b, off + k * 3 + 1, none⟩ = some (.int .i64 (n.places.getD k nilPl).colour) ∧ w.cell? ⟨b, off + k * 3 + 2, none⟩ = some (.slice (n.places.getD k nilPl).fa (n.places.getD k nilPl).first.length (n.places.getD k nilPl).fc)) ∧ PlOk w (n.places.getD k nilPl) := by
  obtain ⟨b, off, ha, hr, ho⟩ := h.2.2.1.at hk
  exact ⟨b, off, ha, ⟨hr 0 _ rfl, hr 1 _ rfl, hr 2 _ rfl⟩, ho⟩

set_option maxRecDepth 100000 in
set_option maxHeartbeats 8000000 in
theorem rPlace_any (n : Ne) (k : Int) (w : World) (h : NeOk w n) (hm : Sm n) : Calls Tryz.prog 12 #[.agg #[.slice n.ca n.cols.length n.cc, .slice n.pa n.places.length n.pc, .slice n.ta n.tasks.length n.tc, .int .i64 n.frm, .int .i64 n.too], .int .i64 k] w fun e w' => e = .returned (.int .i64 (placeT n k)) ∧ Below w.heap.size w w' := by
  obtain ⟨q, hq⟩ : ∃ q, q = w.heap.size := ⟨_, rfl⟩
  obtain ⟨wz, hwz⟩ : ∃ wz, wz = w.alloc (.cells #[.slice n.ca n.cols.length n.cc, .slice n.pa n.places.length n.pc, .slice n.ta n.tasks.length n.tc, .int .i64 n.frm, .int .i64 n.too] 26) := ⟨_, rfl⟩
  have HZ : Hid (La w wz q n) := by rw [hwz, hq]; exact ⟨al_ _ _, NBox.new w n _, h.below (al_ _ _)⟩
  have HM : Hid (Sm n) := hm
  have IP : Hid (∀ W, Calls Tryz.prog 38 #[.agg #[.slice n.ca n.cols.length n.cc, .slice n.pa n.places.length n.pc, .slice n.ta n.tasks.length n.tc, .int .i64 n.frm, .int .i64 n.too], .int .i64 k] W fun e w' => e = .returned (.bool (inB k n.places.length)) ∧ Below W.heap.size W w') := fun W => risPlace_any n k W
  have hlp : n.places.length ≤ 1000000 := hm.1.2.1
  clear h hm
  go_enter Tryz.func12, Tryz.ntmps12
  go_upto_region 1 with fail
  rw [← hwz, ← hq]
  clear hwz hq
  obtain ⟨c0, c1, c2, c3, c4⟩ := HZ.out.2.1
  cases hin : inB k n.places.length with
  | false =>
    have E : Hid (placeT n k = 3) := by unfold Hid placeT; rw [hin]; rfl
    rw [hin] at IP
    clear hin
    go_wp2_with fail
    refine (IP.out _).mono ?_
    rintro e w1 ⟨he, hb⟩
    subst he
    have HB : Hid (Below w.heap.size w w1) := then_ HZ.out.1 hb
    clear hb IP HZ c0 c1 c2 c3 c4
    go_wp2_with fail
    go_ret
    exact ⟨by rw [E.out]; try rfl, HB.out⟩
  | true =>
  obtain ⟨j, rfl, hj⟩ := inB_yes hin
  have E0 : Hid (placeT n (j : Int) = placeF n j) := by unfold Hid placeT; rw [hin]; rfl
  rw [hin] at IP
  clear hin
  go_wp2_with fail
  refine (IP.out _).mono ?_
  rintro e w1 ⟨he, hb⟩
  subst he
  have H1 : Hid (La w w1 q n) := HZ.out.on hb
  clear hb IP HZ c0 c1 c2 c3 c4
  obtain ⟨c0, c1, c2, c3, c4⟩ := H1.out.2.1
  obtain ⟨b, off, ha, ⟨p0, p1, p2⟩, hpl⟩ := H1.out.2.2.place hj
  obtain ⟨p, hp⟩ : ∃ p, p = n.places.getD j nilPl := ⟨_, rfl⟩
  have HPE : Hid (p = n.places.getD j nilPl ∧ p.first.length ≤ 1000000) := ⟨hp, HM.out.2.1 p (by rw [hp]; exact place_mem hj)⟩
  rw [← hp] at p0 p1 p2 hpl
  have HNP : Hid (n.pa = some ⟨b, off, none⟩) := ha
  have hj' : (j : Int) < n.places.length := by omega
  rw [ha] at c1
  obtain ⟨t, ht⟩ : ∃ t, t = w1.heap.size := ⟨_, rfl⟩
  obtain ⟨wt, hwt⟩ : ∃ wt, wt = w1.alloc (.cells #[.string p.name, .int .i64 p.colour, .slice p.fa p.first.length p.fc] 45) := ⟨_, rfl⟩
  have HT : Hid (Lp w wt q n t p) := by rw [hwt, ht]; exact ⟨H1.out.on (al_ _ _), PBox.new w1 p _, hpl.below (al_ _ _)⟩
  clear hp hpl ha
  go_upto_region 4 with fail
  rw [← hwt, ← ht]
  clear hwt ht c0 c1 c2 c3 c4 p0 p1 p2 H1
  have FC : Hid (∀ W, Calls Tryz.prog 43 #[.string p.name] W fun e w' => e = .returned (.bool (freeB p.name)) ∧ Below W.heap.size W w') := fun W => rfree_any p.name W
  obtain ⟨p0, p1, p2⟩ := HT.out.2.1
  cases hf : freeB p.name with
  | false =>
    have E : Hid (placeT n (j : Int) = 1) := E0.out.trans (placeF_1 HPE.out.1 hf)
    rw [hf] at FC
    go_wp2_with fail
    refine (FC.out _).mono ?_
    rintro e w2 ⟨he, hb⟩
    subst he
    have HB : Hid (Below w.heap.size w w2) := then_ HT.out.1.1 hb
    clear hb FC p0 p1 p2
    go_wp2_with fail
    go_ret
    exact ⟨by rw [E.out]; try rfl, HB.out⟩
  | true =>
  have HF : Hid (freeB p.name = true) := hf
  rw [hf] at FC
  clear hf
  go_wp2_with fail
  refine (FC.out _).mono ?_
  rintro e w2 ⟨he, hb⟩
  subst he
  have H2 : Hid (Lp w w2 q n t p) := HT.out.on hb
  clear hb FC HT p0 p1 p2
  go_wp2_with fail
  go_loopw [6] (fun v wr => ∃ i : Nat, v = .int .i64 (i : Int) ∧ i ≤ j ∧ Hid (Lp w wr q n t p ∧ ∀ i', i' < i → eqS (placeNm n i') (placeNm n j) = false)) (fun v _ => j - (intOf v).toNat)
  case atStart => exact ⟨0, rfl, by omega, H2.out, fun i hi => absurd hi (Nat.not_lt_zero _)⟩
  case round =>
    clear H2
    obtain ⟨i, rfl, hi, HI⟩ := hrel
    obtain ⟨c0, c1, c2, c3, c4⟩ := HI.out.1.1.2.1
    obtain ⟨p0, p1, p2⟩ := HI.out.1.2.1
    by_cases hij : i < j
    · have hij' : (i : Int) < j := by omega
      have hin' : (i : Int) < n.places.length := by omega
      obtain ⟨b2, off2, ha2, ⟨r0, _, _⟩, _⟩ := HI.out.1.1.2.2.place (k := i) (by omega)
      rw [ha2] at c1
      obtain ⟨s, hs⟩ : ∃ s, s = (n.places.getD i nilPl).name := ⟨_, rfl⟩
      rw [← hs] at r0
      have DN : Hid (∀ m, Below wr.heap.size wr (wr.drewN m)) := fun m => below_drewN (Below.refl _ _) _
      have EQ : Hid (eqS (placeNm n i) (placeNm n j) = (s.toList == p.name.toList)) := by unfold Hid eqS placeNm; rw [← hs, ← HPE.out.1]
      clear hs ha2
      cases hq : (s.toList == p.name.toList) with
      | true =>
        have E : Hid (placeT n (j : Int) = 5) := E0.out.trans (placeF_5 HPE.out.1 HF.out (twiceB_yes hij (EQ.out.trans hq)))
        have HB : Hid (Below w.heap.size w wr) := HI.out.1.1.1
        clear c0 c2 c3 c4 p1 p2
        go_wp2_with fail
        go_quiet (fail)
        go_wp2_with fail
        go_ret
        exact ⟨by rw [E.out]; try rfl, then_ HB.out (DN.out _)⟩
      | false =>
        have NX : Hid (∀ i', i' < i + 1 → eqS (placeNm n i') (placeNm n j) = false) := fun i' hi' => by
          rcases Nat.lt_succ_iff_lt_or_eq.1 hi' with g | g
          · exact HI.out.2 i' g
          · rw [g]; exact EQ.out.trans hq
        clear c0 c2 c3 c4 p1 p2
        go_wp2_with fail
        go_quiet (fail)
        go_wp2_with fail
        go_roundw
        case rel => first | exact ⟨i + 1, by simp, by omega, HI.out.1.on (DN.out _), NX.out⟩ | exact ⟨_, _, ⟨i + 1, by go_num, by omega, HI.out.1.on (DN.out _), NX.out⟩, rfl, rfl⟩
        all_goals (simp [intOf]; omega)
    · have hij' : ¬ (i : Int) < j := by omega
      have HTW : Hid (twiceB j (placeNm n) = false) := twiceB_no fun i' hi' => HI.out.2 i' (by omega)
      have H3 : Hid (Lp w wr q n t p) := HI.out.1
      have IC : Hid (∀ W, Calls Tryz.prog 44 #[.agg #[.slice n.ca n.cols.length n.cc, .slice n.pa n.places.length n.pc, .slice n.ta n.tasks.length n.tc, .int .i64 n.frm, .int .i64 n.too], .int .i64 p.colour] W fun e w' => e = .returned (.bool (inB p.colour n.cols.length)) ∧ Below W.heap.size W w') := fun W => risColour_any n p.colour W
      clear HI
      cases hic : inB p.colour n.cols.length with
      | false =>
        have E : Hid (placeT n (j : Int) = 3) := E0.out.trans (placeF_3 HPE.out.1 HF.out HTW.out hic)
        rw [hic] at IC
        go_wp2_with fail
        refine (IC.out _).mono ?_
        rintro e w3 ⟨he, hb⟩
        subst he
        have HB : Hid (Below w.heap.size w w3) := then_ H3.out.1.1 hb
        clear hb IC c0 c1 c2 c3 c4 p0 p1 p2
        go_wp2_with fail
        go_ret
        exact ⟨by rw [E.out]; try rfl, HB.out⟩
      | true =>
      have HIC : Hid (inB p.colour n.cols.length = true) := hic
      rw [hic] at IC
      clear hic
      go_wp2_with fail
      refine (IC.out _).mono ?_
      rintro e w3 ⟨he, hb⟩
      subst he
      have H4 : Hid (Lp w w3 q n t p) := H3.out.on hb
      clear hb IC c0 c1 c2 c3 c4 p0 p1 p2 H3
      obtain ⟨p0, p1, p2⟩ := H4.out.2.1
      have RC : Hid (Calls Tryz.prog 45 #[.slice p.fa p.first.length p.fc] w3 fun e w' => e = .returned (.bool (Bag.rightB p.first)) ∧ ∃ m, w' = w3.drewN m) := Bag.rright_q _ _ _ _ w3 H4.out.2.2.2 HPE.out.2
      cases hri : Bag.rightB p.first with
      | false =>
        have E : Hid (placeT n (j : Int) = 1) := E0.out.trans (placeF_r HPE.out.1 HF.out HTW.out HIC.out hri)
        rw [hri] at RC
        go_wp2_with fail
        refine RC.out.mono ?_
        rintro e w4 ⟨he, m, hw⟩
        subst he
        have HB : Hid (Below w.heap.size w w4) := by rw [hw]; exact below_drewN H4.out.1.1 _
        clear hw RC p0 p1 p2
        go_wp2_with fail
        go_ret
        exact ⟨by rw [E.out]; try rfl, HB.out⟩
      | true =>
      have HRI : Hid (Bag.rightB p.first = true) := hri
      rw [hri] at RC
      clear hri
      go_wp2_with fail
      refine RC.out.mono ?_
      rintro e w4 ⟨he, m, hw⟩
      subst he
      have H5 : Hid (Lp w w4 q n t p) := by rw [hw]; exact H4.out.on (below_drewN (Below.refl _ _) _)
      clear hw RC p0 p1 p2 H4
      have HPL : Hid (∀ e, (if lastB n p then (8 : Int) else 0) = e → placeT n (j : Int) = e) := fun e he => (E0.out.trans (placeF_l HPE.out.1 HF.out HTW.out HIC.out HRI.out)).trans he
      have hfl : p.first.length ≤ 1000000 := HPE.out.2
      obtain ⟨sz, hsz⟩ : ∃ sz, sz = Colour.sizeF n.cols p.colour := ⟨_, rfl⟩
      have HSZ : Hid (sz = Colour.sizeF n.cols p.colour) := hsz
      clear hsz
      go_wp2_with fail
      go_loopw [7] (fun v wv => ∃ i : Nat, v = .int .i64 (i : Int) ∧ i ≤ p.first.length ∧ Hid (Lp w wv q n t p ∧ ∀ i', i' < i → ¬ sz ≤ (p.first.getD i' Bag.zr).1)) (fun v _ => p.first.length - (intOf v).toNat)
      case atStart => exact ⟨0, rfl, by omega, H5.out, fun i hi => absurd hi (Nat.not_lt_zero _)⟩
      case round =>
        clear H5
        obtain ⟨i, rfl, hi, HK⟩ := hrel
        obtain ⟨c0, c1, c2, c3, c4⟩ := HK.out.1.1.2.1
        obtain ⟨p0, p1, p2⟩ := HK.out.1.2.1
        by_cases hil : i < p.first.length
        · have hil' : (i : Int) < p.first.length := by omega
          obtain ⟨bf, of, haf, hblf, hat⟩ := HK.out.1.2.2.2.row (k := i) hil
          obtain ⟨r0, _⟩ := hat i hil
          rw [haf] at p2
          obtain ⟨mv, hmv⟩ : ∃ mv, mv = (p.first.getD i Bag.zr).1 := ⟨_, rfl⟩
          rw [← hmv] at r0
          have HMV : Hid (mv = (p.first.getD i Bag.zr).1) := hmv
          have SC : Hid (∀ wx, Below wr.heap.size wr wx → Calls Tryz.prog 46 #[.slice n.ca n.cols.length n.cc, .int .i64 p.colour] wx fun e w' => e = .returned (.int .i64 sz) ∧ Below wr.heap.size wr w') := fun wx hx => (rsize2_any n.ca n.cc n.cols p.colour wx (HK.out.1.1.2.2.2.1.below hx) HM.out.2.2.2).mono fun e w' h => ⟨by rw [HSZ.out]; exact h.1, then_ hx h.2⟩
          have HC4 : Hid (wr.cell? ⟨t, 2, none⟩ = some (.slice (some ⟨bf, of, none⟩) p.first.length p.fc) ∧ wr.cell? ⟨t, 1, none⟩ = some (.int .i64 p.colour) ∧ wr.cell? ⟨bf, of + i * 2, none⟩ = some (.int .i64 mv) ∧ wr.cell? ⟨q, 0, none⟩ = some (.slice n.ca n.cols.length n.cc)) := ⟨p2, p1, r0, c0⟩
          clear hmv haf hat c1 c2 c3 c4 p0
          go_wp2_with fail
          go_region_held3 (fun w' => w'.cell? ⟨t, 2, none⟩ = some (.slice (some ⟨bf, of, none⟩) p.first.length p.fc) ∧ w'.cell? ⟨t, 1, none⟩ = some (.int .i64 p.colour) ∧ w'.cell? ⟨bf, of + i * 2, none⟩ = some (.int .i64 mv) ∧ w'.cell? ⟨q, 0, none⟩ = some (.slice n.ca n.cols.length n.cc)) (go_keep)
            (first | (go_at_call 46; refine (SC.out _ (by exact (Below.refl _ _).drew)).mono ?_; rintro e w5 ⟨he, hb5⟩; subst he; have g1 := box_below HC4.out.1 hb5; have g2 := box_below HC4.out.2.1 hb5; have g3 := box_below HC4.out.2.2.1 hb5; have g4 := box_below HC4.out.2.2.2 hb5))
          have N5 : Hid (Lp w w5 q n t p) := HK.out.1.on hb5
          clear g1 g2 g3 g4 hb5 p2 p1 r0 c0 SC HC4
          by_cases hge : sz ≤ mv
          · have E : Hid (placeT n (j : Int) = 8) := HPL.out 8 (by rw [lastB_yes HRI.out hil (by rw [← HSZ.out, ← HMV.out]; exact hge)]; rfl)
            have HB : Hid (Below w.heap.size w w5) := N5.out.1.1
            have hge' : decide (sz ≤ mv) = true := decide_eq_true hge
            go_wp2_with fail
            go_ret
            exact ⟨by rw [E.out]; try rfl, HB.out⟩
          · have NX : Hid (∀ i', i' < i + 1 → ¬ sz ≤ (p.first.getD i' Bag.zr).1) := fun i' hi' => by
              rcases Nat.lt_succ_iff_lt_or_eq.1 hi' with g | g
              · have := HK.out.2 i' g; omega
              · rw [g, ← HMV.out]; exact hge
            have hge' : decide (sz ≤ mv) = false := decide_eq_false hge
            go_wp2_with fail
            go_roundw
            case rel => first | exact ⟨i + 1, by simp, by omega, N5.out, NX.out⟩ | exact ⟨_, _, ⟨i + 1, by go_num, by omega, N5.out, NX.out⟩, rfl, rfl⟩
            all_goals (simp [intOf]; omega)
        · have hil' : ¬ (i : Int) < p.first.length := by omega
          have E : Hid (placeT n (j : Int) = 0) := HPL.out 0 (by rw [lastB_no fun i' hi' => by rw [← HSZ.out]; exact HK.out.2 i' (by omega)]; rfl)
          have HB : Hid (Below w.heap.size w wr) := HK.out.1.1.1
          go_wp2_with fail
          go_ret
          exact ⟨by rw [E.out]; try rfl, HB.out⟩
end Go.Proofs.YtgdkomkflfodaaaGreat.Check
