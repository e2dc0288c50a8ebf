/- CheckTells: over the turned program. -/
import Derived.Test.YtgdkomkflfodaaaGreatChkRn
namespace Go.Proofs.YtgdkomkflfodaaaGreat.Check
open Go.Proofs.YtgdkomkflfodaaaGreat.Dag Go.RowKit Go.Proofs.YtgdkomkflfodaaaGreat.Frame Go.Proofs.YtgdkomkflfodaaaGreat.Colour Go.Proofs.YtgdkomkflfodaaaGreat.Expr
set_option linter.unusedVariables false
set_option linter.unusedSimpArgs false

theorem few_sz {t : Ex} (h : fewB t = true) : Expr.sizeF t ≤ 1000000 := by
  have h1 : 0 < fewF t 60 := of_decide_eq_true h
  have := few_size t 60 h1
  omega
theorem FewN.szn {n : Ne} (h : FewN n) : SzN n := fun t ht => by
  obtain ⟨j, hj, he⟩ := mem_getD ht nilTa
  obtain ⟨_, _, _, hg, hi, ho⟩ := h.2.2.2 j hj
  rw [he] at hg hi ho
  refine ⟨few_sz hg, fun x hx => ?_, fun x hx => ?_⟩
  · obtain ⟨i, hi', he'⟩ := mem_getD hx nilAr
    rw [← he']; exact few_sz (hi i hi')
  · obtain ⟨i, hi', he'⟩ := mem_getD hx nilAr
    rw [← he']; exact few_sz (ho i hi')
def Q8 (w : World) (n : Ne) (q p r : Nat) (kd at_ : Int) : Prop := (w.cell? ⟨q, 0, none⟩ = some (.slice n.ca n.cols.length n.cc) ∧ w.cell? ⟨q, 1, none⟩ = some (.slice n.pa n.places.length n.pc) ∧ w.cell? ⟨q, 2, none⟩ = some (.slice n.ta n.tasks.length n.tc) ∧ w.cell? ⟨q, 3, none⟩ = some (.int .i64 n.frm) ∧ w.cell? ⟨q, 4, none⟩ = some (.int .i64 n.too)) ∧ (w.cell? ⟨p, 0, none⟩ = some (.int .i64 kd) ∧ w.cell? ⟨p, 1, none⟩ = some (.int .i64 at_)) ∧ w.cell? ⟨r, 0, none⟩ = some (.int .i64 kd) ∧ w.cell? ⟨r, 1, none⟩ = some (.int .i64 at_)
theorem Q8.below {w w' : World} {n : Ne} {q p r : Nat} {kd at_ : Int} (h : Q8 w n q p r kd at_) (hb : Below w.heap.size w w') : Q8 w' n q p r kd at_ :=
  ⟨⟨box_below h.1.1 hb, box_below h.1.2.1 hb, box_below h.1.2.2.1 hb, box_below h.1.2.2.2.1 hb, box_below h.1.2.2.2.2 hb⟩, ⟨box_below h.2.1.1 hb, box_below h.2.1.2 hb⟩, box_below h.2.2.1 hb, box_below h.2.2.2 hb⟩
theorem tl_call {W0 wx : World} {f : Nat} {args : Array Value} {E : Ending} {n : Ne} {q p r : Nat} {kd at_ : Int} (K : Below W0.heap.size W0 wx) (F : Q8 W0 n q p r kd at_) (hc : Below W0.heap.size W0 wx → Calls Tryz.prog f args wx fun e w' => e = E ∧ Below wx.heap.size wx w') :
    Calls Tryz.prog f args wx fun e w' => e = E ∧ Hid (Below W0.heap.size W0 w') ∧ Q8 w' n q p r kd at_ :=
  (hc K).mono fun e w' h => ⟨h.1, then_ K h.2, F.below (then_ K h.2)⟩

set_option maxRecDepth 100000 in
set_option maxHeartbeats 16000000 in
theorem tells_law (n : Ne) (k : Int) (w : World) (h : NeOk w n) (hl : NeLen n) : Calls Tryz.prog 3 #[.agg #[.slice n.ca n.cols.length n.cc, .slice n.pa n.places.length n.pc, .slice n.ta n.tasks.length n.tc, .int .i64 n.frm, .int .i64 n.too], .int .i64 k] w fun e w' => e = .returned (.bool true) ∧ Below w.heap.size w w' := by
  obtain ⟨q, hq⟩ : ∃ q, q = w.heap.size := ⟨_, rfl⟩
  obtain ⟨wz, hwz⟩ : ∃ wz, wz = w.alloc (.cells #[.slice n.ca n.cols.length n.cc, .slice n.pa n.places.length n.pc, .slice n.ta n.tasks.length n.tc, .int .i64 n.frm, .int .i64 n.too] 26) := ⟨_, rfl⟩
  have HZ : Hid (La w wz q n ∧ NeLen n) := by rw [hwz, hq]; exact ⟨⟨al_ _ _, NBox.new w n _, h.below (al_ _ _)⟩, hl⟩
  clear h hl
  go_enter Tryz.func3, Tryz.ntmps3
  go_upto_region 1 with fail
  rw [← hwz, ← hq]
  clear hwz hq
  go_wp2_with fail
  refine (small_any wz).mono ?_
  rintro e w1 ⟨he, hb⟩
  subst he
  have H1 : Hid (La w w1 q n ∧ NeLen n) := ⟨HZ.out.1.on hb, HZ.out.2⟩
  clear hb HZ
  obtain ⟨c0, c1, c2, c3, c4⟩ := H1.out.1.2.1
  go_wp2_with fail
  refine (netFew_any n w1 H1.out.1.2.2 H1.out.2).mono ?_
  rintro e w2 ⟨b, he, hfew, hb⟩
  subst he
  have H2 : Hid (La w w2 q n ∧ (b = true → FewN n)) := ⟨H1.out.1.on hb, hfew⟩
  clear hb H1 hfew c0 c1 c2 c3 c4
  cases b with
  | false =>
    go_wp2_with fail
    go_ret
    exact ⟨rfl, H2.out.1.1⟩
  | true =>
  have HF : Hid (Sm n ∧ SzN n) := ⟨(H2.out.2 (by simp)).sm, (H2.out.2 (by simp)).szn⟩
  have HL : Hid (La w w2 q n) := H2.out.1
  clear H2
  obtain ⟨c0, c1, c2, c3, c4⟩ := HL.out.2.1
  go_wp2_with fail
  refine (net_any n w2 HL.out.2.2 HF.out.1).mono ?_
  rintro e w3 ⟨kd, at_, er, he, hi, hb⟩
  subst he
  have HI : Hid (NetIs n kd at_ er) := hi
  have HL3 : Hid (La w w3 q n) := HL.out.on hb
  obtain ⟨p, hp⟩ : ∃ p, p = w3.heap.size := ⟨_, rfl⟩
  obtain ⟨w4, hw4⟩ : ∃ w4, w4 = w3.alloc (.cells #[.int .i64 kd, .int .i64 at_] 30) := ⟨_, rfl⟩
  have HL4 : Hid (La w w4 q n ∧ w4.cell? ⟨p, 0, none⟩ = some (.int .i64 kd) ∧ w4.cell? ⟨p, 1, none⟩ = some (.int .i64 at_)) := ⟨HL3.out.on (by rw [hw4]; exact al_ _ _), by rw [hw4]; exact part_new w3 kd at_ p hp _⟩
  clear hi hb HL c0 c1 c2 c3 c4
  go_upto_region 6 with fail
  rw [← hw4, ← hp]
  clear hw4 hp HL3
  obtain ⟨c0, c1, c2, c3, c4⟩ := HL4.out.1.2.1
  go_wp2_with fail
  refine (rNet_any n w4 HL4.out.1.2.2 HF.out.1 HF.out.2).mono ?_
  rintro e w5 ⟨kd', at', er', he, hi, hb⟩
  obtain ⟨rfl, rfl, rfl⟩ := HI.out.uniq hi
  subst he
  have HL5 : Hid (La w w5 q n ∧ w5.cell? ⟨p, 0, none⟩ = some (.int .i64 kd) ∧ w5.cell? ⟨p, 1, none⟩ = some (.int .i64 at_)) := ⟨HL4.out.1.on hb, box_below HL4.out.2.1 hb, box_below HL4.out.2.2 hb⟩
  obtain ⟨r, hr⟩ : ∃ r, r = w5.heap.size := ⟨_, rfl⟩
  obtain ⟨w6, hw6⟩ : ∃ w6, w6 = w5.alloc (.cells #[.int .i64 kd, .int .i64 at_] 30) := ⟨_, rfl⟩
  have h56 : Below w5.heap.size w5 w6 := by rw [hw6]; exact al_ _ _
  have HL6 : Hid (La w w6 q n ∧ Q8 w6 n q p r kd at_) := ⟨HL5.out.1.on h56, (HL5.out.1.on h56).2.1, ⟨box_below HL5.out.2.1 h56, box_below HL5.out.2.2 h56⟩, by rw [hw6]; exact part_new w5 kd at_ r hr _⟩
  clear hi hb HL4 c0 c1 c2 c3 c4 HI h56
  go_upto_region 7 with fail
  rw [← hw6, ← hr]
  clear hw6 hr HL5
  have HN : Hid (NeOk w6 n) := HL6.out.1.2.2
  have HBW : Hid (Below w.heap.size w w6) := HL6.out.1.1
  have F : Hid (Q8 w6 n q p r kd at_) := HL6.out.2
  obtain ⟨⟨c0, c1, c2, c3, c4⟩, ⟨p0, p1⟩, r0, r1⟩ := HL6.out.2
  have K : Hid (Below w6.heap.size w6 w6.drew) := (Below.refl _ _).drew
  obtain ⟨pv, hpv⟩ : ∃ pv, pv = placeT n k := ⟨_, rfl⟩
  obtain ⟨tv, htv⟩ : ∃ tv, tv = taskT n k := ⟨_, rfl⟩
  have PC : Hid (∀ wx, Below w6.heap.size w6 wx → Calls Tryz.prog 11 #[.agg #[.slice n.ca n.cols.length n.cc, .slice n.pa n.places.length n.pc, .slice n.ta n.tasks.length n.tc, .int .i64 n.frm, .int .i64 n.too], .int .i64 k] wx fun e w' => e = .returned (.int .i64 pv) ∧ Below wx.heap.size wx w') := fun wx hx => by rw [hpv]; exact Place_any n k wx (HN.out.below hx) HF.out.1
  have PR : Hid (∀ wx, Below w6.heap.size w6 wx → Calls Tryz.prog 12 #[.agg #[.slice n.ca n.cols.length n.cc, .slice n.pa n.places.length n.pc, .slice n.ta n.tasks.length n.tc, .int .i64 n.frm, .int .i64 n.too], .int .i64 k] wx fun e w' => e = .returned (.int .i64 pv) ∧ Below wx.heap.size wx w') := fun wx hx => by rw [hpv]; exact rPlace_any n k wx (HN.out.below hx) HF.out.1
  have TC : Hid (∀ wx, Below w6.heap.size w6 wx → Calls Tryz.prog 13 #[.agg #[.slice n.ca n.cols.length n.cc, .slice n.pa n.places.length n.pc, .slice n.ta n.tasks.length n.tc, .int .i64 n.frm, .int .i64 n.too], .int .i64 k] wx fun e w' => e = .returned (.int .i64 tv) ∧ Below wx.heap.size wx w') := fun wx hx => by rw [htv]; exact Task_any n k wx (HN.out.below hx) HF.out.1
  have TR : Hid (∀ wx, Below w6.heap.size w6 wx → Calls Tryz.prog 14 #[.agg #[.slice n.ca n.cols.length n.cc, .slice n.pa n.places.length n.pc, .slice n.ta n.tasks.length n.tc, .int .i64 n.frm, .int .i64 n.too], .int .i64 k] wx fun e w' => e = .returned (.int .i64 tv) ∧ Below wx.heap.size wx w') := fun wx hx => by rw [htv]; exact rTask_any n k wx (HN.out.below hx) HF.out.1 HF.out.2
  clear hpv htv HL6
  go_region_held3 (fun w' => ((w'.cell? ⟨q, 0, none⟩ = some (.slice n.ca n.cols.length n.cc) ∧ w'.cell? ⟨q, 1, none⟩ = some (.slice n.pa n.places.length n.pc) ∧ w'.cell? ⟨q, 2, none⟩ = some (.slice n.ta n.tasks.length n.tc) ∧ w'.cell? ⟨q, 3, none⟩ = some (.int .i64 n.frm) ∧ w'.cell? ⟨q, 4, none⟩ = some (.int .i64 n.too)) ∧ (w'.cell? ⟨p, 0, none⟩ = some (.int .i64 kd) ∧ w'.cell? ⟨p, 1, none⟩ = some (.int .i64 at_)) ∧ w'.cell? ⟨r, 0, none⟩ = some (.int .i64 kd) ∧ w'.cell? ⟨r, 1, none⟩ = some (.int .i64 at_))) (go_keep)
    (first
      | (go_at_call 11; refine (tl_call K.out F.out (PC.out _)).mono ?_; clear K c0 c1 c2 c3 c4 p0 p1 r0 r1; rintro e wx ⟨he, K, ⟨c0, c1, c2, c3, c4⟩, ⟨p0, p1⟩, r0, r1⟩; subst he)
      | (go_at_call 12; refine (tl_call K.out F.out (PR.out _)).mono ?_; clear K c0 c1 c2 c3 c4 p0 p1 r0 r1; rintro e wx ⟨he, K, ⟨c0, c1, c2, c3, c4⟩, ⟨p0, p1⟩, r0, r1⟩; subst he)
      | (go_at_call 13; refine (tl_call K.out F.out (TC.out _)).mono ?_; clear K c0 c1 c2 c3 c4 p0 p1 r0 r1; rintro e wx ⟨he, K, ⟨c0, c1, c2, c3, c4⟩, ⟨p0, p1⟩, r0, r1⟩; subst he)
      | (go_at_call 14; refine (tl_call K.out F.out (TR.out _)).mono ?_; clear K c0 c1 c2 c3 c4 p0 p1 r0 r1; rintro e wx ⟨he, K, ⟨c0, c1, c2, c3, c4⟩, ⟨p0, p1⟩, r0, r1⟩; subst he))
  go_wp2_with fail
  go_ret
  exact ⟨rfl, then_ HBW.out K.out⟩
end Go.Proofs.YtgdkomkflfodaaaGreat.Check
