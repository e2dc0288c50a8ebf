/- The ways through ExprCopies, over the turned program. -/
import Derived.Test.YtligologdfgggaaDoorExCopies0
import Derived.Deep.RegionLaw
namespace Go.Proofs.YtligologdfgggaaDoor.Expr
open Go.RowKit Go.Proofs.YtligologdfgggaaDoor.Frame Go.Proofs.YtligologdfgggaaDoor.Calc
set_option linter.unusedVariables false
set_option linter.unusedSimpArgs false

set_option maxRecDepth 100000 in
set_option maxHeartbeats 40000000 in
theorem copies_3a (t y : Ex) (a b : Option Addr) (c d : Nat) (k : Int) (w : World) (hx : X w t a) (hy : X w y b) (hT : Lib.TabIs Tryd.prog w tabName .u64 Lib.pow10Tab) (ht : fewB t = true) (hf : fewB y = true) (hdd : Hid (depthF t = 1)) :
    Calls Tryd.prog 3 #[exV t a c, .int .i64 k, exV y b d] w fun e w' => e = .returned (.bool true) ∧ Below w.heap.size w w' := by
  have KB : Hid (Bs _ w.heap.size (w.heap.size + 1) t y a b c d _) := bs_two w t y a b c d
  have B0 : Hid (Below w.heap.size w ((w.alloc (.cells #[.int .i64 t.kind, .int .i64 t.num, .slice a t.kids.length c] 24)).alloc (.cells #[.int .i64 y.kind, .int .i64 y.num, .slice b y.kids.length d] 24))) := two_al _ _ _
  have HX : Hid (X ((w.alloc (.cells #[.int .i64 t.kind, .int .i64 t.num, .slice a t.kids.length c] 24)).alloc (.cells #[.int .i64 y.kind, .int .i64 y.num, .slice b y.kids.length d] 24)) t a) := hx.below B0.out
  have HY : Hid (X ((w.alloc (.cells #[.int .i64 t.kind, .int .i64 t.num, .slice a t.kids.length c] 24)).alloc (.cells #[.int .i64 y.kind, .int .i64 y.num, .slice b y.kids.length d] 24)) y b) := hy.below B0.out
  have T0 : Hid (Lib.TabBelow Tryd.prog ((w.alloc (.cells #[.int .i64 t.kind, .int .i64 t.num, .slice a t.kids.length c] 24)).alloc (.cells #[.int .i64 y.kind, .int .i64 y.num, .slice b y.kids.length d] 24)).heap.size _ tabName .u64 Lib.pow10Tab) := Lib.tabBelow_of_tabIs (Lib.tabBelow_of_tabIs hT _ B0.out)
  have Ft : Hid (fewB t = true) := ht
  have Fy : Hid (fewB y = true) := hf
  have ST : Hid (sizeF t ≤ 1000000) := Nat.le_trans (fewB_size ht) (by decide)
  have SY : Hid (sizeF y ≤ 1000000) := Nat.le_trans (fewB_size hf) (by decide)
  have SP : Hid (sizeF (putF k y t) ≤ 1000000) := by
    have h1 := size_put k y t
    have h2 := Nat.mul_le_mul (fewB_size ht) (fewB_size hf)
    unfold Hid; omega
  have HE : Hid (In64 t.num) := hx.root.2
  clear hx hy hT ht hf
  go_enter Tryd.func3, Tryd.ntmps3
  go_wp2_with fail
  refine (Bs.call (by first | exact KB.out | exact KB.out.al _ | exact (KB.out.al _).al _) (fun hb => small_any _ (Lib.tabBelow_of_tabIs (T0.out _ hb)))).mono ?_
  clear KB
  rintro e w1 ⟨he, KB, ⟨⟨b0, b1, b2⟩, bl⟩, ⟨d0, d1, d2⟩, dl⟩
  subst he
  go_wp2_with fail
  refine (Bs.call (by first | exact KB.out | exact KB.out.al _ | exact (KB.out.al _).al _) (fun hb => Few_any t _ a c (HX.out.below hb))).mono ?_
  clear KB b0 b1 b2 bl d0 d1 d2 dl
  rintro e w2 ⟨he, KB, ⟨⟨b0, b1, b2⟩, bl⟩, ⟨d0, d1, d2⟩, dl⟩
  rw [Ft.out] at he
  subst he
  go_wp2_with fail
  refine (Bs.call (by first | exact KB.out | exact KB.out.al _ | exact (KB.out.al _).al _) (fun hb => Few_any y _ b d (HY.out.below hb))).mono ?_
  clear KB b0 b1 b2 bl d0 d1 d2 dl
  rintro e w3 ⟨he, KB, ⟨⟨b0, b1, b2⟩, bl⟩, ⟨d0, d1, d2⟩, dl⟩
  rw [Fy.out] at he
  subst he
  have Z3 : Hid (((w.alloc (.cells #[.int .i64 t.kind, .int .i64 t.num, .slice a t.kids.length c] 24)).alloc (.cells #[.int .i64 y.kind, .int .i64 y.num, .slice b y.kids.length d] 24)).heap.size ≤ w3.heap.size) := KB.out.1.size
  go_wp2_with fail
  refine (Bs.call (by first | exact KB.out | exact KB.out.al _ | exact (KB.out.al _).al _) (fun hb => copy_call (HX.out.below hb) ST.out)).mono ?_
  clear KB b0 b1 b2 bl d0 d1 d2 dl
  rintro e w4 ⟨⟨ac, cc, he, hxc⟩, KB, ⟨⟨b0, b1, b2⟩, bl⟩, ⟨d0, d1, d2⟩, dl⟩
  subst he
  have HC : Hid (XO w3.heap.size w4 t ac) := hxc
  have Z4 : Hid (((w.alloc (.cells #[.int .i64 t.kind, .int .i64 t.num, .slice a t.kids.length c] 24)).alloc (.cells #[.int .i64 y.kind, .int .i64 y.num, .slice b y.kids.length d] 24)).heap.size ≤ w4.heap.size) := KB.out.1.size
  clear hxc
  go_wp2_with fail
  refine (Bs.call (by first | exact KB.out | exact KB.out.al _ | exact (KB.out.al _).al _) (fun hb => put_call (HX.out.below hb) (HY.out.below hb) ST.out SY.out)).mono ?_
  clear KB b0 b1 b2 bl d0 d1 d2 dl
  rintro e w5 ⟨⟨ap, cp, he, hxp, hbp⟩, KB, ⟨⟨b0, b1, b2⟩, bl⟩, ⟨d0, d1, d2⟩, dl⟩
  subst he
  have hcC : Cell3 (w5.alloc (.cells #[.int .i64 (putF k y t).kind, .int .i64 (putF k y t).num, .slice ap (putF k y t).kids.length cp] 24)) w4.heap.size (.int .i64 t.kind) (.int .i64 t.num) (.slice ac t.kids.length cc) := ((cell3_new w4 _ _ _ _).below hbp).below (al1 _ _)
  have hcP : Cell3 (w5.alloc (.cells #[.int .i64 (putF k y t).kind, .int .i64 (putF k y t).num, .slice ap (putF k y t).kids.length cp] 24)) w5.heap.size (.int .i64 (putF k y t).kind) (.int .i64 (putF k y t).num) (.slice ap (putF k y t).kids.length cp) := cell3_new w5 _ _ _ _
  have HCU : Hid (XO w3.heap.size (w5.alloc (.cells #[.int .i64 (putF k y t).kind, .int .i64 (putF k y t).num, .slice ap (putF k y t).kids.length cp] 24)) t ac) := ((HC.out.below (al1 _ _)).below hbp).below (al1 _ _)
  have HPU : Hid (XO (w4.alloc (.cells #[.int .i64 t.kind, .int .i64 t.num, .slice ac t.kids.length cc] 24)).heap.size (w5.alloc (.cells #[.int .i64 (putF k y t).kind, .int .i64 (putF k y t).num, .slice ap (putF k y t).kids.length cp] 24)) (putF k y t) ap) := XO.below hxp (al1 _ _)
  have KU : Hid (Bs _ _ _ t y a b c d (w5.alloc (.cells #[.int .i64 (putF k y t).kind, .int .i64 (putF k y t).num, .slice ap (putF k y t).kids.length cp] 24))) := KB.out.al _
  have F4 : Hid (C4 w.heap.size (w.heap.size + 1) w4.heap.size w5.heap.size t y (putF k y t) a b ac ap c d cc cp t.num (w5.alloc (.cells #[.int .i64 (putF k y t).kind, .int .i64 (putF k y t).num, .slice ap (putF k y t).kids.length cp] 24))) := ⟨KU.out.2.1.1, KU.out.2.2.1, hcC, hcP⟩
  have XT : Hid (X (w5.alloc (.cells #[.int .i64 (putF k y t).kind, .int .i64 (putF k y t).num, .slice ap (putF k y t).kids.length cp] 24)) t a) := HX.out.below KU.out.1
  have XY : Hid (X (w5.alloc (.cells #[.int .i64 (putF k y t).kind, .int .i64 (putF k y t).num, .slice ap (putF k y t).kids.length cp] 24)) y b) := HY.out.below KU.out.1
  have XC : Hid (X (w5.alloc (.cells #[.int .i64 (putF k y t).kind, .int .i64 (putF k y t).num, .slice ap (putF k y t).kids.length cp] 24)) t ac) := HCU.out.x
  have XP : Hid (X (w5.alloc (.cells #[.int .i64 (putF k y t).kind, .int .i64 (putF k y t).num, .slice ap (putF k y t).kids.length cp] 24)) (putF k y t) ap) := HPU.out.x
  clear hbp HC hxp
  clear KB b0 b1 b2 bl d0 d1 d2 dl
  obtain ⟨⟨b0, b1, b2⟩, ⟨d0, d1, d2⟩, ⟨e0, e1, e2⟩, f0, f1, f2⟩ := F4.out
  go_upto_region 8 with (fail)
  go_cut [12] from 14 (fun s wd => s = .bool true ∧ Hid (Below (w5.alloc (.cells #[.int .i64 (putF k y t).kind, .int .i64 (putF k y t).num, .slice ap (putF k y t).kids.length cp] 24)).heap.size (w5.alloc (.cells #[.int .i64 (putF k y t).kind, .int .i64 (putF k y t).num, .slice ap (putF k y t).kids.length cp] 24)) wd))
  case first =>
    have K : Hid (Below (w5.alloc (.cells #[.int .i64 (putF k y t).kind, .int .i64 (putF k y t).num, .slice ap (putF k y t).kids.length cp] 24)).heap.size (w5.alloc (.cells #[.int .i64 (putF k y t).kind, .int .i64 (putF k y t).num, .slice ap (putF k y t).kids.length cp] 24)) (w5.alloc (.cells #[.int .i64 (putF k y t).kind, .int .i64 (putF k y t).num, .slice ap (putF k y t).kids.length cp] 24)).drew) := (Below.refl _ _).drew
    clear HCU HPU KU B0 HX HY T0 Ft Fy HE hcC hcP
    go_region_held3 (fun w' => (w'.cell? ⟨w.heap.size, 0, none⟩ = some (.int .i64 t.kind) ∧ w'.cell? ⟨w.heap.size, 1, none⟩ = some (.int .i64 t.num) ∧ w'.cell? ⟨w.heap.size, 2, none⟩ = some (.slice a t.kids.length c)) ∧ (w'.cell? ⟨w.heap.size + 1, 0, none⟩ = some (.int .i64 y.kind) ∧ w'.cell? ⟨w.heap.size + 1, 1, none⟩ = some (.int .i64 y.num) ∧ w'.cell? ⟨w.heap.size + 1, 2, none⟩ = some (.slice b y.kids.length d)) ∧ (w'.cell? ⟨w4.heap.size, 0, none⟩ = some (.int .i64 t.kind) ∧ w'.cell? ⟨w4.heap.size, 1, none⟩ = some (.int .i64 t.num) ∧ w'.cell? ⟨w4.heap.size, 2, none⟩ = some (.slice ac t.kids.length cc)) ∧ (w'.cell? ⟨w5.heap.size, 0, none⟩ = some (.int .i64 (putF k y t).kind) ∧ w'.cell? ⟨w5.heap.size, 1, none⟩ = some (.int .i64 (putF k y t).num) ∧ w'.cell? ⟨w5.heap.size, 2, none⟩ = some (.slice ap (putF k y t).kids.length cp))) (go_keep)
      (first
        | (go_at_call 11; refine (c4_call K.out F4.out (fun hb => alike_call (same_any _ _ _ _ _ _ _ (by first | exact XT.out.below hb | exact XY.out.below hb | exact XC.out.below hb | exact XP.out.below hb | exact XR.out) (by first | exact XT.out.below hb | exact XY.out.below hb | exact XC.out.below hb | exact XP.out.below hb | exact XR.out) (by first | exact ST.out | exact SY.out | exact SP.out) (by first | exact ST.out | exact SY.out | exact SP.out)))).mono ?_; clear K b0 b1 b2 d0 d1 d2 e0 e1 e2 f0 f1 f2; rintro e wx ⟨⟨bb, he, hs⟩, K, ⟨b0, b1, b2⟩, ⟨d0, d1, d2⟩, ⟨e0, e1, e2⟩, f0, f1, f2⟩; subst he; try (have hbt := hs.out.2 rfl; subst hbt))
        | (go_at_call 12; refine (c4_call K.out F4.out (fun hb => alike_call (rsame_any _ _ _ _ _ _ _ (by first | exact XT.out.below hb | exact XY.out.below hb | exact XC.out.below hb | exact XP.out.below hb | exact XR.out) (by first | exact XT.out.below hb | exact XY.out.below hb | exact XC.out.below hb | exact XP.out.below hb | exact XR.out) (by first | exact ST.out | exact SY.out | exact SP.out) (by first | exact ST.out | exact SY.out | exact SP.out)))).mono ?_; clear K b0 b1 b2 d0 d1 d2 e0 e1 e2 f0 f1 f2; rintro e wx ⟨⟨bb, he, hr⟩, K, ⟨b0, b1, b2⟩, ⟨d0, d1, d2⟩, ⟨e0, e1, e2⟩, f0, f1, f2⟩; subst he; first | (have hbt := hr.out.2 rfl; subst hbt) | (have hbt := bool_eq hr.out hs.out; subst hbt))
        | (go_at_call 13; refine (c4_call K.out F4.out (fun hb => rput_call (XT.out.below hb) (XY.out.below hb) ST.out)).mono ?_; clear K b0 b1 b2 d0 d1 d2 e0 e1 e2 f0 f1 f2; rintro e wx ⟨⟨ar, cr, he, XR⟩, K, ⟨b0, b1, b2⟩, ⟨d0, d1, d2⟩, ⟨e0, e1, e2⟩, f0, f1, f2⟩; subst he))
    all_goals
      go_wp2_with fail
      go_meet
      first | exact ⟨rfl, K⟩ | exact ⟨by simp, K⟩
  case rest =>
  obtain ⟨rfl, K⟩ := hcut
  have KW : Hid (Below ((w.alloc (.cells #[.int .i64 t.kind, .int .i64 t.num, .slice a t.kids.length c] 24)).alloc (.cells #[.int .i64 y.kind, .int .i64 y.num, .slice b y.kids.length d] 24)).heap.size ((w.alloc (.cells #[.int .i64 t.kind, .int .i64 t.num, .slice a t.kids.length c] 24)).alloc (.cells #[.int .i64 y.kind, .int .i64 y.num, .slice b y.kids.length d] 24)) wc) := KU.out.1.trans (K.out.mono KU.out.1.size)
  have SoP : Hid (XSo ((w.alloc (.cells #[.int .i64 t.kind, .int .i64 t.num, .slice a t.kids.length c] 24)).alloc (.cells #[.int .i64 y.kind, .int .i64 y.num, .slice b y.kids.length d] 24)).heap.size wc (putF k y t) ap) := ((HPU.out.below K.out).le (by have := Z4.out; simp at this ⊢; omega)).so
  have SoC : Hid (XSo ((w.alloc (.cells #[.int .i64 t.kind, .int .i64 t.num, .slice a t.kids.length c] 24)).alloc (.cells #[.int .i64 y.kind, .int .i64 y.num, .slice b y.kids.length d] 24)).heap.size wc t ac) := ((HCU.out.below K.out).le Z3.out).so
  clear b0 b1 b2 d0 d1 d2 e0 e1 e2 f0 f1 f2
  obtain ⟨⟨b0, b1, b2⟩, ⟨d0, d1, d2⟩, hcC2, f0, f1, f2⟩ := F4.out.below K.out
  replace hcC2 : Hid (Cell3 wc w4.heap.size (.int .i64 t.kind) (.int .i64 t.num) (.slice ac t.kids.length cc)) := hcC2
  clear F4 XT XY XC XP HCU HPU KU hcC hcP K
  go_wp2_with fail
  refine (spoil_any ((w.alloc (.cells #[.int .i64 t.kind, .int .i64 t.num, .slice a t.kids.length c] 24)).alloc (.cells #[.int .i64 y.kind, .int .i64 y.num, .slice b y.kids.length d] 24)).heap.size (putF k y t) wc ap cp (putF k y t).num SoP.out KW.out.size SP.out).mono ?_
  rintro e w9 ⟨he, hsp⟩
  subst he
  clear b0 b1 b2 d0 d1 d2 f0 f1 f2
  obtain ⟨z1, hz1, e0, e1, e2⟩ := box_sp hcC2.out HE.out hsp
  have KW9 : Hid (Below ((w.alloc (.cells #[.int .i64 t.kind, .int .i64 t.num, .slice a t.kids.length c] 24)).alloc (.cells #[.int .i64 y.kind, .int .i64 y.num, .slice b y.kids.length d] 24)).heap.size ((w.alloc (.cells #[.int .i64 t.kind, .int .i64 t.num, .slice a t.kids.length c] 24)).alloc (.cells #[.int .i64 y.kind, .int .i64 y.num, .slice b y.kids.length d] 24)) w9) := KW.out.trans hsp.1
  have SoC9 : Hid (XSo ((w.alloc (.cells #[.int .i64 t.kind, .int .i64 t.num, .slice a t.kids.length c] 24)).alloc (.cells #[.int .i64 y.kind, .int .i64 y.num, .slice b y.kids.length d] 24)).heap.size w9 t ac) := SoC.out.sp hsp
  clear hsp SoC SoP KW hcC2
  go_wp2_with fail
  refine (spoil_any ((w.alloc (.cells #[.int .i64 t.kind, .int .i64 t.num, .slice a t.kids.length c] 24)).alloc (.cells #[.int .i64 y.kind, .int .i64 y.num, .slice b y.kids.length d] 24)).heap.size t w9 ac cc z1 SoC9.out KW9.out.size ST.out).mono ?_
  rintro e w10 ⟨he, hsp⟩
  subst he
  obtain ⟨z2, hz2, hcC3⟩ := box_sp (show Cell3 w9 w4.heap.size _ _ _ from ⟨e0, e1, e2⟩) hz1 hsp
  have KB : Hid (Bs _ w.heap.size (w.heap.size + 1) t y a b c d w10) := Bs.to (bs_two w t y a b c d) (KW9.out.trans hsp.1)
  have SoC10 : Hid (XSo ((w.alloc (.cells #[.int .i64 t.kind, .int .i64 t.num, .slice a t.kids.length c] 24)).alloc (.cells #[.int .i64 y.kind, .int .i64 y.num, .slice b y.kids.length d] 24)).heap.size w10 t ac) := SoC9.out.sp hsp
  obtain ⟨tc, g1, g2, g3, g4, g5⟩ := XSh.real z2 hz2 SoC10.out
  have EC : Hid (tc.kind = t.kind ∧ tc.num = z2 ∧ tc.kids.length = t.kids.length) := ⟨g1, g2, g3⟩
  have STC : Hid (sizeF tc ≤ 1000000) := by rw [Hid, g4]; exact ST.out
  have HCC : Hid (Cell3 w10 w4.heap.size (.int .i64 t.kind) (.int .i64 z2) (.slice ac t.kids.length cc) ∧ X w10 tc ac) := ⟨hcC3, g5⟩
  clear hsp SoC9 SoC10 KW9 e0 e1 e2 hcC3 g1 g2 g3 g4 g5 hz1 hz2
  obtain ⟨⟨⟨b0, b1, b2⟩, bl⟩, ⟨d0, d1, d2⟩, dl⟩ := KB.out.cells
  go_wp2_with fail
  refine (Bs.call (by first | exact KB.out | exact KB.out.al _ | exact (KB.out.al _).al _) (fun hb => put_call (HX.out.below hb) (HY.out.below hb) ST.out SY.out)).mono ?_
  clear KB b0 b1 b2 bl d0 d1 d2 dl
  rintro e w11 ⟨⟨a2, c2, he, hx2, hb2⟩, KB, ⟨⟨b0, b1, b2⟩, bl⟩, ⟨d0, d1, d2⟩, dl⟩
  subst he
  have KU : Hid (Bs _ _ _ t y a b c d (w11.alloc (.cells #[.int .i64 (putF k y t).kind, .int .i64 (putF k y t).num, .slice a2 (putF k y t).kids.length c2] 24))) := KB.out.al _
  have F4 : Hid (C4 w.heap.size (w.heap.size + 1) w4.heap.size w11.heap.size t y (putF k y t) a b ac a2 c d cc c2 z2 (w11.alloc (.cells #[.int .i64 (putF k y t).kind, .int .i64 (putF k y t).num, .slice a2 (putF k y t).kids.length c2] 24))) := ⟨KU.out.2.1.1, KU.out.2.2.1, (HCC.out.1.below hb2).below (al1 _ _), cell3_new w11 _ _ _ _⟩
  have XT : Hid (X (w11.alloc (.cells #[.int .i64 (putF k y t).kind, .int .i64 (putF k y t).num, .slice a2 (putF k y t).kids.length c2] 24)) t a) := HX.out.below KU.out.1
  have XY : Hid (X (w11.alloc (.cells #[.int .i64 (putF k y t).kind, .int .i64 (putF k y t).num, .slice a2 (putF k y t).kids.length c2] 24)) y b) := HY.out.below KU.out.1
  have XC : Hid (X (w11.alloc (.cells #[.int .i64 (putF k y t).kind, .int .i64 (putF k y t).num, .slice a2 (putF k y t).kids.length c2] 24)) tc ac) := (HCC.out.2.below hb2).below (al1 _ _)
  have XP : Hid (X (w11.alloc (.cells #[.int .i64 (putF k y t).kind, .int .i64 (putF k y t).num, .slice a2 (putF k y t).kids.length c2] 24)) (putF k y t) a2) := hx2.x.below (al1 _ _)
  have BE : Hid (Below w.heap.size w (w11.alloc (.cells #[.int .i64 (putF k y t).kind, .int .i64 (putF k y t).num, .slice a2 (putF k y t).kids.length c2] 24))) := bs_end B0.out (KB.out.al _)
  clear hx2 hb2 KB b0 b1 b2 bl d0 d1 d2 dl KU HCC HX HY B0 T0 Ft Fy HE Z3 Z4
  obtain ⟨⟨b0, b1, b2⟩, ⟨d0, d1, d2⟩, ⟨e0, e1, e2⟩, f0, f1, f2⟩ := F4.out
  go_upto_region 12 with (fail)
  have K : Hid (Below (w11.alloc (.cells #[.int .i64 (putF k y t).kind, .int .i64 (putF k y t).num, .slice a2 (putF k y t).kids.length c2] 24)).heap.size (w11.alloc (.cells #[.int .i64 (putF k y t).kind, .int .i64 (putF k y t).num, .slice a2 (putF k y t).kids.length c2] 24)) (w11.alloc (.cells #[.int .i64 (putF k y t).kind, .int .i64 (putF k y t).num, .slice a2 (putF k y t).kids.length c2] 24)).drew) := (Below.refl _ _).drew
  have HD : Hid (depthF t = 1) := hdd
  go_region_law (go_simp; first
      | (go_at_call 11; refine (c4_call K.out F4.out (fun hb => same_as EC.out.1 EC.out.2.1 EC.out.2.2 (XC.out.below hb) (XT.out.below hb) STC.out ST.out)).mono ?_; clear K b0 b1 b2 d0 d1 d2 e0 e1 e2 f0 f1 f2; rintro e wx ⟨⟨bb, he, hs⟩, K, ⟨b0, b1, b2⟩, ⟨d0, d1, d2⟩, ⟨e0, e1, e2⟩, f0, f1, f2⟩; subst he; skip)
      | (go_at_call 12; refine (c4_call K.out F4.out (fun hb => alike_call (rsame_any (putF k y t) (putF k y t) _ a2 _ c2 _ (XP.out.below hb) XR.out SP.out SP.out))).mono ?_; clear K b0 b1 b2 d0 d1 d2 e0 e1 e2 f0 f1 f2; rintro e wx ⟨⟨bb, he, hr⟩, K, ⟨b0, b1, b2⟩, ⟨d0, d1, d2⟩, ⟨e0, e1, e2⟩, f0, f1, f2⟩; subst he; have hbt := hr.out.2 rfl; subst hbt)
      | (go_at_call 13; refine (c4_call K.out F4.out (fun hb => rput_call (XT.out.below hb) (XY.out.below hb) ST.out)).mono ?_; clear K b0 b1 b2 d0 d1 d2 e0 e1 e2 f0 f1 f2; rintro e wx ⟨⟨ar, cr, he, XR⟩, K, ⟨b0, b1, b2⟩, ⟨d0, d1, d2⟩, ⟨e0, e1, e2⟩, f0, f1, f2⟩; subst he)
      | (go_at_call 15; refine (c4_call K.out F4.out (fun hb => depth_any t _ a c (XT.out.below hb) ST.out)).mono ?_; clear K b0 b1 b2 d0 d1 d2 e0 e1 e2 f0 f1 f2; rintro e wx ⟨he, K, ⟨b0, b1, b2⟩, ⟨d0, d1, d2⟩, ⟨e0, e1, e2⟩, f0, f1, f2⟩; rw [HD.out] at he; subst he))
  all_goals
    go_wp2_with fail
    go_ret
    exact ⟨rfl, BE.out.trans (K.out.mono BE.out.size)⟩

end Go.Proofs.YtligologdfgggaaDoor.Expr
