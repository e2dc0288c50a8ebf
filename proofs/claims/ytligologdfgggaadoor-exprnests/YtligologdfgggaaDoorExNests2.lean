/- The main way through ExprNests, over the turned program. -/
import Derived.Test.YtligologdfgggaaDoorExNests1
namespace Go.Proofs.YtligologdfgggaaDoor.Expr
open Go.RowKit Go.Proofs.YtligologdfgggaaDoor.Frame Go.Proofs.YtligologdfgggaaDoor.Calc
set_option linter.unusedVariables false
set_option linter.unusedSimpArgs false

set_option maxRecDepth 100000 in
set_option maxHeartbeats 4000000 in
theorem nests_bad (t y : Ex) (a b : Option Addr) (c d : Nat) (ea : Option Addr) (elen ec : Nat) (zs : List Int) (n z : Int) (w : World) (hx : X w t a) (hy : X w y b) (hz : Nm w ea elen zs) (hT : Lib.TabIs Tryd.prog w tabName .u64 Lib.pow10Tab) (ht : fewB t = true) (hf : fewB y = true) (h2 : ¬ (16 : Int) < elen) (h3 : ¬ (35 : Int) < depthF t) (h4 : ¬ (35 : Int) < depthF y) (h5 : ¬ (120 : Int) < sizeF t) (h6 : ¬ (120 : Int) < sizeF y) (h7 : rightB elen t = true) (h8 : rightB elen y = true) (hv : evalF zs t = (n, z)) (hne : ¬ z = 0) :
    Calls Tryd.prog 6 #[exV t a c, exV y b d, .slice ea elen ec] w fun e w' => e = .returned (.bool true) ∧ Below w.heap.size w w' := by
  have hl := hz.1.1
  have d1 : depthF t ≤ 35 := by omega
  have d2 : depthF y ≤ 35 := by omega
  have s1 : sizeF t ≤ 120 := by omega
  have s2 : sizeF y ≤ 120 := by omega
  have et : valF zs t = evalF zs t := (eval_right hl h7).symm
  have ey : valF zs y = evalF zs y := (eval_right hl h8).symm
  have en : evalF zs (notE t) = valF zs (notE t) := eval_right hl (right_two 4 elen t (.inr rfl) h7 d1 s1)
  have em : evalF zs (negE t) = valF zs (negE t) := eval_right hl (right_two 3 elen t (.inl rfl) h7 d1 s1)
  have ei : evalF zs (ifE t y) = valF zs (ifE t y) := eval_right hl (right_if elen t y h7 h8 d1 s1 d2 s2)
  rw [hv] at et
  have V1 : Hid (evalF zs t = (n, z)) := hv
  have V2 : Hid (evalF zs (notE t) = (0, z)) := en.trans (not_bad zs t n z et hne)
  have V3 : Hid (evalF zs (negE t) = (0, z)) := em.trans (neg_bad zs t n z et hne)
  have V4 : Hid (evalF zs (ifE t y) = (0, z)) := ei.trans (if_bad zs t y n z et hne)
  clear hl d1 d2 s1 s2 et ey en em ei hv
  have KB : Hid (Bs _ w.heap.size (w.heap.size + 1) t y a b c d _) := bs_two w t y a b c d
  have B0 : Hid (Below w.heap.size w ((w.alloc (.cells #[.int .i64 t.kind, .int .i64 t.num, .slice a t.kids.length c] 24)).alloc (.cells #[.int .i64 y.kind, .int .i64 y.num, .slice b y.kids.length d] 24))) := two_al _ _ _
  have HX : Hid (X ((w.alloc (.cells #[.int .i64 t.kind, .int .i64 t.num, .slice a t.kids.length c] 24)).alloc (.cells #[.int .i64 y.kind, .int .i64 y.num, .slice b y.kids.length d] 24)) t a) := hx.below B0.out
  have HY : Hid (X ((w.alloc (.cells #[.int .i64 t.kind, .int .i64 t.num, .slice a t.kids.length c] 24)).alloc (.cells #[.int .i64 y.kind, .int .i64 y.num, .slice b y.kids.length d] 24)) y b) := hy.below B0.out
  have T0 : Hid (Lib.TabBelow Tryd.prog ((w.alloc (.cells #[.int .i64 t.kind, .int .i64 t.num, .slice a t.kids.length c] 24)).alloc (.cells #[.int .i64 y.kind, .int .i64 y.num, .slice b y.kids.length d] 24)).heap.size _ tabName .u64 Lib.pow10Tab) := Lib.tabBelow_of_tabIs (Lib.tabBelow_of_tabIs hT _ B0.out)
  have Ft : Hid (fewB t = true) := ht
  have Fy : Hid (fewB y = true) := hf
  have HZ : Hid (Nm ((w.alloc (.cells #[.int .i64 t.kind, .int .i64 t.num, .slice a t.kids.length c] 24)).alloc (.cells #[.int .i64 y.kind, .int .i64 y.num, .slice b y.kids.length d] 24)) ea elen zs) := hz.below B0.out
  have ST : Hid (sizeF t ≤ 1000000) := Nat.le_trans (fewB_size ht) (by decide)
  have SY : Hid (sizeF y ≤ 1000000) := Nat.le_trans (fewB_size hf) (by decide)
  have RT : Hid (rightB elen t = true) := h7
  have RY : Hid (rightB elen y = true) := h8
  clear hx hy hT ht hf h7 h8
  go_enter Tryd.func6, Tryd.ntmps6
  go_wp2_with fail
  refine (Bs.call (by first | exact KB.out | exact KB.out.al _ | exact (KB.out.al _).al _) (fun hb => small_any _ (Lib.tabBelow_of_tabIs (T0.out _ hb)))).mono ?_
  clear KB
  rintro e w1 ⟨he, KB, ⟨⟨b0, b1, b2⟩, bl⟩, ⟨d0, d1, d2⟩, dl⟩
  subst he
  go_wp2_with fail
  refine (Bs.call (by first | exact KB.out | exact KB.out.al _ | exact (KB.out.al _).al _) (fun hb => Few_any t _ a c (HX.out.below hb))).mono ?_
  clear KB b0 b1 b2 bl d0 d1 d2 dl
  rintro e w2 ⟨he, KB, ⟨⟨b0, b1, b2⟩, bl⟩, ⟨d0, d1, d2⟩, dl⟩
  rw [Ft.out] at he
  subst he
  go_wp2_with fail
  refine (Bs.call (by first | exact KB.out | exact KB.out.al _ | exact (KB.out.al _).al _) (fun hb => Few_any y _ b d (HY.out.below hb))).mono ?_
  clear KB b0 b1 b2 bl d0 d1 d2 dl
  rintro e w3 ⟨he, KB, ⟨⟨b0, b1, b2⟩, bl⟩, ⟨d0, d1, d2⟩, dl⟩
  rw [Fy.out] at he
  subst he
  go_wp2_with fail
  refine (Bs.call (by first | exact KB.out | exact KB.out.al _ | exact (KB.out.al _).al _) (fun hb => depth_any t _ a c (HX.out.below hb) ST.out)).mono ?_
  clear KB b0 b1 b2 bl d0 d1 d2 dl
  rintro e w4 ⟨he, KB, ⟨⟨b0, b1, b2⟩, bl⟩, ⟨d0, d1, d2⟩, dl⟩
  subst he
  go_wp2_with fail
  refine (Bs.call (by first | exact KB.out | exact KB.out.al _ | exact (KB.out.al _).al _) (fun hb => depth_any y _ b d (HY.out.below hb) SY.out)).mono ?_
  clear KB b0 b1 b2 bl d0 d1 d2 dl
  rintro e w5 ⟨he, KB, ⟨⟨b0, b1, b2⟩, bl⟩, ⟨d0, d1, d2⟩, dl⟩
  subst he
  go_wp2_with fail
  refine (Bs.call (by first | exact KB.out | exact KB.out.al _ | exact (KB.out.al _).al _) (fun hb => size_any t _ a c (HX.out.below hb) ST.out)).mono ?_
  clear KB b0 b1 b2 bl d0 d1 d2 dl
  rintro e w6 ⟨he, KB, ⟨⟨b0, b1, b2⟩, bl⟩, ⟨d0, d1, d2⟩, dl⟩
  subst he
  go_wp2_with fail
  refine (Bs.call (by first | exact KB.out | exact KB.out.al _ | exact (KB.out.al _).al _) (fun hb => size_any y _ b d (HY.out.below hb) SY.out)).mono ?_
  clear KB b0 b1 b2 bl d0 d1 d2 dl
  rintro e w7 ⟨he, KB, ⟨⟨b0, b1, b2⟩, bl⟩, ⟨d0, d1, d2⟩, dl⟩
  subst he
  go_wp2_with fail
  refine (Bs.call (by first | exact KB.out | exact KB.out.al _ | exact (KB.out.al _).al _) (fun hb => right_any t _ a c elen (HX.out.below hb))).mono ?_
  clear KB b0 b1 b2 bl d0 d1 d2 dl
  rintro e w8 ⟨he, KB, ⟨⟨b0, b1, b2⟩, bl⟩, ⟨d0, d1, d2⟩, dl⟩
  rw [RT.out] at he
  subst he
  go_wp2_with fail
  refine (Bs.call (by first | exact KB.out | exact KB.out.al _ | exact (KB.out.al _).al _) (fun hb => right_any y _ b d elen (HY.out.below hb))).mono ?_
  clear KB b0 b1 b2 bl d0 d1 d2 dl
  rintro e w9 ⟨he, KB, ⟨⟨b0, b1, b2⟩, bl⟩, ⟨d0, d1, d2⟩, dl⟩
  rw [RY.out] at he
  subst he
  go_wp2_with fail
  refine (Bs.call (by first | exact KB.out | exact KB.out.al _ | exact (KB.out.al _).al _) (fun hb => eval_any zs t _ a ea c elen ec (HX.out.below hb) (HZ.out.below hb))).mono ?_
  clear KB b0 b1 b2 bl d0 d1 d2 dl
  rintro e w10 ⟨he, KB, ⟨⟨b0, b1, b2⟩, bl⟩, ⟨d0, d1, d2⟩, dl⟩
  rw [V1.out] at he
  subst he
  go_wp2_with fail
  refine (Bs.call (by first | exact KB.out | exact KB.out.al _ | exact (KB.out.al _).al _) (fun hb => eval_any zs y _ b ea d elen ec (HY.out.below hb) (HZ.out.below hb))).mono ?_
  clear KB b0 b1 b2 bl d0 d1 d2 dl
  rintro e w11 ⟨he, KB, ⟨⟨b0, b1, b2⟩, bl⟩, ⟨d0, d1, d2⟩, dl⟩
  subst he
  obtain ⟨⟨q1, q2, q3⟩, q4, q5⟩ := nest_facts w11 t y a b c d (HX.out.below KB.out.1) (HY.out.below KB.out.1)
  have HZ2 : Hid (Nm (nestW w11 t y a b c d) ea elen zs) := (HZ.out.below KB.out.1).below q4
  have B1 : Hid (Below w.heap.size w (nestW w11 t y a b c d)) := (bs_end B0.out KB.out).trans (q4.mono (bs_end B0.out KB.out).size)
  have HQ1 : Hid (X (nestW w11 t y a b c d) (notE t) (some ⟨w11.heap.size + 1, 0, none⟩)) := q1
  have HQ2 : Hid (X (nestW w11 t y a b c d) (negE t) (some ⟨w11.heap.size + 1 + 1 + 1 + 1, 0, none⟩)) := q2
  have HQ3 : Hid (X (nestW w11 t y a b c d) (ifE t y) (some ⟨w11.heap.size + 1 + 1 + 1 + 1 + 1 + 1, 0, none⟩)) := q3
  have KB2 : Hid (Bs _ _ _ _ _ _ _ _ _ _) := q5
  clear KB B0 HX HY HZ q1 q2 q3 q4 q5
  have KB := KB2
  have B0 := B1
  have HZ := HZ2
  clear KB2 B1 HZ2
  have : w.heap.size < w11.heap.size := by omega
  have : ¬ w.heap.size = w11.heap.size := by omega
  have : ¬ w11.heap.size = w.heap.size := by omega
  have : w.heap.size < w11.heap.size + 1 := by omega
  have : ¬ w.heap.size = w11.heap.size + 1 := by omega
  have : ¬ w11.heap.size + 1 = w.heap.size := by omega
  have : w.heap.size < w11.heap.size + 1 + 1 := by omega
  have : ¬ w.heap.size = w11.heap.size + 1 + 1 := by omega
  have : ¬ w11.heap.size + 1 + 1 = w.heap.size := by omega
  have : w.heap.size < w11.heap.size + 1 + 1 + 1 := by omega
  have : ¬ w.heap.size = w11.heap.size + 1 + 1 + 1 := by omega
  have : ¬ w11.heap.size + 1 + 1 + 1 = w.heap.size := by omega
  have : w.heap.size < w11.heap.size + 1 + 1 + 1 + 1 := by omega
  have : ¬ w.heap.size = w11.heap.size + 1 + 1 + 1 + 1 := by omega
  have : ¬ w11.heap.size + 1 + 1 + 1 + 1 = w.heap.size := by omega
  have : w.heap.size < w11.heap.size + 1 + 1 + 1 + 1 + 1 := by omega
  have : ¬ w.heap.size = w11.heap.size + 1 + 1 + 1 + 1 + 1 := by omega
  have : ¬ w11.heap.size + 1 + 1 + 1 + 1 + 1 = w.heap.size := by omega
  have : w.heap.size < w11.heap.size + 1 + 1 + 1 + 1 + 1 + 1 := by omega
  have : ¬ w.heap.size = w11.heap.size + 1 + 1 + 1 + 1 + 1 + 1 := by omega
  have : ¬ w11.heap.size + 1 + 1 + 1 + 1 + 1 + 1 = w.heap.size := by omega
  have : w.heap.size < w11.heap.size + 1 + 1 + 1 + 1 + 1 + 1 + 1 := by omega
  have : ¬ w.heap.size = w11.heap.size + 1 + 1 + 1 + 1 + 1 + 1 + 1 := by omega
  have : ¬ w11.heap.size + 1 + 1 + 1 + 1 + 1 + 1 + 1 = w.heap.size := by omega
  have : w.heap.size + 1 < w11.heap.size := by omega
  have : ¬ w.heap.size + 1 = w11.heap.size := by omega
  have : ¬ w11.heap.size = w.heap.size + 1 := by omega
  have : w.heap.size + 1 < w11.heap.size + 1 := by omega
  have : ¬ w.heap.size + 1 = w11.heap.size + 1 := by omega
  have : ¬ w11.heap.size + 1 = w.heap.size + 1 := by omega
  have : w.heap.size + 1 < w11.heap.size + 1 + 1 := by omega
  have : ¬ w.heap.size + 1 = w11.heap.size + 1 + 1 := by omega
  have : ¬ w11.heap.size + 1 + 1 = w.heap.size + 1 := by omega
  have : w.heap.size + 1 < w11.heap.size + 1 + 1 + 1 := by omega
  have : ¬ w.heap.size + 1 = w11.heap.size + 1 + 1 + 1 := by omega
  have : ¬ w11.heap.size + 1 + 1 + 1 = w.heap.size + 1 := by omega
  have : w.heap.size + 1 < w11.heap.size + 1 + 1 + 1 + 1 := by omega
  have : ¬ w.heap.size + 1 = w11.heap.size + 1 + 1 + 1 + 1 := by omega
  have : ¬ w11.heap.size + 1 + 1 + 1 + 1 = w.heap.size + 1 := by omega
  have : w.heap.size + 1 < w11.heap.size + 1 + 1 + 1 + 1 + 1 := by omega
  have : ¬ w.heap.size + 1 = w11.heap.size + 1 + 1 + 1 + 1 + 1 := by omega
  have : ¬ w11.heap.size + 1 + 1 + 1 + 1 + 1 = w.heap.size + 1 := by omega
  have : w.heap.size + 1 < w11.heap.size + 1 + 1 + 1 + 1 + 1 + 1 := by omega
  have : ¬ w.heap.size + 1 = w11.heap.size + 1 + 1 + 1 + 1 + 1 + 1 := by omega
  have : ¬ w11.heap.size + 1 + 1 + 1 + 1 + 1 + 1 = w.heap.size + 1 := by omega
  have : w.heap.size + 1 < w11.heap.size + 1 + 1 + 1 + 1 + 1 + 1 + 1 := by omega
  have : ¬ w.heap.size + 1 = w11.heap.size + 1 + 1 + 1 + 1 + 1 + 1 + 1 := by omega
  have : ¬ w11.heap.size + 1 + 1 + 1 + 1 + 1 + 1 + 1 = w.heap.size + 1 := by omega
  go_wp2_with fail
  refine (Bs.call (by first | exact KB.out | exact KB.out.al _ | exact (KB.out.al _).al _) (fun hb => eval_any zs (notE t) _ (some ⟨w11.heap.size + 1, 0, none⟩) ea 1 elen ec (HQ1.out.below hb) (HZ.out.below hb))).mono ?_
  clear KB b0 b1 b2 bl d0 d1 d2 dl
  rintro e w12 ⟨he, KB, ⟨⟨b0, b1, b2⟩, bl⟩, ⟨d0, d1, d2⟩, dl⟩
  rw [V2.out] at he
  subst he
  go_wp2_with fail
  refine (Bs.call (by first | exact KB.out | exact KB.out.al _ | exact (KB.out.al _).al _) (fun hb => eval_any zs (negE t) _ (some ⟨w11.heap.size + 1 + 1 + 1 + 1, 0, none⟩) ea 1 elen ec (HQ2.out.below hb) (HZ.out.below hb))).mono ?_
  clear KB b0 b1 b2 bl d0 d1 d2 dl
  rintro e w13 ⟨he, KB, ⟨⟨b0, b1, b2⟩, bl⟩, ⟨d0, d1, d2⟩, dl⟩
  rw [V3.out] at he
  subst he
  go_wp2_with fail
  refine (Bs.call (by first | exact KB.out | exact KB.out.al _ | exact (KB.out.al _).al _) (fun hb => eval_any zs (ifE t y) _ (some ⟨w11.heap.size + 1 + 1 + 1 + 1 + 1 + 1, 0, none⟩) ea 3 elen ec (HQ3.out.below hb) (HZ.out.below hb))).mono ?_
  clear KB b0 b1 b2 bl d0 d1 d2 dl
  rintro e w14 ⟨he, KB, ⟨⟨b0, b1, b2⟩, bl⟩, ⟨d0, d1, d2⟩, dl⟩
  rw [V4.out] at he
  subst he
  go_wp2_with fail
  go_ret
  first | exact ⟨rfl, bs_end B0.out KB.out⟩ | exact ⟨rfl, bs_end B0.out (KB.out.al _)⟩ | exact ⟨rfl, bs_end B0.out ((KB.out.al _).al _)⟩

set_option maxRecDepth 100000 in
set_option maxHeartbeats 4000000 in
theorem nests_zero (t y : Ex) (a b : Option Addr) (c d : Nat) (ea : Option Addr) (elen ec : Nat) (zs : List Int) (n z : Int) (w : World) (hx : X w t a) (hy : X w y b) (hz : Nm w ea elen zs) (hT : Lib.TabIs Tryd.prog w tabName .u64 Lib.pow10Tab) (ht : fewB t = true) (hf : fewB y = true) (h2 : ¬ (16 : Int) < elen) (h3 : ¬ (35 : Int) < depthF t) (h4 : ¬ (35 : Int) < depthF y) (h5 : ¬ (120 : Int) < sizeF t) (h6 : ¬ (120 : Int) < sizeF y) (h7 : rightB elen t = true) (h8 : rightB elen y = true) (hv : evalF zs t = (0, 0)) :
    Calls Tryd.prog 6 #[exV t a c, exV y b d, .slice ea elen ec] w fun e w' => e = .returned (.bool true) ∧ Below w.heap.size w w' := by
  have hl := hz.1.1
  have d1 : depthF t ≤ 35 := by omega
  have d2 : depthF y ≤ 35 := by omega
  have s1 : sizeF t ≤ 120 := by omega
  have s2 : sizeF y ≤ 120 := by omega
  have et : valF zs t = evalF zs t := (eval_right hl h7).symm
  have ey : valF zs y = evalF zs y := (eval_right hl h8).symm
  have en : evalF zs (notE t) = valF zs (notE t) := eval_right hl (right_two 4 elen t (.inr rfl) h7 d1 s1)
  have em : evalF zs (negE t) = valF zs (negE t) := eval_right hl (right_two 3 elen t (.inl rfl) h7 d1 s1)
  have ei : evalF zs (ifE t y) = valF zs (ifE t y) := eval_right hl (right_if elen t y h7 h8 d1 s1 d2 s2)
  rw [hv] at et
  have V1 : Hid (evalF zs t = (0, 0)) := hv
  have V2 : Hid (evalF zs (notE t) = (0, 0)) := en.trans (not_ok zs t 0 et)
  have V3 : Hid (evalF zs (negE t) = (0, 0)) := em.trans (neg_ok zs t 0 et ⟨by decide, by decide⟩ (by decide))
  have V4 : Hid (evalF zs (ifE t y) = (0, 0)) := ei.trans (if_zero zs t y et)
  clear hl d1 d2 s1 s2 et ey en em ei hv
  have KB : Hid (Bs _ w.heap.size (w.heap.size + 1) t y a b c d _) := bs_two w t y a b c d
  have B0 : Hid (Below w.heap.size w ((w.alloc (.cells #[.int .i64 t.kind, .int .i64 t.num, .slice a t.kids.length c] 24)).alloc (.cells #[.int .i64 y.kind, .int .i64 y.num, .slice b y.kids.length d] 24))) := two_al _ _ _
  have HX : Hid (X ((w.alloc (.cells #[.int .i64 t.kind, .int .i64 t.num, .slice a t.kids.length c] 24)).alloc (.cells #[.int .i64 y.kind, .int .i64 y.num, .slice b y.kids.length d] 24)) t a) := hx.below B0.out
  have HY : Hid (X ((w.alloc (.cells #[.int .i64 t.kind, .int .i64 t.num, .slice a t.kids.length c] 24)).alloc (.cells #[.int .i64 y.kind, .int .i64 y.num, .slice b y.kids.length d] 24)) y b) := hy.below B0.out
  have T0 : Hid (Lib.TabBelow Tryd.prog ((w.alloc (.cells #[.int .i64 t.kind, .int .i64 t.num, .slice a t.kids.length c] 24)).alloc (.cells #[.int .i64 y.kind, .int .i64 y.num, .slice b y.kids.length d] 24)).heap.size _ tabName .u64 Lib.pow10Tab) := Lib.tabBelow_of_tabIs (Lib.tabBelow_of_tabIs hT _ B0.out)
  have Ft : Hid (fewB t = true) := ht
  have Fy : Hid (fewB y = true) := hf
  have HZ : Hid (Nm ((w.alloc (.cells #[.int .i64 t.kind, .int .i64 t.num, .slice a t.kids.length c] 24)).alloc (.cells #[.int .i64 y.kind, .int .i64 y.num, .slice b y.kids.length d] 24)) ea elen zs) := hz.below B0.out
  have ST : Hid (sizeF t ≤ 1000000) := Nat.le_trans (fewB_size ht) (by decide)
  have SY : Hid (sizeF y ≤ 1000000) := Nat.le_trans (fewB_size hf) (by decide)
  have RT : Hid (rightB elen t = true) := h7
  have RY : Hid (rightB elen y = true) := h8
  clear hx hy hT ht hf h7 h8
  go_enter Tryd.func6, Tryd.ntmps6
  go_wp2_with fail
  refine (Bs.call (by first | exact KB.out | exact KB.out.al _ | exact (KB.out.al _).al _) (fun hb => small_any _ (Lib.tabBelow_of_tabIs (T0.out _ hb)))).mono ?_
  clear KB
  rintro e w1 ⟨he, KB, ⟨⟨b0, b1, b2⟩, bl⟩, ⟨d0, d1, d2⟩, dl⟩
  subst he
  go_wp2_with fail
  refine (Bs.call (by first | exact KB.out | exact KB.out.al _ | exact (KB.out.al _).al _) (fun hb => Few_any t _ a c (HX.out.below hb))).mono ?_
  clear KB b0 b1 b2 bl d0 d1 d2 dl
  rintro e w2 ⟨he, KB, ⟨⟨b0, b1, b2⟩, bl⟩, ⟨d0, d1, d2⟩, dl⟩
  rw [Ft.out] at he
  subst he
  go_wp2_with fail
  refine (Bs.call (by first | exact KB.out | exact KB.out.al _ | exact (KB.out.al _).al _) (fun hb => Few_any y _ b d (HY.out.below hb))).mono ?_
  clear KB b0 b1 b2 bl d0 d1 d2 dl
  rintro e w3 ⟨he, KB, ⟨⟨b0, b1, b2⟩, bl⟩, ⟨d0, d1, d2⟩, dl⟩
  rw [Fy.out] at he
  subst he
  go_wp2_with fail
  refine (Bs.call (by first | exact KB.out | exact KB.out.al _ | exact (KB.out.al _).al _) (fun hb => depth_any t _ a c (HX.out.below hb) ST.out)).mono ?_
  clear KB b0 b1 b2 bl d0 d1 d2 dl
  rintro e w4 ⟨he, KB, ⟨⟨b0, b1, b2⟩, bl⟩, ⟨d0, d1, d2⟩, dl⟩
  subst he
  go_wp2_with fail
  refine (Bs.call (by first | exact KB.out | exact KB.out.al _ | exact (KB.out.al _).al _) (fun hb => depth_any y _ b d (HY.out.below hb) SY.out)).mono ?_
  clear KB b0 b1 b2 bl d0 d1 d2 dl
  rintro e w5 ⟨he, KB, ⟨⟨b0, b1, b2⟩, bl⟩, ⟨d0, d1, d2⟩, dl⟩
  subst he
  go_wp2_with fail
  refine (Bs.call (by first | exact KB.out | exact KB.out.al _ | exact (KB.out.al _).al _) (fun hb => size_any t _ a c (HX.out.below hb) ST.out)).mono ?_
  clear KB b0 b1 b2 bl d0 d1 d2 dl
  rintro e w6 ⟨he, KB, ⟨⟨b0, b1, b2⟩, bl⟩, ⟨d0, d1, d2⟩, dl⟩
  subst he
  go_wp2_with fail
  refine (Bs.call (by first | exact KB.out | exact KB.out.al _ | exact (KB.out.al _).al _) (fun hb => size_any y _ b d (HY.out.below hb) SY.out)).mono ?_
  clear KB b0 b1 b2 bl d0 d1 d2 dl
  rintro e w7 ⟨he, KB, ⟨⟨b0, b1, b2⟩, bl⟩, ⟨d0, d1, d2⟩, dl⟩
  subst he
  go_wp2_with fail
  refine (Bs.call (by first | exact KB.out | exact KB.out.al _ | exact (KB.out.al _).al _) (fun hb => right_any t _ a c elen (HX.out.below hb))).mono ?_
  clear KB b0 b1 b2 bl d0 d1 d2 dl
  rintro e w8 ⟨he, KB, ⟨⟨b0, b1, b2⟩, bl⟩, ⟨d0, d1, d2⟩, dl⟩
  rw [RT.out] at he
  subst he
  go_wp2_with fail
  refine (Bs.call (by first | exact KB.out | exact KB.out.al _ | exact (KB.out.al _).al _) (fun hb => right_any y _ b d elen (HY.out.below hb))).mono ?_
  clear KB b0 b1 b2 bl d0 d1 d2 dl
  rintro e w9 ⟨he, KB, ⟨⟨b0, b1, b2⟩, bl⟩, ⟨d0, d1, d2⟩, dl⟩
  rw [RY.out] at he
  subst he
  go_wp2_with fail
  refine (Bs.call (by first | exact KB.out | exact KB.out.al _ | exact (KB.out.al _).al _) (fun hb => eval_any zs t _ a ea c elen ec (HX.out.below hb) (HZ.out.below hb))).mono ?_
  clear KB b0 b1 b2 bl d0 d1 d2 dl
  rintro e w10 ⟨he, KB, ⟨⟨b0, b1, b2⟩, bl⟩, ⟨d0, d1, d2⟩, dl⟩
  rw [V1.out] at he
  subst he
  go_wp2_with fail
  refine (Bs.call (by first | exact KB.out | exact KB.out.al _ | exact (KB.out.al _).al _) (fun hb => eval_any zs y _ b ea d elen ec (HY.out.below hb) (HZ.out.below hb))).mono ?_
  clear KB b0 b1 b2 bl d0 d1 d2 dl
  rintro e w11 ⟨he, KB, ⟨⟨b0, b1, b2⟩, bl⟩, ⟨d0, d1, d2⟩, dl⟩
  subst he
  obtain ⟨⟨q1, q2, q3⟩, q4, q5⟩ := nest_facts w11 t y a b c d (HX.out.below KB.out.1) (HY.out.below KB.out.1)
  have HZ2 : Hid (Nm (nestW w11 t y a b c d) ea elen zs) := (HZ.out.below KB.out.1).below q4
  have B1 : Hid (Below w.heap.size w (nestW w11 t y a b c d)) := (bs_end B0.out KB.out).trans (q4.mono (bs_end B0.out KB.out).size)
  have HQ1 : Hid (X (nestW w11 t y a b c d) (notE t) (some ⟨w11.heap.size + 1, 0, none⟩)) := q1
  have HQ2 : Hid (X (nestW w11 t y a b c d) (negE t) (some ⟨w11.heap.size + 1 + 1 + 1 + 1, 0, none⟩)) := q2
  have HQ3 : Hid (X (nestW w11 t y a b c d) (ifE t y) (some ⟨w11.heap.size + 1 + 1 + 1 + 1 + 1 + 1, 0, none⟩)) := q3
  have KB2 : Hid (Bs _ _ _ _ _ _ _ _ _ _) := q5
  clear KB B0 HX HY HZ q1 q2 q3 q4 q5
  have KB := KB2
  have B0 := B1
  have HZ := HZ2
  clear KB2 B1 HZ2
  have : w.heap.size < w11.heap.size := by omega
  have : ¬ w.heap.size = w11.heap.size := by omega
  have : ¬ w11.heap.size = w.heap.size := by omega
  have : w.heap.size < w11.heap.size + 1 := by omega
  have : ¬ w.heap.size = w11.heap.size + 1 := by omega
  have : ¬ w11.heap.size + 1 = w.heap.size := by omega
  have : w.heap.size < w11.heap.size + 1 + 1 := by omega
  have : ¬ w.heap.size = w11.heap.size + 1 + 1 := by omega
  have : ¬ w11.heap.size + 1 + 1 = w.heap.size := by omega
  have : w.heap.size < w11.heap.size + 1 + 1 + 1 := by omega
  have : ¬ w.heap.size = w11.heap.size + 1 + 1 + 1 := by omega
  have : ¬ w11.heap.size + 1 + 1 + 1 = w.heap.size := by omega
  have : w.heap.size < w11.heap.size + 1 + 1 + 1 + 1 := by omega
  have : ¬ w.heap.size = w11.heap.size + 1 + 1 + 1 + 1 := by omega
  have : ¬ w11.heap.size + 1 + 1 + 1 + 1 = w.heap.size := by omega
  have : w.heap.size < w11.heap.size + 1 + 1 + 1 + 1 + 1 := by omega
  have : ¬ w.heap.size = w11.heap.size + 1 + 1 + 1 + 1 + 1 := by omega
  have : ¬ w11.heap.size + 1 + 1 + 1 + 1 + 1 = w.heap.size := by omega
  have : w.heap.size < w11.heap.size + 1 + 1 + 1 + 1 + 1 + 1 := by omega
  have : ¬ w.heap.size = w11.heap.size + 1 + 1 + 1 + 1 + 1 + 1 := by omega
  have : ¬ w11.heap.size + 1 + 1 + 1 + 1 + 1 + 1 = w.heap.size := by omega
  have : w.heap.size < w11.heap.size + 1 + 1 + 1 + 1 + 1 + 1 + 1 := by omega
  have : ¬ w.heap.size = w11.heap.size + 1 + 1 + 1 + 1 + 1 + 1 + 1 := by omega
  have : ¬ w11.heap.size + 1 + 1 + 1 + 1 + 1 + 1 + 1 = w.heap.size := by omega
  have : w.heap.size + 1 < w11.heap.size := by omega
  have : ¬ w.heap.size + 1 = w11.heap.size := by omega
  have : ¬ w11.heap.size = w.heap.size + 1 := by omega
  have : w.heap.size + 1 < w11.heap.size + 1 := by omega
  have : ¬ w.heap.size + 1 = w11.heap.size + 1 := by omega
  have : ¬ w11.heap.size + 1 = w.heap.size + 1 := by omega
  have : w.heap.size + 1 < w11.heap.size + 1 + 1 := by omega
  have : ¬ w.heap.size + 1 = w11.heap.size + 1 + 1 := by omega
  have : ¬ w11.heap.size + 1 + 1 = w.heap.size + 1 := by omega
  have : w.heap.size + 1 < w11.heap.size + 1 + 1 + 1 := by omega
  have : ¬ w.heap.size + 1 = w11.heap.size + 1 + 1 + 1 := by omega
  have : ¬ w11.heap.size + 1 + 1 + 1 = w.heap.size + 1 := by omega
  have : w.heap.size + 1 < w11.heap.size + 1 + 1 + 1 + 1 := by omega
  have : ¬ w.heap.size + 1 = w11.heap.size + 1 + 1 + 1 + 1 := by omega
  have : ¬ w11.heap.size + 1 + 1 + 1 + 1 = w.heap.size + 1 := by omega
  have : w.heap.size + 1 < w11.heap.size + 1 + 1 + 1 + 1 + 1 := by omega
  have : ¬ w.heap.size + 1 = w11.heap.size + 1 + 1 + 1 + 1 + 1 := by omega
  have : ¬ w11.heap.size + 1 + 1 + 1 + 1 + 1 = w.heap.size + 1 := by omega
  have : w.heap.size + 1 < w11.heap.size + 1 + 1 + 1 + 1 + 1 + 1 := by omega
  have : ¬ w.heap.size + 1 = w11.heap.size + 1 + 1 + 1 + 1 + 1 + 1 := by omega
  have : ¬ w11.heap.size + 1 + 1 + 1 + 1 + 1 + 1 = w.heap.size + 1 := by omega
  have : w.heap.size + 1 < w11.heap.size + 1 + 1 + 1 + 1 + 1 + 1 + 1 := by omega
  have : ¬ w.heap.size + 1 = w11.heap.size + 1 + 1 + 1 + 1 + 1 + 1 + 1 := by omega
  have : ¬ w11.heap.size + 1 + 1 + 1 + 1 + 1 + 1 + 1 = w.heap.size + 1 := by omega
  go_wp2_with fail
  refine (Bs.call (by first | exact KB.out | exact KB.out.al _ | exact (KB.out.al _).al _) (fun hb => eval_any zs (notE t) _ (some ⟨w11.heap.size + 1, 0, none⟩) ea 1 elen ec (HQ1.out.below hb) (HZ.out.below hb))).mono ?_
  clear KB b0 b1 b2 bl d0 d1 d2 dl
  rintro e w12 ⟨he, KB, ⟨⟨b0, b1, b2⟩, bl⟩, ⟨d0, d1, d2⟩, dl⟩
  rw [V2.out] at he
  subst he
  go_wp2_with fail
  refine (Bs.call (by first | exact KB.out | exact KB.out.al _ | exact (KB.out.al _).al _) (fun hb => eval_any zs (negE t) _ (some ⟨w11.heap.size + 1 + 1 + 1 + 1, 0, none⟩) ea 1 elen ec (HQ2.out.below hb) (HZ.out.below hb))).mono ?_
  clear KB b0 b1 b2 bl d0 d1 d2 dl
  rintro e w13 ⟨he, KB, ⟨⟨b0, b1, b2⟩, bl⟩, ⟨d0, d1, d2⟩, dl⟩
  rw [V3.out] at he
  subst he
  go_wp2_with fail
  refine (Bs.call (by first | exact KB.out | exact KB.out.al _ | exact (KB.out.al _).al _) (fun hb => eval_any zs (ifE t y) _ (some ⟨w11.heap.size + 1 + 1 + 1 + 1 + 1 + 1, 0, none⟩) ea 3 elen ec (HQ3.out.below hb) (HZ.out.below hb))).mono ?_
  clear KB b0 b1 b2 bl d0 d1 d2 dl
  rintro e w14 ⟨he, KB, ⟨⟨b0, b1, b2⟩, bl⟩, ⟨d0, d1, d2⟩, dl⟩
  rw [V4.out] at he
  subst he
  go_wp2_with fail
  go_ret
  first | exact ⟨rfl, bs_end B0.out KB.out⟩ | exact ⟨rfl, bs_end B0.out (KB.out.al _)⟩ | exact ⟨rfl, bs_end B0.out ((KB.out.al _).al _)⟩

set_option maxRecDepth 100000 in
set_option maxHeartbeats 4000000 in
theorem nests_min (t y : Ex) (a b : Option Addr) (c d : Nat) (ea : Option Addr) (elen ec : Nat) (zs : List Int) (n z : Int) (w : World) (hx : X w t a) (hy : X w y b) (hz : Nm w ea elen zs) (hT : Lib.TabIs Tryd.prog w tabName .u64 Lib.pow10Tab) (ht : fewB t = true) (hf : fewB y = true) (h2 : ¬ (16 : Int) < elen) (h3 : ¬ (35 : Int) < depthF t) (h4 : ¬ (35 : Int) < depthF y) (h5 : ¬ (120 : Int) < sizeF t) (h6 : ¬ (120 : Int) < sizeF y) (h7 : rightB elen t = true) (h8 : rightB elen y = true) (hv : evalF zs t = (-9223372036854775808, 0)) :
    Calls Tryd.prog 6 #[exV t a c, exV y b d, .slice ea elen ec] w fun e w' => e = .returned (.bool true) ∧ Below w.heap.size w w' := by
  have hl := hz.1.1
  have d1 : depthF t ≤ 35 := by omega
  have d2 : depthF y ≤ 35 := by omega
  have s1 : sizeF t ≤ 120 := by omega
  have s2 : sizeF y ≤ 120 := by omega
  have et : valF zs t = evalF zs t := (eval_right hl h7).symm
  have ey : valF zs y = evalF zs y := (eval_right hl h8).symm
  have en : evalF zs (notE t) = valF zs (notE t) := eval_right hl (right_two 4 elen t (.inr rfl) h7 d1 s1)
  have em : evalF zs (negE t) = valF zs (negE t) := eval_right hl (right_two 3 elen t (.inl rfl) h7 d1 s1)
  have ei : evalF zs (ifE t y) = valF zs (ifE t y) := eval_right hl (right_if elen t y h7 h8 d1 s1 d2 s2)
  rw [hv] at et
  have V1 : Hid (evalF zs t = (-9223372036854775808, 0)) := hv
  have V2 : Hid (evalF zs (notE t) = (1, 0)) := en.trans (not_ok zs t _ et)
  have V3 : Hid (evalF zs (negE t) = (0, 6)) := em.trans (neg_min zs t et)
  have V4 : Hid (evalF zs (ifE t y) = evalF zs y) := ei.trans ((if_other zs t y _ et (by decide)).trans ey)
  clear hl d1 d2 s1 s2 et ey en em ei hv
  have KB : Hid (Bs _ w.heap.size (w.heap.size + 1) t y a b c d _) := bs_two w t y a b c d
  have B0 : Hid (Below w.heap.size w ((w.alloc (.cells #[.int .i64 t.kind, .int .i64 t.num, .slice a t.kids.length c] 24)).alloc (.cells #[.int .i64 y.kind, .int .i64 y.num, .slice b y.kids.length d] 24))) := two_al _ _ _
  have HX : Hid (X ((w.alloc (.cells #[.int .i64 t.kind, .int .i64 t.num, .slice a t.kids.length c] 24)).alloc (.cells #[.int .i64 y.kind, .int .i64 y.num, .slice b y.kids.length d] 24)) t a) := hx.below B0.out
  have HY : Hid (X ((w.alloc (.cells #[.int .i64 t.kind, .int .i64 t.num, .slice a t.kids.length c] 24)).alloc (.cells #[.int .i64 y.kind, .int .i64 y.num, .slice b y.kids.length d] 24)) y b) := hy.below B0.out
  have T0 : Hid (Lib.TabBelow Tryd.prog ((w.alloc (.cells #[.int .i64 t.kind, .int .i64 t.num, .slice a t.kids.length c] 24)).alloc (.cells #[.int .i64 y.kind, .int .i64 y.num, .slice b y.kids.length d] 24)).heap.size _ tabName .u64 Lib.pow10Tab) := Lib.tabBelow_of_tabIs (Lib.tabBelow_of_tabIs hT _ B0.out)
  have Ft : Hid (fewB t = true) := ht
  have Fy : Hid (fewB y = true) := hf
  have HZ : Hid (Nm ((w.alloc (.cells #[.int .i64 t.kind, .int .i64 t.num, .slice a t.kids.length c] 24)).alloc (.cells #[.int .i64 y.kind, .int .i64 y.num, .slice b y.kids.length d] 24)) ea elen zs) := hz.below B0.out
  have ST : Hid (sizeF t ≤ 1000000) := Nat.le_trans (fewB_size ht) (by decide)
  have SY : Hid (sizeF y ≤ 1000000) := Nat.le_trans (fewB_size hf) (by decide)
  have RT : Hid (rightB elen t = true) := h7
  have RY : Hid (rightB elen y = true) := h8
  clear hx hy hT ht hf h7 h8
  go_enter Tryd.func6, Tryd.ntmps6
  go_wp2_with fail
  refine (Bs.call (by first | exact KB.out | exact KB.out.al _ | exact (KB.out.al _).al _) (fun hb => small_any _ (Lib.tabBelow_of_tabIs (T0.out _ hb)))).mono ?_
  clear KB
  rintro e w1 ⟨he, KB, ⟨⟨b0, b1, b2⟩, bl⟩, ⟨d0, d1, d2⟩, dl⟩
  subst he
  go_wp2_with fail
  refine (Bs.call (by first | exact KB.out | exact KB.out.al _ | exact (KB.out.al _).al _) (fun hb => Few_any t _ a c (HX.out.below hb))).mono ?_
  clear KB b0 b1 b2 bl d0 d1 d2 dl
  rintro e w2 ⟨he, KB, ⟨⟨b0, b1, b2⟩, bl⟩, ⟨d0, d1, d2⟩, dl⟩
  rw [Ft.out] at he
  subst he
  go_wp2_with fail
  refine (Bs.call (by first | exact KB.out | exact KB.out.al _ | exact (KB.out.al _).al _) (fun hb => Few_any y _ b d (HY.out.below hb))).mono ?_
  clear KB b0 b1 b2 bl d0 d1 d2 dl
  rintro e w3 ⟨he, KB, ⟨⟨b0, b1, b2⟩, bl⟩, ⟨d0, d1, d2⟩, dl⟩
  rw [Fy.out] at he
  subst he
  go_wp2_with fail
  refine (Bs.call (by first | exact KB.out | exact KB.out.al _ | exact (KB.out.al _).al _) (fun hb => depth_any t _ a c (HX.out.below hb) ST.out)).mono ?_
  clear KB b0 b1 b2 bl d0 d1 d2 dl
  rintro e w4 ⟨he, KB, ⟨⟨b0, b1, b2⟩, bl⟩, ⟨d0, d1, d2⟩, dl⟩
  subst he
  go_wp2_with fail
  refine (Bs.call (by first | exact KB.out | exact KB.out.al _ | exact (KB.out.al _).al _) (fun hb => depth_any y _ b d (HY.out.below hb) SY.out)).mono ?_
  clear KB b0 b1 b2 bl d0 d1 d2 dl
  rintro e w5 ⟨he, KB, ⟨⟨b0, b1, b2⟩, bl⟩, ⟨d0, d1, d2⟩, dl⟩
  subst he
  go_wp2_with fail
  refine (Bs.call (by first | exact KB.out | exact KB.out.al _ | exact (KB.out.al _).al _) (fun hb => size_any t _ a c (HX.out.below hb) ST.out)).mono ?_
  clear KB b0 b1 b2 bl d0 d1 d2 dl
  rintro e w6 ⟨he, KB, ⟨⟨b0, b1, b2⟩, bl⟩, ⟨d0, d1, d2⟩, dl⟩
  subst he
  go_wp2_with fail
  refine (Bs.call (by first | exact KB.out | exact KB.out.al _ | exact (KB.out.al _).al _) (fun hb => size_any y _ b d (HY.out.below hb) SY.out)).mono ?_
  clear KB b0 b1 b2 bl d0 d1 d2 dl
  rintro e w7 ⟨he, KB, ⟨⟨b0, b1, b2⟩, bl⟩, ⟨d0, d1, d2⟩, dl⟩
  subst he
  go_wp2_with fail
  refine (Bs.call (by first | exact KB.out | exact KB.out.al _ | exact (KB.out.al _).al _) (fun hb => right_any t _ a c elen (HX.out.below hb))).mono ?_
  clear KB b0 b1 b2 bl d0 d1 d2 dl
  rintro e w8 ⟨he, KB, ⟨⟨b0, b1, b2⟩, bl⟩, ⟨d0, d1, d2⟩, dl⟩
  rw [RT.out] at he
  subst he
  go_wp2_with fail
  refine (Bs.call (by first | exact KB.out | exact KB.out.al _ | exact (KB.out.al _).al _) (fun hb => right_any y _ b d elen (HY.out.below hb))).mono ?_
  clear KB b0 b1 b2 bl d0 d1 d2 dl
  rintro e w9 ⟨he, KB, ⟨⟨b0, b1, b2⟩, bl⟩, ⟨d0, d1, d2⟩, dl⟩
  rw [RY.out] at he
  subst he
  go_wp2_with fail
  refine (Bs.call (by first | exact KB.out | exact KB.out.al _ | exact (KB.out.al _).al _) (fun hb => eval_any zs t _ a ea c elen ec (HX.out.below hb) (HZ.out.below hb))).mono ?_
  clear KB b0 b1 b2 bl d0 d1 d2 dl
  rintro e w10 ⟨he, KB, ⟨⟨b0, b1, b2⟩, bl⟩, ⟨d0, d1, d2⟩, dl⟩
  rw [V1.out] at he
  subst he
  go_wp2_with fail
  refine (Bs.call (by first | exact KB.out | exact KB.out.al _ | exact (KB.out.al _).al _) (fun hb => eval_any zs y _ b ea d elen ec (HY.out.below hb) (HZ.out.below hb))).mono ?_
  clear KB b0 b1 b2 bl d0 d1 d2 dl
  rintro e w11 ⟨he, KB, ⟨⟨b0, b1, b2⟩, bl⟩, ⟨d0, d1, d2⟩, dl⟩
  subst he
  obtain ⟨⟨q1, q2, q3⟩, q4, q5⟩ := nest_facts w11 t y a b c d (HX.out.below KB.out.1) (HY.out.below KB.out.1)
  have HZ2 : Hid (Nm (nestW w11 t y a b c d) ea elen zs) := (HZ.out.below KB.out.1).below q4
  have B1 : Hid (Below w.heap.size w (nestW w11 t y a b c d)) := (bs_end B0.out KB.out).trans (q4.mono (bs_end B0.out KB.out).size)
  have HQ1 : Hid (X (nestW w11 t y a b c d) (notE t) (some ⟨w11.heap.size + 1, 0, none⟩)) := q1
  have HQ2 : Hid (X (nestW w11 t y a b c d) (negE t) (some ⟨w11.heap.size + 1 + 1 + 1 + 1, 0, none⟩)) := q2
  have HQ3 : Hid (X (nestW w11 t y a b c d) (ifE t y) (some ⟨w11.heap.size + 1 + 1 + 1 + 1 + 1 + 1, 0, none⟩)) := q3
  have KB2 : Hid (Bs _ _ _ _ _ _ _ _ _ _) := q5
  clear KB B0 HX HY HZ q1 q2 q3 q4 q5
  have KB := KB2
  have B0 := B1
  have HZ := HZ2
  clear KB2 B1 HZ2
  have : w.heap.size < w11.heap.size := by omega
  have : ¬ w.heap.size = w11.heap.size := by omega
  have : ¬ w11.heap.size = w.heap.size := by omega
  have : w.heap.size < w11.heap.size + 1 := by omega
  have : ¬ w.heap.size = w11.heap.size + 1 := by omega
  have : ¬ w11.heap.size + 1 = w.heap.size := by omega
  have : w.heap.size < w11.heap.size + 1 + 1 := by omega
  have : ¬ w.heap.size = w11.heap.size + 1 + 1 := by omega
  have : ¬ w11.heap.size + 1 + 1 = w.heap.size := by omega
  have : w.heap.size < w11.heap.size + 1 + 1 + 1 := by omega
  have : ¬ w.heap.size = w11.heap.size + 1 + 1 + 1 := by omega
  have : ¬ w11.heap.size + 1 + 1 + 1 = w.heap.size := by omega
  have : w.heap.size < w11.heap.size + 1 + 1 + 1 + 1 := by omega
  have : ¬ w.heap.size = w11.heap.size + 1 + 1 + 1 + 1 := by omega
  have : ¬ w11.heap.size + 1 + 1 + 1 + 1 = w.heap.size := by omega
  have : w.heap.size < w11.heap.size + 1 + 1 + 1 + 1 + 1 := by omega
  have : ¬ w.heap.size = w11.heap.size + 1 + 1 + 1 + 1 + 1 := by omega
  have : ¬ w11.heap.size + 1 + 1 + 1 + 1 + 1 = w.heap.size := by omega
  have : w.heap.size < w11.heap.size + 1 + 1 + 1 + 1 + 1 + 1 := by omega
  have : ¬ w.heap.size = w11.heap.size + 1 + 1 + 1 + 1 + 1 + 1 := by omega
  have : ¬ w11.heap.size + 1 + 1 + 1 + 1 + 1 + 1 = w.heap.size := by omega
  have : w.heap.size < w11.heap.size + 1 + 1 + 1 + 1 + 1 + 1 + 1 := by omega
  have : ¬ w.heap.size = w11.heap.size + 1 + 1 + 1 + 1 + 1 + 1 + 1 := by omega
  have : ¬ w11.heap.size + 1 + 1 + 1 + 1 + 1 + 1 + 1 = w.heap.size := by omega
  have : w.heap.size + 1 < w11.heap.size := by omega
  have : ¬ w.heap.size + 1 = w11.heap.size := by omega
  have : ¬ w11.heap.size = w.heap.size + 1 := by omega
  have : w.heap.size + 1 < w11.heap.size + 1 := by omega
  have : ¬ w.heap.size + 1 = w11.heap.size + 1 := by omega
  have : ¬ w11.heap.size + 1 = w.heap.size + 1 := by omega
  have : w.heap.size + 1 < w11.heap.size + 1 + 1 := by omega
  have : ¬ w.heap.size + 1 = w11.heap.size + 1 + 1 := by omega
  have : ¬ w11.heap.size + 1 + 1 = w.heap.size + 1 := by omega
  have : w.heap.size + 1 < w11.heap.size + 1 + 1 + 1 := by omega
  have : ¬ w.heap.size + 1 = w11.heap.size + 1 + 1 + 1 := by omega
  have : ¬ w11.heap.size + 1 + 1 + 1 = w.heap.size + 1 := by omega
  have : w.heap.size + 1 < w11.heap.size + 1 + 1 + 1 + 1 := by omega
  have : ¬ w.heap.size + 1 = w11.heap.size + 1 + 1 + 1 + 1 := by omega
  have : ¬ w11.heap.size + 1 + 1 + 1 + 1 = w.heap.size + 1 := by omega
  have : w.heap.size + 1 < w11.heap.size + 1 + 1 + 1 + 1 + 1 := by omega
  have : ¬ w.heap.size + 1 = w11.heap.size + 1 + 1 + 1 + 1 + 1 := by omega
  have : ¬ w11.heap.size + 1 + 1 + 1 + 1 + 1 = w.heap.size + 1 := by omega
  have : w.heap.size + 1 < w11.heap.size + 1 + 1 + 1 + 1 + 1 + 1 := by omega
  have : ¬ w.heap.size + 1 = w11.heap.size + 1 + 1 + 1 + 1 + 1 + 1 := by omega
  have : ¬ w11.heap.size + 1 + 1 + 1 + 1 + 1 + 1 = w.heap.size + 1 := by omega
  have : w.heap.size + 1 < w11.heap.size + 1 + 1 + 1 + 1 + 1 + 1 + 1 := by omega
  have : ¬ w.heap.size + 1 = w11.heap.size + 1 + 1 + 1 + 1 + 1 + 1 + 1 := by omega
  have : ¬ w11.heap.size + 1 + 1 + 1 + 1 + 1 + 1 + 1 = w.heap.size + 1 := by omega
  go_wp2_with fail
  refine (Bs.call (by first | exact KB.out | exact KB.out.al _ | exact (KB.out.al _).al _) (fun hb => eval_any zs (notE t) _ (some ⟨w11.heap.size + 1, 0, none⟩) ea 1 elen ec (HQ1.out.below hb) (HZ.out.below hb))).mono ?_
  clear KB b0 b1 b2 bl d0 d1 d2 dl
  rintro e w12 ⟨he, KB, ⟨⟨b0, b1, b2⟩, bl⟩, ⟨d0, d1, d2⟩, dl⟩
  rw [V2.out] at he
  subst he
  go_wp2_with fail
  refine (Bs.call (by first | exact KB.out | exact KB.out.al _ | exact (KB.out.al _).al _) (fun hb => eval_any zs (negE t) _ (some ⟨w11.heap.size + 1 + 1 + 1 + 1, 0, none⟩) ea 1 elen ec (HQ2.out.below hb) (HZ.out.below hb))).mono ?_
  clear KB b0 b1 b2 bl d0 d1 d2 dl
  rintro e w13 ⟨he, KB, ⟨⟨b0, b1, b2⟩, bl⟩, ⟨d0, d1, d2⟩, dl⟩
  rw [V3.out] at he
  subst he
  go_wp2_with fail
  refine (Bs.call (by first | exact KB.out | exact KB.out.al _ | exact (KB.out.al _).al _) (fun hb => eval_any zs (ifE t y) _ (some ⟨w11.heap.size + 1 + 1 + 1 + 1 + 1 + 1, 0, none⟩) ea 3 elen ec (HQ3.out.below hb) (HZ.out.below hb))).mono ?_
  clear KB b0 b1 b2 bl d0 d1 d2 dl
  rintro e w14 ⟨he, KB, ⟨⟨b0, b1, b2⟩, bl⟩, ⟨d0, d1, d2⟩, dl⟩
  rw [V4.out] at he
  subst he
  go_wp2_with fail
  go_ret
  first | exact ⟨rfl, bs_end B0.out KB.out⟩ | exact ⟨rfl, bs_end B0.out (KB.out.al _)⟩ | exact ⟨rfl, bs_end B0.out ((KB.out.al _).al _)⟩

set_option maxRecDepth 100000 in
set_option maxHeartbeats 4000000 in
theorem nests_other (t y : Ex) (a b : Option Addr) (c d : Nat) (ea : Option Addr) (elen ec : Nat) (zs : List Int) (n z : Int) (w : World) (hx : X w t a) (hy : X w y b) (hz : Nm w ea elen zs) (hT : Lib.TabIs Tryd.prog w tabName .u64 Lib.pow10Tab) (ht : fewB t = true) (hf : fewB y = true) (h2 : ¬ (16 : Int) < elen) (h3 : ¬ (35 : Int) < depthF t) (h4 : ¬ (35 : Int) < depthF y) (h5 : ¬ (120 : Int) < sizeF t) (h6 : ¬ (120 : Int) < sizeF y) (h7 : rightB elen t = true) (h8 : rightB elen y = true) (hv : evalF zs t = (n, 0)) (hn0 : ¬ n = 0) (hnm : ¬ n = -9223372036854775808) :
    Calls Tryd.prog 6 #[exV t a c, exV y b d, .slice ea elen ec] w fun e w' => e = .returned (.bool true) ∧ Below w.heap.size w w' := by
  have hin : In64 n := by
    have := in_eval (fun i hi => hz.1.2 i (by rw [← hz.1.1]; exact hi)) hx (zs := zs)
    rw [hv] at this; exact this
  have hl := hz.1.1
  have d1 : depthF t ≤ 35 := by omega
  have d2 : depthF y ≤ 35 := by omega
  have s1 : sizeF t ≤ 120 := by omega
  have s2 : sizeF y ≤ 120 := by omega
  have et : valF zs t = evalF zs t := (eval_right hl h7).symm
  have ey : valF zs y = evalF zs y := (eval_right hl h8).symm
  have en : evalF zs (notE t) = valF zs (notE t) := eval_right hl (right_two 4 elen t (.inr rfl) h7 d1 s1)
  have em : evalF zs (negE t) = valF zs (negE t) := eval_right hl (right_two 3 elen t (.inl rfl) h7 d1 s1)
  have ei : evalF zs (ifE t y) = valF zs (ifE t y) := eval_right hl (right_if elen t y h7 h8 d1 s1 d2 s2)
  rw [hv] at et
  have V1 : Hid (evalF zs t = (n, 0)) := hv
  have V2 : Hid (evalF zs (notE t) = (1, 0)) := by have := en.trans (not_ok zs t _ et); rw [if_neg hn0] at this; exact this
  have V3 : Hid (evalF zs (negE t) = (n, 0)) := em.trans (neg_ok zs t n et hin hnm)
  have V4 : Hid (evalF zs (ifE t y) = evalF zs y) := ei.trans ((if_other zs t y _ et hn0).trans ey)
  clear hin
  clear hl d1 d2 s1 s2 et ey en em ei hv
  have KB : Hid (Bs _ w.heap.size (w.heap.size + 1) t y a b c d _) := bs_two w t y a b c d
  have B0 : Hid (Below w.heap.size w ((w.alloc (.cells #[.int .i64 t.kind, .int .i64 t.num, .slice a t.kids.length c] 24)).alloc (.cells #[.int .i64 y.kind, .int .i64 y.num, .slice b y.kids.length d] 24))) := two_al _ _ _
  have HX : Hid (X ((w.alloc (.cells #[.int .i64 t.kind, .int .i64 t.num, .slice a t.kids.length c] 24)).alloc (.cells #[.int .i64 y.kind, .int .i64 y.num, .slice b y.kids.length d] 24)) t a) := hx.below B0.out
  have HY : Hid (X ((w.alloc (.cells #[.int .i64 t.kind, .int .i64 t.num, .slice a t.kids.length c] 24)).alloc (.cells #[.int .i64 y.kind, .int .i64 y.num, .slice b y.kids.length d] 24)) y b) := hy.below B0.out
  have T0 : Hid (Lib.TabBelow Tryd.prog ((w.alloc (.cells #[.int .i64 t.kind, .int .i64 t.num, .slice a t.kids.length c] 24)).alloc (.cells #[.int .i64 y.kind, .int .i64 y.num, .slice b y.kids.length d] 24)).heap.size _ tabName .u64 Lib.pow10Tab) := Lib.tabBelow_of_tabIs (Lib.tabBelow_of_tabIs hT _ B0.out)
  have Ft : Hid (fewB t = true) := ht
  have Fy : Hid (fewB y = true) := hf
  have HZ : Hid (Nm ((w.alloc (.cells #[.int .i64 t.kind, .int .i64 t.num, .slice a t.kids.length c] 24)).alloc (.cells #[.int .i64 y.kind, .int .i64 y.num, .slice b y.kids.length d] 24)) ea elen zs) := hz.below B0.out
  have ST : Hid (sizeF t ≤ 1000000) := Nat.le_trans (fewB_size ht) (by decide)
  have SY : Hid (sizeF y ≤ 1000000) := Nat.le_trans (fewB_size hf) (by decide)
  have RT : Hid (rightB elen t = true) := h7
  have RY : Hid (rightB elen y = true) := h8
  clear hx hy hT ht hf h7 h8
  go_enter Tryd.func6, Tryd.ntmps6
  go_wp2_with fail
  refine (Bs.call (by first | exact KB.out | exact KB.out.al _ | exact (KB.out.al _).al _) (fun hb => small_any _ (Lib.tabBelow_of_tabIs (T0.out _ hb)))).mono ?_
  clear KB
  rintro e w1 ⟨he, KB, ⟨⟨b0, b1, b2⟩, bl⟩, ⟨d0, d1, d2⟩, dl⟩
  subst he
  go_wp2_with fail
  refine (Bs.call (by first | exact KB.out | exact KB.out.al _ | exact (KB.out.al _).al _) (fun hb => Few_any t _ a c (HX.out.below hb))).mono ?_
  clear KB b0 b1 b2 bl d0 d1 d2 dl
  rintro e w2 ⟨he, KB, ⟨⟨b0, b1, b2⟩, bl⟩, ⟨d0, d1, d2⟩, dl⟩
  rw [Ft.out] at he
  subst he
  go_wp2_with fail
  refine (Bs.call (by first | exact KB.out | exact KB.out.al _ | exact (KB.out.al _).al _) (fun hb => Few_any y _ b d (HY.out.below hb))).mono ?_
  clear KB b0 b1 b2 bl d0 d1 d2 dl
  rintro e w3 ⟨he, KB, ⟨⟨b0, b1, b2⟩, bl⟩, ⟨d0, d1, d2⟩, dl⟩
  rw [Fy.out] at he
  subst he
  go_wp2_with fail
  refine (Bs.call (by first | exact KB.out | exact KB.out.al _ | exact (KB.out.al _).al _) (fun hb => depth_any t _ a c (HX.out.below hb) ST.out)).mono ?_
  clear KB b0 b1 b2 bl d0 d1 d2 dl
  rintro e w4 ⟨he, KB, ⟨⟨b0, b1, b2⟩, bl⟩, ⟨d0, d1, d2⟩, dl⟩
  subst he
  go_wp2_with fail
  refine (Bs.call (by first | exact KB.out | exact KB.out.al _ | exact (KB.out.al _).al _) (fun hb => depth_any y _ b d (HY.out.below hb) SY.out)).mono ?_
  clear KB b0 b1 b2 bl d0 d1 d2 dl
  rintro e w5 ⟨he, KB, ⟨⟨b0, b1, b2⟩, bl⟩, ⟨d0, d1, d2⟩, dl⟩
  subst he
  go_wp2_with fail
  refine (Bs.call (by first | exact KB.out | exact KB.out.al _ | exact (KB.out.al _).al _) (fun hb => size_any t _ a c (HX.out.below hb) ST.out)).mono ?_
  clear KB b0 b1 b2 bl d0 d1 d2 dl
  rintro e w6 ⟨he, KB, ⟨⟨b0, b1, b2⟩, bl⟩, ⟨d0, d1, d2⟩, dl⟩
  subst he
  go_wp2_with fail
  refine (Bs.call (by first | exact KB.out | exact KB.out.al _ | exact (KB.out.al _).al _) (fun hb => size_any y _ b d (HY.out.below hb) SY.out)).mono ?_
  clear KB b0 b1 b2 bl d0 d1 d2 dl
  rintro e w7 ⟨he, KB, ⟨⟨b0, b1, b2⟩, bl⟩, ⟨d0, d1, d2⟩, dl⟩
  subst he
  go_wp2_with fail
  refine (Bs.call (by first | exact KB.out | exact KB.out.al _ | exact (KB.out.al _).al _) (fun hb => right_any t _ a c elen (HX.out.below hb))).mono ?_
  clear KB b0 b1 b2 bl d0 d1 d2 dl
  rintro e w8 ⟨he, KB, ⟨⟨b0, b1, b2⟩, bl⟩, ⟨d0, d1, d2⟩, dl⟩
  rw [RT.out] at he
  subst he
  go_wp2_with fail
  refine (Bs.call (by first | exact KB.out | exact KB.out.al _ | exact (KB.out.al _).al _) (fun hb => right_any y _ b d elen (HY.out.below hb))).mono ?_
  clear KB b0 b1 b2 bl d0 d1 d2 dl
  rintro e w9 ⟨he, KB, ⟨⟨b0, b1, b2⟩, bl⟩, ⟨d0, d1, d2⟩, dl⟩
  rw [RY.out] at he
  subst he
  go_wp2_with fail
  refine (Bs.call (by first | exact KB.out | exact KB.out.al _ | exact (KB.out.al _).al _) (fun hb => eval_any zs t _ a ea c elen ec (HX.out.below hb) (HZ.out.below hb))).mono ?_
  clear KB b0 b1 b2 bl d0 d1 d2 dl
  rintro e w10 ⟨he, KB, ⟨⟨b0, b1, b2⟩, bl⟩, ⟨d0, d1, d2⟩, dl⟩
  rw [V1.out] at he
  subst he
  go_wp2_with fail
  refine (Bs.call (by first | exact KB.out | exact KB.out.al _ | exact (KB.out.al _).al _) (fun hb => eval_any zs y _ b ea d elen ec (HY.out.below hb) (HZ.out.below hb))).mono ?_
  clear KB b0 b1 b2 bl d0 d1 d2 dl
  rintro e w11 ⟨he, KB, ⟨⟨b0, b1, b2⟩, bl⟩, ⟨d0, d1, d2⟩, dl⟩
  subst he
  obtain ⟨⟨q1, q2, q3⟩, q4, q5⟩ := nest_facts w11 t y a b c d (HX.out.below KB.out.1) (HY.out.below KB.out.1)
  have HZ2 : Hid (Nm (nestW w11 t y a b c d) ea elen zs) := (HZ.out.below KB.out.1).below q4
  have B1 : Hid (Below w.heap.size w (nestW w11 t y a b c d)) := (bs_end B0.out KB.out).trans (q4.mono (bs_end B0.out KB.out).size)
  have HQ1 : Hid (X (nestW w11 t y a b c d) (notE t) (some ⟨w11.heap.size + 1, 0, none⟩)) := q1
  have HQ2 : Hid (X (nestW w11 t y a b c d) (negE t) (some ⟨w11.heap.size + 1 + 1 + 1 + 1, 0, none⟩)) := q2
  have HQ3 : Hid (X (nestW w11 t y a b c d) (ifE t y) (some ⟨w11.heap.size + 1 + 1 + 1 + 1 + 1 + 1, 0, none⟩)) := q3
  have KB2 : Hid (Bs _ _ _ _ _ _ _ _ _ _) := q5
  clear KB B0 HX HY HZ q1 q2 q3 q4 q5
  have KB := KB2
  have B0 := B1
  have HZ := HZ2
  clear KB2 B1 HZ2
  have : w.heap.size < w11.heap.size := by omega
  have : ¬ w.heap.size = w11.heap.size := by omega
  have : ¬ w11.heap.size = w.heap.size := by omega
  have : w.heap.size < w11.heap.size + 1 := by omega
  have : ¬ w.heap.size = w11.heap.size + 1 := by omega
  have : ¬ w11.heap.size + 1 = w.heap.size := by omega
  have : w.heap.size < w11.heap.size + 1 + 1 := by omega
  have : ¬ w.heap.size = w11.heap.size + 1 + 1 := by omega
  have : ¬ w11.heap.size + 1 + 1 = w.heap.size := by omega
  have : w.heap.size < w11.heap.size + 1 + 1 + 1 := by omega
  have : ¬ w.heap.size = w11.heap.size + 1 + 1 + 1 := by omega
  have : ¬ w11.heap.size + 1 + 1 + 1 = w.heap.size := by omega
  have : w.heap.size < w11.heap.size + 1 + 1 + 1 + 1 := by omega
  have : ¬ w.heap.size = w11.heap.size + 1 + 1 + 1 + 1 := by omega
  have : ¬ w11.heap.size + 1 + 1 + 1 + 1 = w.heap.size := by omega
  have : w.heap.size < w11.heap.size + 1 + 1 + 1 + 1 + 1 := by omega
  have : ¬ w.heap.size = w11.heap.size + 1 + 1 + 1 + 1 + 1 := by omega
  have : ¬ w11.heap.size + 1 + 1 + 1 + 1 + 1 = w.heap.size := by omega
  have : w.heap.size < w11.heap.size + 1 + 1 + 1 + 1 + 1 + 1 := by omega
  have : ¬ w.heap.size = w11.heap.size + 1 + 1 + 1 + 1 + 1 + 1 := by omega
  have : ¬ w11.heap.size + 1 + 1 + 1 + 1 + 1 + 1 = w.heap.size := by omega
  have : w.heap.size < w11.heap.size + 1 + 1 + 1 + 1 + 1 + 1 + 1 := by omega
  have : ¬ w.heap.size = w11.heap.size + 1 + 1 + 1 + 1 + 1 + 1 + 1 := by omega
  have : ¬ w11.heap.size + 1 + 1 + 1 + 1 + 1 + 1 + 1 = w.heap.size := by omega
  have : w.heap.size + 1 < w11.heap.size := by omega
  have : ¬ w.heap.size + 1 = w11.heap.size := by omega
  have : ¬ w11.heap.size = w.heap.size + 1 := by omega
  have : w.heap.size + 1 < w11.heap.size + 1 := by omega
  have : ¬ w.heap.size + 1 = w11.heap.size + 1 := by omega
  have : ¬ w11.heap.size + 1 = w.heap.size + 1 := by omega
  have : w.heap.size + 1 < w11.heap.size + 1 + 1 := by omega
  have : ¬ w.heap.size + 1 = w11.heap.size + 1 + 1 := by omega
  have : ¬ w11.heap.size + 1 + 1 = w.heap.size + 1 := by omega
  have : w.heap.size + 1 < w11.heap.size + 1 + 1 + 1 := by omega
  have : ¬ w.heap.size + 1 = w11.heap.size + 1 + 1 + 1 := by omega
  have : ¬ w11.heap.size + 1 + 1 + 1 = w.heap.size + 1 := by omega
  have : w.heap.size + 1 < w11.heap.size + 1 + 1 + 1 + 1 := by omega
  have : ¬ w.heap.size + 1 = w11.heap.size + 1 + 1 + 1 + 1 := by omega
  have : ¬ w11.heap.size + 1 + 1 + 1 + 1 = w.heap.size + 1 := by omega
  have : w.heap.size + 1 < w11.heap.size + 1 + 1 + 1 + 1 + 1 := by omega
  have : ¬ w.heap.size + 1 = w11.heap.size + 1 + 1 + 1 + 1 + 1 := by omega
  have : ¬ w11.heap.size + 1 + 1 + 1 + 1 + 1 = w.heap.size + 1 := by omega
  have : w.heap.size + 1 < w11.heap.size + 1 + 1 + 1 + 1 + 1 + 1 := by omega
  have : ¬ w.heap.size + 1 = w11.heap.size + 1 + 1 + 1 + 1 + 1 + 1 := by omega
  have : ¬ w11.heap.size + 1 + 1 + 1 + 1 + 1 + 1 = w.heap.size + 1 := by omega
  have : w.heap.size + 1 < w11.heap.size + 1 + 1 + 1 + 1 + 1 + 1 + 1 := by omega
  have : ¬ w.heap.size + 1 = w11.heap.size + 1 + 1 + 1 + 1 + 1 + 1 + 1 := by omega
  have : ¬ w11.heap.size + 1 + 1 + 1 + 1 + 1 + 1 + 1 = w.heap.size + 1 := by omega
  go_wp2_with fail
  refine (Bs.call (by first | exact KB.out | exact KB.out.al _ | exact (KB.out.al _).al _) (fun hb => eval_any zs (notE t) _ (some ⟨w11.heap.size + 1, 0, none⟩) ea 1 elen ec (HQ1.out.below hb) (HZ.out.below hb))).mono ?_
  clear KB b0 b1 b2 bl d0 d1 d2 dl
  rintro e w12 ⟨he, KB, ⟨⟨b0, b1, b2⟩, bl⟩, ⟨d0, d1, d2⟩, dl⟩
  rw [V2.out] at he
  subst he
  go_wp2_with fail
  refine (Bs.call (by first | exact KB.out | exact KB.out.al _ | exact (KB.out.al _).al _) (fun hb => eval_any zs (negE t) _ (some ⟨w11.heap.size + 1 + 1 + 1 + 1, 0, none⟩) ea 1 elen ec (HQ2.out.below hb) (HZ.out.below hb))).mono ?_
  clear KB b0 b1 b2 bl d0 d1 d2 dl
  rintro e w13 ⟨he, KB, ⟨⟨b0, b1, b2⟩, bl⟩, ⟨d0, d1, d2⟩, dl⟩
  rw [V3.out] at he
  subst he
  go_wp2_with fail
  refine (Bs.call (by first | exact KB.out | exact KB.out.al _ | exact (KB.out.al _).al _) (fun hb => eval_any zs (ifE t y) _ (some ⟨w11.heap.size + 1 + 1 + 1 + 1 + 1 + 1, 0, none⟩) ea 3 elen ec (HQ3.out.below hb) (HZ.out.below hb))).mono ?_
  clear KB b0 b1 b2 bl d0 d1 d2 dl
  rintro e w14 ⟨he, KB, ⟨⟨b0, b1, b2⟩, bl⟩, ⟨d0, d1, d2⟩, dl⟩
  rw [V4.out] at he
  subst he
  go_wp2_with fail
  go_ret
  first | exact ⟨rfl, bs_end B0.out KB.out⟩ | exact ⟨rfl, bs_end B0.out (KB.out.al _)⟩ | exact ⟨rfl, bs_end B0.out ((KB.out.al _).al _)⟩

end Go.Proofs.YtligologdfgggaaDoor.Expr
