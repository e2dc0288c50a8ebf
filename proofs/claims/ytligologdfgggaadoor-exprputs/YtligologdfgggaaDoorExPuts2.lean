/- The last ways through ExprPuts, over the turned program. -/
import Derived.Test.YtligologdfgggaaDoorExPuts1
namespace Go.Proofs.YtligologdfgggaaDoor.Expr
open Go.RowKit Go.Proofs.YtligologdfgggaaDoor.Frame Go.Proofs.YtligologdfgggaaDoor.Calc
set_option linter.unusedVariables false
set_option linter.unusedSimpArgs false

set_option maxRecDepth 100000 in
set_option maxHeartbeats 4000000 in
theorem puts_8 (t y : Ex) (a b : Option Addr) (c d : Nat) (ea : Option Addr) (elen ec : Nat) (zs : List Int) (k : Int) (v : Int) (w : World) (hx : X w t a) (hy : X w y b) (hz : Nm w ea elen zs) (hT : Lib.TabIs Tryd.prog w tabName .u64 Lib.pow10Tab) (ht : fewB t = true) (hf : fewB y = true) (hc : (elen : Int) ≤ 16 ∧ 0 ≤ k ∧ k < elen) (hr : rightB elen t = true) (hv : evalF zs y = (v, 0)) (hp : rightB elen (putF k y t) = false) :
    Calls Tryd.prog 4 #[exV t a c, exV y b d, .slice ea elen ec, .int .i64 k] w fun e w' => e = .returned (.bool true) ∧ Below w.heap.size w w' := by
  have KB : Hid (Bs _ w.heap.size (w.heap.size + 1) t y a b c d _) := bs_two w t y a b c d
  have B0 : Hid (Below w.heap.size w ((w.alloc (.cells #[.int .i64 t.kind, .int .i64 t.num, .slice a t.kids.length c] 24)).alloc (.cells #[.int .i64 y.kind, .int .i64 y.num, .slice b y.kids.length d] 24))) := two_al _ _ _
  have HX : Hid (X ((w.alloc (.cells #[.int .i64 t.kind, .int .i64 t.num, .slice a t.kids.length c] 24)).alloc (.cells #[.int .i64 y.kind, .int .i64 y.num, .slice b y.kids.length d] 24)) t a) := hx.below B0.out
  have HY : Hid (X ((w.alloc (.cells #[.int .i64 t.kind, .int .i64 t.num, .slice a t.kids.length c] 24)).alloc (.cells #[.int .i64 y.kind, .int .i64 y.num, .slice b y.kids.length d] 24)) y b) := hy.below B0.out
  have T0 : Hid (Lib.TabBelow Tryd.prog ((w.alloc (.cells #[.int .i64 t.kind, .int .i64 t.num, .slice a t.kids.length c] 24)).alloc (.cells #[.int .i64 y.kind, .int .i64 y.num, .slice b y.kids.length d] 24)).heap.size _ tabName .u64 Lib.pow10Tab) := Lib.tabBelow_of_tabIs (Lib.tabBelow_of_tabIs hT _ B0.out)
  have EV : Hid (evalF zs y = (v, 0)) := hv
  have RP : Hid (rightB elen (putF k y t) = false) := hp
  have RT : Hid (rightB elen t = true) := hr
  have Ft : Hid (fewB t = true) := ht
  have Fy : Hid (fewB y = true) := hf
  have HZ : Hid (Nm ((w.alloc (.cells #[.int .i64 t.kind, .int .i64 t.num, .slice a t.kids.length c] 24)).alloc (.cells #[.int .i64 y.kind, .int .i64 y.num, .slice b y.kids.length d] 24)) ea elen zs) := hz.below B0.out
  have ST : Hid (sizeF t ≤ 1000000) := Nat.le_trans (fewB_size ht) (by decide)
  have SY : Hid (sizeF y ≤ 1000000) := Nat.le_trans (fewB_size hf) (by decide)
  obtain ⟨h1, h2, h4⟩ := hc
  have h3 : ¬ (16 : Int) < elen := by omega
  have h5 : ¬ k < 0 := by omega
  have h6 : ¬ (elen : Int) ≤ k := by omega
  clear hx hy hT ht hf hz
  go_enter Tryd.func4, Tryd.ntmps4
  go_wp2_with fail
  refine (Bs.call (by first | exact KB.out | exact KB.out.al _ | exact (KB.out.al _).al _) (fun hb => small_any _ (Lib.tabBelow_of_tabIs (T0.out _ hb)))).mono ?_
  clear KB
  rintro e w1 ⟨he, KB, ⟨⟨b0, b1, b2⟩, bl⟩, ⟨d0, d1, d2⟩, dl⟩
  subst he
  go_wp2_with fail
  refine (Bs.call (by first | exact KB.out | exact KB.out.al _ | exact (KB.out.al _).al _) (fun hb => Few_any t _ a c (HX.out.below hb))).mono ?_
  clear KB b0 b1 b2 bl d0 d1 d2 dl
  rintro e w2 ⟨he, KB, ⟨⟨b0, b1, b2⟩, bl⟩, ⟨d0, d1, d2⟩, dl⟩
  rw [Ft.out] at he
  subst he
  go_wp2_with fail
  refine (Bs.call (by first | exact KB.out | exact KB.out.al _ | exact (KB.out.al _).al _) (fun hb => Few_any y _ b d (HY.out.below hb))).mono ?_
  clear KB b0 b1 b2 bl d0 d1 d2 dl
  rintro e w3 ⟨he, KB, ⟨⟨b0, b1, b2⟩, bl⟩, ⟨d0, d1, d2⟩, dl⟩
  rw [Fy.out] at he
  subst he
  go_wp2_with fail
  refine (Bs.call (by first | exact KB.out | exact KB.out.al _ | exact (KB.out.al _).al _) (fun hb => right_any t _ a c elen (HX.out.below hb))).mono ?_
  clear KB b0 b1 b2 bl d0 d1 d2 dl
  rintro e w4 ⟨he, KB, ⟨⟨b0, b1, b2⟩, bl⟩, ⟨d0, d1, d2⟩, dl⟩
  rw [RT.out] at he
  subst he
  go_wp2_with fail
  refine (Bs.call (by first | exact KB.out | exact KB.out.al _ | exact (KB.out.al _).al _) (fun hb => eval_any zs y _ b ea d elen ec (HY.out.below hb) (HZ.out.below hb))).mono ?_
  clear KB b0 b1 b2 bl d0 d1 d2 dl
  rintro e w5 ⟨he, KB, ⟨⟨b0, b1, b2⟩, bl⟩, ⟨d0, d1, d2⟩, dl⟩
  rw [EV.out] at he
  subst he
  go_wp2_with fail
  refine (Bs.call (by first | exact KB.out | exact KB.out.al _ | exact (KB.out.al _).al _) (fun hb => (put_any k y t _ a b c d (HX.out.below hb) (HY.out.below hb) ST.out SY.out).mono fun e w' h => by obtain ⟨a', c', he, hx', hb'⟩ := h; exact (⟨⟨a', c', he, hx'.x⟩, hb'⟩ : (∃ a' c', e = .returned (exV (putF k y t) a' c') ∧ X w' (putF k y t) a') ∧ Below _ _ w'))).mono ?_
  clear KB b0 b1 b2 bl d0 d1 d2 dl
  rintro e w6 ⟨⟨ap, cp, he, hxp⟩, KB, ⟨⟨b0, b1, b2⟩, bl⟩, ⟨d0, d1, d2⟩, dl⟩
  subst he
  have HX2 : Hid (X (w6.alloc (.cells #[.int .i64 (putF k y t).kind, .int .i64 (putF k y t).num, .slice ap (putF k y t).kids.length cp] 24)) t a) := (HX.out.below KB.out.1).below (al1 _ _)
  have HZ2 : Hid (Nm (w6.alloc (.cells #[.int .i64 (putF k y t).kind, .int .i64 (putF k y t).num, .slice ap (putF k y t).kids.length cp] 24)) ea elen zs) := (HZ.out.below KB.out.1).below (al1 _ _)
  have HP : Hid (X (w6.alloc (.cells #[.int .i64 (putF k y t).kind, .int .i64 (putF k y t).num, .slice ap (putF k y t).kids.length cp] 24)) (putF k y t) ap) := hxp.below (al1 _ _)
  have B1 : Hid (Below w.heap.size w (w6.alloc (.cells #[.int .i64 (putF k y t).kind, .int .i64 (putF k y t).num, .slice ap (putF k y t).kids.length cp] 24))) := bs_end B0.out (KB.out.al _)
  have KB2 : Hid (Bs _ w.heap.size w6.heap.size t (putF k y t) a ap c cp _) := bs_next KB.out (putF k y t) ap cp
  clear KB B0 HX HY HZ hxp
  have KB := KB2
  have B0 := B1
  have HX := HX2
  have HZ := HZ2
  clear KB2 B1 HX2 HZ2
  go_wp2_with fail
  refine (Bs.call (by first | exact KB.out | exact KB.out.al _ | exact (KB.out.al _).al _) (fun hb => right_any (putF k y t) _ ap cp elen (HP.out.below hb))).mono ?_
  clear KB b0 b1 b2 bl d0 d1 d2 dl
  rintro e w7 ⟨he, KB, ⟨⟨b0, b1, b2⟩, bl⟩, ⟨d0, d1, d2⟩, dl⟩
  rw [RP.out] at he
  subst he
  go_wp2_with fail
  go_ret
  first | exact ⟨rfl, bs_end B0.out KB.out⟩ | exact ⟨rfl, bs_end B0.out (KB.out.al _)⟩ | exact ⟨rfl, bs_end B0.out ((KB.out.al _).al _)⟩

set_option maxRecDepth 100000 in
set_option maxHeartbeats 4000000 in
theorem puts_9 (t y : Ex) (a b : Option Addr) (c d : Nat) (ea : Option Addr) (elen ec : Nat) (zs : List Int) (k : Int) (v : Int) (w : World) (hx : X w t a) (hy : X w y b) (hz : Nm w ea elen zs) (hT : Lib.TabIs Tryd.prog w tabName .u64 Lib.pow10Tab) (ht : fewB t = true) (hf : fewB y = true) (hc : (elen : Int) ≤ 16 ∧ 0 ≤ k ∧ k < elen) (hr : rightB elen t = true) (hv : evalF zs y = (v, 0)) (hp : rightB elen (putF k y t) = true) :
    Calls Tryd.prog 4 #[exV t a c, exV y b d, .slice ea elen ec, .int .i64 k] w fun e w' => e = .returned (.bool true) ∧ Below w.heap.size w w' := by
  obtain ⟨kn, rfl⟩ := Int.eq_ofNat_of_zero_le hc.2.1
  have hkl : kn < elen := by omega
  have HV : Hid (In64 v) := by
    have := in_eval (fun i hi => hz.1.2 i (by rw [← hz.1.1]; exact hi)) hy (zs := zs)
    rw [hv] at this; exact this
  have EQ : Hid (evalF (zs.set kn v) t = evalF zs (putF kn y t)) := eval_put zs kn v y t (by rw [hz.1.1]; exact hkl) hv (by rw [hz.1.1]; exact hr) (by rw [hz.1.1]; exact hp)
  have IZ : Hid (∀ i, i < elen → In64 (zs.getD i 0)) := hz.1.2
  have KB : Hid (Bs _ w.heap.size (w.heap.size + 1) t y a b c d _) := bs_two w t y a b c d
  have B0 : Hid (Below w.heap.size w ((w.alloc (.cells #[.int .i64 t.kind, .int .i64 t.num, .slice a t.kids.length c] 24)).alloc (.cells #[.int .i64 y.kind, .int .i64 y.num, .slice b y.kids.length d] 24))) := two_al _ _ _
  have HX : Hid (X ((w.alloc (.cells #[.int .i64 t.kind, .int .i64 t.num, .slice a t.kids.length c] 24)).alloc (.cells #[.int .i64 y.kind, .int .i64 y.num, .slice b y.kids.length d] 24)) t a) := hx.below B0.out
  have HY : Hid (X ((w.alloc (.cells #[.int .i64 t.kind, .int .i64 t.num, .slice a t.kids.length c] 24)).alloc (.cells #[.int .i64 y.kind, .int .i64 y.num, .slice b y.kids.length d] 24)) y b) := hy.below B0.out
  have T0 : Hid (Lib.TabBelow Tryd.prog ((w.alloc (.cells #[.int .i64 t.kind, .int .i64 t.num, .slice a t.kids.length c] 24)).alloc (.cells #[.int .i64 y.kind, .int .i64 y.num, .slice b y.kids.length d] 24)).heap.size _ tabName .u64 Lib.pow10Tab) := Lib.tabBelow_of_tabIs (Lib.tabBelow_of_tabIs hT _ B0.out)
  have EV : Hid (evalF zs y = (v, 0)) := hv
  have RP : Hid (rightB elen (putF kn y t) = true) := hp
  have RT : Hid (rightB elen t = true) := hr
  have Ft : Hid (fewB t = true) := ht
  have Fy : Hid (fewB y = true) := hf
  have HZ : Hid (Nm ((w.alloc (.cells #[.int .i64 t.kind, .int .i64 t.num, .slice a t.kids.length c] 24)).alloc (.cells #[.int .i64 y.kind, .int .i64 y.num, .slice b y.kids.length d] 24)) ea elen zs) := hz.below B0.out
  have ST : Hid (sizeF t ≤ 1000000) := Nat.le_trans (fewB_size ht) (by decide)
  have SY : Hid (sizeF y ≤ 1000000) := Nat.le_trans (fewB_size hf) (by decide)
  obtain ⟨h1, h2, h4⟩ := hc
  have h3 : ¬ (16 : Int) < elen := by omega
  have h5 : ¬ (kn : Int) < 0 := by omega
  have h6 : ¬ (elen : Int) ≤ kn := by omega
  clear hx hy hT ht hf hz
  go_enter Tryd.func4, Tryd.ntmps4
  go_wp2_with fail
  refine (Bs.call (by first | exact KB.out | exact KB.out.al _ | exact (KB.out.al _).al _) (fun hb => small_any _ (Lib.tabBelow_of_tabIs (T0.out _ hb)))).mono ?_
  clear KB
  rintro e w1 ⟨he, KB, ⟨⟨b0, b1, b2⟩, bl⟩, ⟨d0, d1, d2⟩, dl⟩
  subst he
  go_wp2_with fail
  refine (Bs.call (by first | exact KB.out | exact KB.out.al _ | exact (KB.out.al _).al _) (fun hb => Few_any t _ a c (HX.out.below hb))).mono ?_
  clear KB b0 b1 b2 bl d0 d1 d2 dl
  rintro e w2 ⟨he, KB, ⟨⟨b0, b1, b2⟩, bl⟩, ⟨d0, d1, d2⟩, dl⟩
  rw [Ft.out] at he
  subst he
  go_wp2_with fail
  refine (Bs.call (by first | exact KB.out | exact KB.out.al _ | exact (KB.out.al _).al _) (fun hb => Few_any y _ b d (HY.out.below hb))).mono ?_
  clear KB b0 b1 b2 bl d0 d1 d2 dl
  rintro e w3 ⟨he, KB, ⟨⟨b0, b1, b2⟩, bl⟩, ⟨d0, d1, d2⟩, dl⟩
  rw [Fy.out] at he
  subst he
  go_wp2_with fail
  refine (Bs.call (by first | exact KB.out | exact KB.out.al _ | exact (KB.out.al _).al _) (fun hb => right_any t _ a c elen (HX.out.below hb))).mono ?_
  clear KB b0 b1 b2 bl d0 d1 d2 dl
  rintro e w4 ⟨he, KB, ⟨⟨b0, b1, b2⟩, bl⟩, ⟨d0, d1, d2⟩, dl⟩
  rw [RT.out] at he
  subst he
  go_wp2_with fail
  refine (Bs.call (by first | exact KB.out | exact KB.out.al _ | exact (KB.out.al _).al _) (fun hb => eval_any zs y _ b ea d elen ec (HY.out.below hb) (HZ.out.below hb))).mono ?_
  clear KB b0 b1 b2 bl d0 d1 d2 dl
  rintro e w5 ⟨he, KB, ⟨⟨b0, b1, b2⟩, bl⟩, ⟨d0, d1, d2⟩, dl⟩
  rw [EV.out] at he
  subst he
  go_wp2_with fail
  refine (Bs.call (by first | exact KB.out | exact KB.out.al _ | exact (KB.out.al _).al _) (fun hb => (put_any kn y t _ a b c d (HX.out.below hb) (HY.out.below hb) ST.out SY.out).mono fun e w' h => by obtain ⟨a', c', he, hx', hb'⟩ := h; exact (⟨⟨a', c', he, hx'.x⟩, hb'⟩ : (∃ a' c', e = .returned (exV (putF kn y t) a' c') ∧ X w' (putF kn y t) a') ∧ Below _ _ w'))).mono ?_
  clear KB b0 b1 b2 bl d0 d1 d2 dl
  rintro e w6 ⟨⟨ap, cp, he, hxp⟩, KB, ⟨⟨b0, b1, b2⟩, bl⟩, ⟨d0, d1, d2⟩, dl⟩
  subst he
  have HX2 : Hid (X (w6.alloc (.cells #[.int .i64 (putF kn y t).kind, .int .i64 (putF kn y t).num, .slice ap (putF kn y t).kids.length cp] 24)) t a) := (HX.out.below KB.out.1).below (al1 _ _)
  have HZ2 : Hid (Nm (w6.alloc (.cells #[.int .i64 (putF kn y t).kind, .int .i64 (putF kn y t).num, .slice ap (putF kn y t).kids.length cp] 24)) ea elen zs) := (HZ.out.below KB.out.1).below (al1 _ _)
  have HP : Hid (X (w6.alloc (.cells #[.int .i64 (putF kn y t).kind, .int .i64 (putF kn y t).num, .slice ap (putF kn y t).kids.length cp] 24)) (putF kn y t) ap) := hxp.below (al1 _ _)
  have B1 : Hid (Below w.heap.size w (w6.alloc (.cells #[.int .i64 (putF kn y t).kind, .int .i64 (putF kn y t).num, .slice ap (putF kn y t).kids.length cp] 24))) := bs_end B0.out (KB.out.al _)
  have KB2 : Hid (Bs _ w.heap.size w6.heap.size t (putF kn y t) a ap c cp _) := bs_next KB.out (putF kn y t) ap cp
  clear KB B0 HX HY HZ hxp
  have KB := KB2
  have B0 := B1
  have HX := HX2
  have HZ := HZ2
  clear KB2 B1 HX2 HZ2
  go_wp2_with fail
  refine (Bs.call (by first | exact KB.out | exact KB.out.al _ | exact (KB.out.al _).al _) (fun hb => right_any (putF kn y t) _ ap cp elen (HP.out.below hb))).mono ?_
  clear KB b0 b1 b2 bl d0 d1 d2 dl
  rintro e w7 ⟨he, KB, ⟨⟨b0, b1, b2⟩, bl⟩, ⟨d0, d1, d2⟩, dl⟩
  rw [RP.out] at he
  subst he
  obtain ⟨g, cg, w8, hrun, hown, hb8⟩ := copy_own w7 33 ea elen ec zs (by omega) (by omega) (HZ.out.below KB.out.1)
  obtain ⟨hg1, hg2, hg3, hg4, hg5, hg6⟩ := own_facts hown
  have hck := hg4 kn hkl
  have hfk := hg5 kn
  have KC : Hid (Nm (w8.setCell ⟨g, kn, none⟩ (.int .i64 v)) (some ⟨g, 0, none⟩) elen (zs.set kn v)) := nm_set hown IZ.out hkl HV.out
  have KD : Hid (Below w7.heap.size w7 (w8.setCell ⟨g, kn, none⟩ (.int .i64 v))) := hb8.setCell (p := ⟨g, kn, none⟩) hg1 _
  obtain ⟨⟨⟨x0, x1, x2⟩, xl⟩, ⟨y0, y1, y2⟩, yl⟩ := (KB.out.on hb8).cells
  have ne1 : ¬ w.heap.size = g := by omega
  have ne2 : ¬ g = w.heap.size := by omega
  have ne3 : ¬ w6.heap.size = g := by omega
  have ne4 : ¬ g = w6.heap.size := by omega
  have hkl' : (kn : Int) < elen := by omega
  have KBn : Hid (Bs _ _ _ _ _ _ _ _ _ _) := KB.out.on KD.out
  have HR : Hid (_ = _) := hrun
  clear hown hb8 hg4 hg5 KB b0 b1 b2 bl d0 d1 d2 dl hrun KD
  have KB := KBn
  clear KBn
  go_wp2_with (at_builtin; refine wpList_append_run rfl _ _ _ _ rfl rfl rfl HR.out ?_)
  go_wp2_with fail
  refine (Bs.call (by first | exact KB.out | exact KB.out.al _ | exact (KB.out.al _).al _) (fun hb => (eval_any zs (putF kn y t) _ ap ea cp elen ec (HP.out.below hb) (HZ.out.below hb)).mono fun e w' h => (⟨h, h.2⟩ : (_ ∧ _) ∧ _))).mono ?_
  clear KB
  rintro e w8 ⟨⟨he, KE⟩, KB, ⟨⟨b0, b1, b2⟩, bl⟩, ⟨d0, d1, d2⟩, dl⟩
  subst he
  have KC2 : Hid (Nm w8 (some ⟨g, 0, none⟩) elen (zs.set kn v)) := KC.out.below KE
  clear KC KE
  go_wp2_with fail
  refine (Bs.call (by first | exact KB.out | exact KB.out.al _ | exact (KB.out.al _).al _) (fun hb => eval_any (zs.set kn v) t _ a (some ⟨g, 0, none⟩) c elen cg (HX.out.below hb) KC2.out)).mono ?_
  clear KB b0 b1 b2 bl d0 d1 d2 dl
  rintro e w9 ⟨he, KB, ⟨⟨b0, b1, b2⟩, bl⟩, ⟨d0, d1, d2⟩, dl⟩
  rw [EQ.out] at he
  subst he
  go_wp2_with fail
  go_ret
  first | exact ⟨rfl, bs_end B0.out KB.out⟩ | exact ⟨rfl, bs_end B0.out (KB.out.al _)⟩ | exact ⟨rfl, bs_end B0.out ((KB.out.al _).al _)⟩

end Go.Proofs.YtligologdfgggaaDoor.Expr
