/- The ways through ExprEvals, over the turned program. -/
import Derived.Test.YtligologdfgggaaGreatDoorExRef3
namespace Go.Proofs.YtligologdfgggaaGreatDoor.Expr
open Go.RowKit Go.Proofs.YtligologdfgggaaGreatDoor.Frame Go.Proofs.YtligologdfgggaaGreatDoor.Calc
set_option linter.unusedVariables false
set_option linter.unusedSimpArgs false

set_option maxRecDepth 100000 in
set_option maxHeartbeats 4000000 in
theorem evals_1 (t : Ex) (a : Option Addr) (c : Nat) (ea : Option Addr) (elen ec : Nat) (zs : List Int) (w : World) (hx : X w t a) (hz : Nm w ea elen zs) (hT : Lib.TabIs Tryz.prog w tabName .u64 Lib.pow10Tab) (ht : fewB t = false) :
    Calls Tryz.prog 4 #[exV t a c, .slice ea elen ec] w fun e w' => e = .returned (.bool true) ∧ Below w.heap.size w w' := by
  have KB : Hid (Bs _ w.heap.size w.heap.size t t a a c c _) := bs_one w t a c
  have B0 : Hid (Below w.heap.size w (w.alloc (.cells #[.int .i64 t.kind, .int .i64 t.num, .slice a t.kids.length c] 24))) := al1 _ _
  have HX : Hid (X (w.alloc (.cells #[.int .i64 t.kind, .int .i64 t.num, .slice a t.kids.length c] 24)) t a) := hx.below B0.out
  have T0 : Hid (Lib.TabBelow Tryz.prog (w.alloc (.cells #[.int .i64 t.kind, .int .i64 t.num, .slice a t.kids.length c] 24)).heap.size _ tabName .u64 Lib.pow10Tab) := Lib.tabBelow_of_tabIs (Lib.tabBelow_of_tabIs hT _ B0.out)
  have Ft : Hid (fewB t = false) := ht
  clear hx hT ht hz
  go_enter Tryz.func4, Tryz.ntmps4
  go_wp2_with fail
  refine (Bs.call (by first | exact KB.out | exact KB.out.al _ | exact (KB.out.al _).al _) (fun hb => small_any _ (Lib.tabBelow_of_tabIs (T0.out _ hb)))).mono ?_
  clear KB
  rintro e w1 ⟨he, KB, ⟨⟨b0, b1, b2⟩, bl⟩, ⟨d0, d1, d2⟩, dl⟩
  subst he
  go_wp2_with fail
  refine (Bs.call (by first | exact KB.out | exact KB.out.al _ | exact (KB.out.al _).al _) (fun hb => Few_any t _ a c (HX.out.below hb))).mono ?_
  clear KB b0 b1 b2 bl d0 d1 d2 dl
  rintro e w2 ⟨he, KB, ⟨⟨b0, b1, b2⟩, bl⟩, ⟨d0, d1, d2⟩, dl⟩
  rw [Ft.out] at he
  subst he
  go_wp2_with fail
  go_ret
  first | exact ⟨rfl, bs_end B0.out KB.out⟩ | exact ⟨rfl, bs_end B0.out (KB.out.al _)⟩ | exact ⟨rfl, bs_end B0.out ((KB.out.al _).al _)⟩

set_option maxRecDepth 100000 in
set_option maxHeartbeats 4000000 in
theorem evals_2 (t : Ex) (a : Option Addr) (c : Nat) (ea : Option Addr) (elen ec : Nat) (zs : List Int) (w : World) (hx : X w t a) (hz : Nm w ea elen zs) (hT : Lib.TabIs Tryz.prog w tabName .u64 Lib.pow10Tab) (ht : fewB t = true) (hc : (20 : Int) < elen) :
    Calls Tryz.prog 4 #[exV t a c, .slice ea elen ec] w fun e w' => e = .returned (.bool true) ∧ Below w.heap.size w w' := by
  have KB : Hid (Bs _ w.heap.size w.heap.size t t a a c c _) := bs_one w t a c
  have B0 : Hid (Below w.heap.size w (w.alloc (.cells #[.int .i64 t.kind, .int .i64 t.num, .slice a t.kids.length c] 24))) := al1 _ _
  have HX : Hid (X (w.alloc (.cells #[.int .i64 t.kind, .int .i64 t.num, .slice a t.kids.length c] 24)) t a) := hx.below B0.out
  have T0 : Hid (Lib.TabBelow Tryz.prog (w.alloc (.cells #[.int .i64 t.kind, .int .i64 t.num, .slice a t.kids.length c] 24)).heap.size _ tabName .u64 Lib.pow10Tab) := Lib.tabBelow_of_tabIs (Lib.tabBelow_of_tabIs hT _ B0.out)
  have Ft : Hid (fewB t = true) := ht
  clear hx hT ht hz
  go_enter Tryz.func4, Tryz.ntmps4
  go_wp2_with fail
  refine (Bs.call (by first | exact KB.out | exact KB.out.al _ | exact (KB.out.al _).al _) (fun hb => small_any _ (Lib.tabBelow_of_tabIs (T0.out _ hb)))).mono ?_
  clear KB
  rintro e w1 ⟨he, KB, ⟨⟨b0, b1, b2⟩, bl⟩, ⟨d0, d1, d2⟩, dl⟩
  subst he
  go_wp2_with fail
  refine (Bs.call (by first | exact KB.out | exact KB.out.al _ | exact (KB.out.al _).al _) (fun hb => Few_any t _ a c (HX.out.below hb))).mono ?_
  clear KB b0 b1 b2 bl d0 d1 d2 dl
  rintro e w2 ⟨he, KB, ⟨⟨b0, b1, b2⟩, bl⟩, ⟨d0, d1, d2⟩, dl⟩
  rw [Ft.out] at he
  subst he
  go_wp2_with fail
  go_ret
  first | exact ⟨rfl, bs_end B0.out KB.out⟩ | exact ⟨rfl, bs_end B0.out (KB.out.al _)⟩ | exact ⟨rfl, bs_end B0.out ((KB.out.al _).al _)⟩

set_option maxRecDepth 100000 in
set_option maxHeartbeats 4000000 in
theorem evals_3 (t : Ex) (a : Option Addr) (c : Nat) (ea : Option Addr) (elen ec : Nat) (zs : List Int) (w : World) (hx : X w t a) (hz : Nm w ea elen zs) (hT : Lib.TabIs Tryz.prog w tabName .u64 Lib.pow10Tab) (ht : fewB t = true) (hc : ¬ (20 : Int) < elen) :
    Calls Tryz.prog 4 #[exV t a c, .slice ea elen ec] w fun e w' => e = .returned (.bool true) ∧ Below w.heap.size w w' := by
  have KB : Hid (Bs _ w.heap.size w.heap.size t t a a c c _) := bs_one w t a c
  have B0 : Hid (Below w.heap.size w (w.alloc (.cells #[.int .i64 t.kind, .int .i64 t.num, .slice a t.kids.length c] 24))) := al1 _ _
  have HX : Hid (X (w.alloc (.cells #[.int .i64 t.kind, .int .i64 t.num, .slice a t.kids.length c] 24)) t a) := hx.below B0.out
  have T0 : Hid (Lib.TabBelow Tryz.prog (w.alloc (.cells #[.int .i64 t.kind, .int .i64 t.num, .slice a t.kids.length c] 24)).heap.size _ tabName .u64 Lib.pow10Tab) := Lib.tabBelow_of_tabIs (Lib.tabBelow_of_tabIs hT _ B0.out)
  have Ft : Hid (fewB t = true) := ht
  have HZ : Hid (Nm (w.alloc (.cells #[.int .i64 t.kind, .int .i64 t.num, .slice a t.kids.length c] 24)) ea elen zs) := hz.below B0.out
  have ST : Hid (sizeF t ≤ 1000000) := Nat.le_trans (fewB_size ht) (by decide)
  clear hx hT ht hz
  go_enter Tryz.func4, Tryz.ntmps4
  go_wp2_with fail
  refine (Bs.call (by first | exact KB.out | exact KB.out.al _ | exact (KB.out.al _).al _) (fun hb => small_any _ (Lib.tabBelow_of_tabIs (T0.out _ hb)))).mono ?_
  clear KB
  rintro e w1 ⟨he, KB, ⟨⟨b0, b1, b2⟩, bl⟩, ⟨d0, d1, d2⟩, dl⟩
  subst he
  go_wp2_with fail
  refine (Bs.call (by first | exact KB.out | exact KB.out.al _ | exact (KB.out.al _).al _) (fun hb => Few_any t _ a c (HX.out.below hb))).mono ?_
  clear KB b0 b1 b2 bl d0 d1 d2 dl
  rintro e w2 ⟨he, KB, ⟨⟨b0, b1, b2⟩, bl⟩, ⟨d0, d1, d2⟩, dl⟩
  rw [Ft.out] at he
  subst he
  go_wp2_with fail
  refine (Bs.call (by first | exact KB.out | exact KB.out.al _ | exact (KB.out.al _).al _) (fun hb => eval_any zs t _ a ea c elen ec (HX.out.below hb) (HZ.out.below hb))).mono ?_
  clear KB b0 b1 b2 bl d0 d1 d2 dl
  rintro e w3 ⟨he, KB, ⟨⟨b0, b1, b2⟩, bl⟩, ⟨d0, d1, d2⟩, dl⟩
  subst he
  go_wp2_with fail
  refine (Bs.call (by first | exact KB.out | exact KB.out.al _ | exact (KB.out.al _).al _) (fun hb => reval_any zs t _ a ea c elen ec (HX.out.below hb) (HZ.out.below hb) ST.out)).mono ?_
  clear KB b0 b1 b2 bl d0 d1 d2 dl
  rintro e w4 ⟨he, KB, ⟨⟨b0, b1, b2⟩, bl⟩, ⟨d0, d1, d2⟩, dl⟩
  subst he
  go_wp2_with fail
  go_ret
  first | exact ⟨rfl, bs_end B0.out KB.out⟩ | exact ⟨rfl, bs_end B0.out (KB.out.al _)⟩ | exact ⟨rfl, bs_end B0.out ((KB.out.al _).al _)⟩

end Go.Proofs.YtligologdfgggaaGreatDoor.Expr
