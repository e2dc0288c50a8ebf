/- The ways through ExprCopies, over the turned program. -/
import Derived.Test.YtligologdfgggaaDoorExCopies0
import Derived.Deep.RegionLaw
namespace Go.Proofs.YtligologdfgggaaDoor.Expr
open Go.RowKit Go.Proofs.YtligologdfgggaaDoor.Frame Go.Proofs.YtligologdfgggaaDoor.Calc
set_option linter.unusedVariables false
set_option linter.unusedSimpArgs false

set_option maxRecDepth 100000 in
set_option maxHeartbeats 4000000 in
theorem copies_1 (t y : Ex) (a b : Option Addr) (c d : Nat) (k : Int) (w : World) (hx : X w t a) (hy : X w y b) (hT : Lib.TabIs Tryd.prog w tabName .u64 Lib.pow10Tab) (ht : fewB t = false) :
    Calls Tryd.prog 3 #[exV t a c, .int .i64 k, exV y b d] w fun e w' => e = .returned (.bool true) ∧ Below w.heap.size w w' := by
  have KB : Hid (Bs _ w.heap.size (w.heap.size + 1) t y a b c d _) := bs_two w t y a b c d
  have B0 : Hid (Below w.heap.size w ((w.alloc (.cells #[.int .i64 t.kind, .int .i64 t.num, .slice a t.kids.length c] 24)).alloc (.cells #[.int .i64 y.kind, .int .i64 y.num, .slice b y.kids.length d] 24))) := two_al _ _ _
  have HX : Hid (X ((w.alloc (.cells #[.int .i64 t.kind, .int .i64 t.num, .slice a t.kids.length c] 24)).alloc (.cells #[.int .i64 y.kind, .int .i64 y.num, .slice b y.kids.length d] 24)) t a) := hx.below B0.out
  have HY : Hid (X ((w.alloc (.cells #[.int .i64 t.kind, .int .i64 t.num, .slice a t.kids.length c] 24)).alloc (.cells #[.int .i64 y.kind, .int .i64 y.num, .slice b y.kids.length d] 24)) y b) := hy.below B0.out
  have T0 : Hid (Lib.TabBelow Tryd.prog ((w.alloc (.cells #[.int .i64 t.kind, .int .i64 t.num, .slice a t.kids.length c] 24)).alloc (.cells #[.int .i64 y.kind, .int .i64 y.num, .slice b y.kids.length d] 24)).heap.size _ tabName .u64 Lib.pow10Tab) := Lib.tabBelow_of_tabIs (Lib.tabBelow_of_tabIs hT _ B0.out)
  have Ft : Hid (fewB t = false) := ht
  clear hx hy hT ht
  go_enter Tryd.func3, Tryd.ntmps3
  go_wp2_with fail
  refine (Bs.call (by first | exact KB.out | exact KB.out.al _ | exact (KB.out.al _).al _) (fun hb => small_any _ (Lib.tabBelow_of_tabIs (T0.out _ hb)))).mono ?_
  clear KB
  rintro e w1 ⟨he, KB, ⟨⟨b0, b1, b2⟩, bl⟩, ⟨d0, d1, d2⟩, dl⟩
  subst he
  go_wp2_with fail
  refine (Bs.call (by first | exact KB.out | exact KB.out.al _ | exact (KB.out.al _).al _) (fun hb => Few_any t _ a c (HX.out.below hb))).mono ?_
  clear KB b0 b1 b2 bl d0 d1 d2 dl
  rintro e w2 ⟨he, KB, ⟨⟨b0, b1, b2⟩, bl⟩, ⟨d0, d1, d2⟩, dl⟩
  rw [Ft.out] at he
  subst he
  go_wp2_with fail
  refine (Bs.call (by first | exact KB.out | exact KB.out.al _ | exact (KB.out.al _).al _) (fun hb => Few_any y _ b d (HY.out.below hb))).mono ?_
  clear KB b0 b1 b2 bl d0 d1 d2 dl
  rintro e w3 ⟨he, KB, ⟨⟨b0, b1, b2⟩, bl⟩, ⟨d0, d1, d2⟩, dl⟩
  subst he
  go_wp2_with fail
  go_ret
  first | exact ⟨rfl, bs_end B0.out KB.out⟩ | exact ⟨rfl, bs_end B0.out (KB.out.al _)⟩ | exact ⟨rfl, bs_end B0.out ((KB.out.al _).al _)⟩

set_option maxRecDepth 100000 in
set_option maxHeartbeats 4000000 in
theorem copies_2 (t y : Ex) (a b : Option Addr) (c d : Nat) (k : Int) (w : World) (hx : X w t a) (hy : X w y b) (hT : Lib.TabIs Tryd.prog w tabName .u64 Lib.pow10Tab) (ht : fewB t = true) (hf : fewB y = false) :
    Calls Tryd.prog 3 #[exV t a c, .int .i64 k, exV y b d] w fun e w' => e = .returned (.bool true) ∧ Below w.heap.size w w' := by
  have KB : Hid (Bs _ w.heap.size (w.heap.size + 1) t y a b c d _) := bs_two w t y a b c d
  have B0 : Hid (Below w.heap.size w ((w.alloc (.cells #[.int .i64 t.kind, .int .i64 t.num, .slice a t.kids.length c] 24)).alloc (.cells #[.int .i64 y.kind, .int .i64 y.num, .slice b y.kids.length d] 24))) := two_al _ _ _
  have HX : Hid (X ((w.alloc (.cells #[.int .i64 t.kind, .int .i64 t.num, .slice a t.kids.length c] 24)).alloc (.cells #[.int .i64 y.kind, .int .i64 y.num, .slice b y.kids.length d] 24)) t a) := hx.below B0.out
  have HY : Hid (X ((w.alloc (.cells #[.int .i64 t.kind, .int .i64 t.num, .slice a t.kids.length c] 24)).alloc (.cells #[.int .i64 y.kind, .int .i64 y.num, .slice b y.kids.length d] 24)) y b) := hy.below B0.out
  have T0 : Hid (Lib.TabBelow Tryd.prog ((w.alloc (.cells #[.int .i64 t.kind, .int .i64 t.num, .slice a t.kids.length c] 24)).alloc (.cells #[.int .i64 y.kind, .int .i64 y.num, .slice b y.kids.length d] 24)).heap.size _ tabName .u64 Lib.pow10Tab) := Lib.tabBelow_of_tabIs (Lib.tabBelow_of_tabIs hT _ B0.out)
  have Ft : Hid (fewB t = true) := ht
  have Fy : Hid (fewB y = false) := hf
  clear hx hy hT ht hf
  go_enter Tryd.func3, Tryd.ntmps3
  go_wp2_with fail
  refine (Bs.call (by first | exact KB.out | exact KB.out.al _ | exact (KB.out.al _).al _) (fun hb => small_any _ (Lib.tabBelow_of_tabIs (T0.out _ hb)))).mono ?_
  clear KB
  rintro e w1 ⟨he, KB, ⟨⟨b0, b1, b2⟩, bl⟩, ⟨d0, d1, d2⟩, dl⟩
  subst he
  go_wp2_with fail
  refine (Bs.call (by first | exact KB.out | exact KB.out.al _ | exact (KB.out.al _).al _) (fun hb => Few_any t _ a c (HX.out.below hb))).mono ?_
  clear KB b0 b1 b2 bl d0 d1 d2 dl
  rintro e w2 ⟨he, KB, ⟨⟨b0, b1, b2⟩, bl⟩, ⟨d0, d1, d2⟩, dl⟩
  rw [Ft.out] at he
  subst he
  go_wp2_with fail
  refine (Bs.call (by first | exact KB.out | exact KB.out.al _ | exact (KB.out.al _).al _) (fun hb => Few_any y _ b d (HY.out.below hb))).mono ?_
  clear KB b0 b1 b2 bl d0 d1 d2 dl
  rintro e w3 ⟨he, KB, ⟨⟨b0, b1, b2⟩, bl⟩, ⟨d0, d1, d2⟩, dl⟩
  rw [Fy.out] at he
  subst he
  go_wp2_with fail
  go_ret
  first | exact ⟨rfl, bs_end B0.out KB.out⟩ | exact ⟨rfl, bs_end B0.out (KB.out.al _)⟩ | exact ⟨rfl, bs_end B0.out ((KB.out.al _).al _)⟩

end Go.Proofs.YtligologdfgggaaDoor.Expr
