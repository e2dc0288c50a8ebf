/- What is alike (the document's own SameTask and Same), of what is one: contracts of the calls, over the turned program. -/
import Derived.Test.YtjcanodnlnodpaaGreatDoorMSame
import Derived.Test.YtjcanodnlnodpaaGreatDoorMPlainT
namespace Go.Proofs.YtjcanodnlnodpaaGreatDoor.Parse
open Go.RowKit Go.Maps Go.Proofs.YtjcanodnlnodpaaGreatDoor.Frame Go.Proofs.YtjcanodnlnodpaaGreatDoor.Token Go.Proofs.YtjcanodnlnodpaaGreatDoor.Expr Go.Proofs.YtjcanodnlnodpaaGreatDoor.Calc
set_option linter.unusedVariables false
set_option linter.unusedSimpArgs false

/-- two boxes that stay -/
def Two (w : World) (us vs : List Value) (W : World) : Prop := Bx W w.heap.size us ∧ Bx W (w.heap.size + 1) vs ∧ Below w.heap.size w W
theorem Two.new (w : World) (us vs : Array Value) (t u : TypeId) : Two w us.toList vs.toList ((w.alloc (.cells us t)).alloc (.cells vs u)) :=
  ⟨(Bx.new w us t).below ((Below.refl _ _).alloc (Nat.le_refl _) _), by have := Bx.new (w.alloc (.cells us t)) vs u; simpa using this, two_al' _ _ _⟩
theorem Two.on {w : World} {us vs : List Value} {W W' : World} (h : Two w us vs W) (hb : Below W.heap.size W W') : Two w us vs W' := ⟨h.1.below hb, h.2.1.below hb, then_ h.2.2 hb⟩

set_option maxRecDepth 100000 in
set_option maxHeartbeats 8000000 in
theorem rtask_yes (t : PTask) (w : World) (us vs : List Value) (hu : TaskR w t us) (hv : TaskR w t vs) (hr : RdT t) : Calls Tryz.prog 45 #[.agg us.toArray, .agg vs.toArray] w fun e w' => e = .returned (.bool true) ∧ Below w.heap.size w w' := by
  obtain ⟨av1, cv1, ag1, cg1, ai1, ci1, ao1, co1, ac1, cc1, rfl, h1, h2, h3, h4, h5, ⟨l1, l2, l3, l4⟩, -⟩ := hu
  obtain ⟨av2, cv2, ag2, cg2, ai2, ci2, ao2, co2, ac2, cc2, rfl, k1, k2, k3, k4, k5, -, -⟩ := hv
  show Calls Tryz.prog 45 #[.agg #[.string (str t.name), .slice av1 t.vars.length cv1, .int .i64 t.guard.kind, .int .i64 t.guard.num, .slice ag1 t.guard.kids.length cg1, .int .i64 t.join, .int .i64 t.split, .slice ai1 t.ins.length ci1, .slice ao1 t.outs.length co1, .slice ac1 t.cancel.length cc1, .int .i64 t.after, .int .i64 t.m0, .int .i64 t.m1, .int .i64 t.m2], .agg #[.string (str t.name), .slice av2 t.vars.length cv2, .int .i64 t.guard.kind, .int .i64 t.guard.num, .slice ag2 t.guard.kids.length cg2, .int .i64 t.join, .int .i64 t.split, .slice ai2 t.ins.length ci2, .slice ao2 t.outs.length co2, .slice ac2 t.cancel.length cc2, .int .i64 t.after, .int .i64 t.m0, .int .i64 t.m1, .int .i64 t.m2]] w _
  have HV : Hid (RwsAt (fun _ => VarR) w av1 t.vars ∧ RwsAt (fun _ => VarR) w av2 t.vars) := ⟨h1, k1⟩
  have HG : Hid (X w t.guard ag1 ∧ X w t.guard ag2 ∧ RdE t.guard) := ⟨h2, k2, hr.1⟩
  have HI : Hid (RwsAt ArcR w ai1 t.ins ∧ RwsAt ArcR w ai2 t.ins ∧ ∀ x, x ∈ t.ins → RdE x.2) := ⟨h3, k3, hr.2.1⟩
  have HO : Hid (RwsAt ArcR w ao1 t.outs ∧ RwsAt ArcR w ao2 t.outs ∧ ∀ x, x ∈ t.outs → RdE x.2) := ⟨h4, k4, hr.2.2⟩
  have HC : Hid (Cs w ac1 (ints t.cancel) ∧ Cs w ac2 (ints t.cancel)) := ⟨h5, k5⟩
  have HT : Hid (∀ y z, Two w [.string (str t.name), .slice av1 t.vars.length cv1, .int .i64 t.guard.kind, .int .i64 t.guard.num, .slice ag1 t.guard.kids.length cg1, .int .i64 t.join, .int .i64 t.split, .slice ai1 t.ins.length ci1, .slice ao1 t.outs.length co1, .slice ac1 t.cancel.length cc1, .int .i64 t.after, .int .i64 t.m0, .int .i64 t.m1, .int .i64 t.m2] [.string (str t.name), .slice av2 t.vars.length cv2, .int .i64 t.guard.kind, .int .i64 t.guard.num, .slice ag2 t.guard.kids.length cg2, .int .i64 t.join, .int .i64 t.split, .slice ai2 t.ins.length ci2, .slice ao2 t.outs.length co2, .slice ac2 t.cancel.length cc2, .int .i64 t.after, .int .i64 t.m0, .int .i64 t.m1, .int .i64 t.m2] ((w.alloc (.cells #[.string (str t.name), .slice av1 t.vars.length cv1, .int .i64 t.guard.kind, .int .i64 t.guard.num, .slice ag1 t.guard.kids.length cg1, .int .i64 t.join, .int .i64 t.split, .slice ai1 t.ins.length ci1, .slice ao1 t.outs.length co1, .slice ac1 t.cancel.length cc1, .int .i64 t.after, .int .i64 t.m0, .int .i64 t.m1, .int .i64 t.m2] y)).alloc (.cells #[.string (str t.name), .slice av2 t.vars.length cv2, .int .i64 t.guard.kind, .int .i64 t.guard.num, .slice ag2 t.guard.kids.length cg2, .int .i64 t.join, .int .i64 t.split, .slice ai2 t.ins.length ci2, .slice ao2 t.outs.length co2, .slice ac2 t.cancel.length cc2, .int .i64 t.after, .int .i64 t.m0, .int .i64 t.m1, .int .i64 t.m2] z))) := fun y z => Two.new w #[.string (str t.name), .slice av1 t.vars.length cv1, .int .i64 t.guard.kind, .int .i64 t.guard.num, .slice ag1 t.guard.kids.length cg1, .int .i64 t.join, .int .i64 t.split, .slice ai1 t.ins.length ci1, .slice ao1 t.outs.length co1, .slice ac1 t.cancel.length cc1, .int .i64 t.after, .int .i64 t.m0, .int .i64 t.m1, .int .i64 t.m2] #[.string (str t.name), .slice av2 t.vars.length cv2, .int .i64 t.guard.kind, .int .i64 t.guard.num, .slice ag2 t.guard.kids.length cg2, .int .i64 t.join, .int .i64 t.split, .slice ai2 t.ins.length ci2, .slice ao2 t.outs.length co2, .slice ac2 t.cancel.length cc2, .int .i64 t.after, .int .i64 t.m0, .int .i64 t.m1, .int .i64 t.m2] y z
  have he := eq3_run
  clear h1 h2 h3 h4 h5 k1 k2 k3 k4 k5 hr
  go_enter Tryz.func45, Tryz.ntmps45
  go_wp2_with fail
  refine (rsame_yes t.guard _ ag1 ag2 cg1 cg2 HG.out.2.2 (HG.out.1.below (two_al' _ _ _)) (HG.out.2.1.below (two_al' _ _ _))).mono ?_
  rintro e w1 ⟨he', hb1⟩
  subst he'
  have H1 : Hid (Two w [.string (str t.name), .slice av1 t.vars.length cv1, .int .i64 t.guard.kind, .int .i64 t.guard.num, .slice ag1 t.guard.kids.length cg1, .int .i64 t.join, .int .i64 t.split, .slice ai1 t.ins.length ci1, .slice ao1 t.outs.length co1, .slice ac1 t.cancel.length cc1, .int .i64 t.after, .int .i64 t.m0, .int .i64 t.m1, .int .i64 t.m2] [.string (str t.name), .slice av2 t.vars.length cv2, .int .i64 t.guard.kind, .int .i64 t.guard.num, .slice ag2 t.guard.kids.length cg2, .int .i64 t.join, .int .i64 t.split, .slice ai2 t.ins.length ci2, .slice ao2 t.outs.length co2, .slice ac2 t.cancel.length cc2, .int .i64 t.after, .int .i64 t.m0, .int .i64 t.m1, .int .i64 t.m2] w1) := (HT.out _ _).on hb1
  clear hb1 HT
  go_wp2_with fail
  go_loopw [5] (fun i wr => ∃ k : Nat, k ≤ t.vars.length ∧ i = .int .i64 k ∧ Hid (Two w [.string (str t.name), .slice av1 t.vars.length cv1, .int .i64 t.guard.kind, .int .i64 t.guard.num, .slice ag1 t.guard.kids.length cg1, .int .i64 t.join, .int .i64 t.split, .slice ai1 t.ins.length ci1, .slice ao1 t.outs.length co1, .slice ac1 t.cancel.length cc1, .int .i64 t.after, .int .i64 t.m0, .int .i64 t.m1, .int .i64 t.m2] [.string (str t.name), .slice av2 t.vars.length cv2, .int .i64 t.guard.kind, .int .i64 t.guard.num, .slice ag2 t.guard.kids.length cg2, .int .i64 t.join, .int .i64 t.split, .slice ai2 t.ins.length ci2, .slice ao2 t.outs.length co2, .slice ac2 t.cancel.length cc2, .int .i64 t.after, .int .i64 t.m0, .int .i64 t.m1, .int .i64 t.m2] wr)) (fun i _ => t.vars.length - (intOf i).toNat)
  case atStart => exact ⟨0, by omega, rfl, H1⟩
  case round =>
    obtain ⟨k, hk, rfl, HX⟩ := hrel
    clear H1
    have b1 : wr.cell? ⟨w.heap.size, 1, none⟩ = some (.slice av1 t.vars.length cv1) := HX.out.1.1 1
    have b2 : wr.cell? ⟨w.heap.size + 1, 1, none⟩ = some (.slice av2 t.vars.length cv2) := HX.out.2.1.1 1
    have z1 : w.heap.size < wr.heap.size := HX.out.1.2.2
    have z2 : w.heap.size + 1 < wr.heap.size := HX.out.2.1.2.2
    by_cases hlt : k < t.vars.length
    · have hlt' : (k : Int) < t.vars.length := by omega
      have hx := get_at ([], 0) hlt
      have hnx := HX.out.2.2
      obtain ⟨d1, o1, us, e1, y1, hu, t1⟩ := (HV.out.1.below (fun _ _ h => h) hnx).at (var_len (w := wr)) (by decide) hx
      obtain ⟨d2, o2, us2, e2, y2, hu2, t2⟩ := (HV.out.2.below (fun _ _ h => h) hnx).at (var_len (w := wr)) (by decide) hx
      generalize t.vars.getD k ([], 0) = x at *
      obtain ⟨s, z⟩ := x
      replace hu : us = [.string (str s), .int .i64 z] := hu
      replace hu2 : us2 = [.string (str s), .int .i64 z] := hu2
      subst hu hu2 e1 e2
      have c0 : wr.cell? ⟨d1, o1 + k * 2, none⟩ = some (.string (str s)) := t1 0 _ rfl
      have c1 : wr.cell? ⟨d1, o1 + k * 2 + 1, none⟩ = some (.int .i64 z) := t1 1 _ rfl
      have g0 : wr.cell? ⟨d2, o2 + k * 2, none⟩ = some (.string (str s)) := t2 0 _ rfl
      have g1 : wr.cell? ⟨d2, o2 + k * 2 + 1, none⟩ = some (.int .i64 z) := t2 1 _ rfl
      clear t1 t2 hx hnx
      generalize str s = sv at *
      have HX2 : Hid (∀ m, Two w [.string (str t.name), .slice (some ⟨d1, o1, none⟩) t.vars.length cv1, .int .i64 t.guard.kind, .int .i64 t.guard.num, .slice ag1 t.guard.kids.length cg1, .int .i64 t.join, .int .i64 t.split, .slice ai1 t.ins.length ci1, .slice ao1 t.outs.length co1, .slice ac1 t.cancel.length cc1, .int .i64 t.after, .int .i64 t.m0, .int .i64 t.m1, .int .i64 t.m2] [.string (str t.name), .slice (some ⟨d2, o2, none⟩) t.vars.length cv2, .int .i64 t.guard.kind, .int .i64 t.guard.num, .slice ag2 t.guard.kids.length cg2, .int .i64 t.join, .int .i64 t.split, .slice ai2 t.ins.length ci2, .slice ao2 t.outs.length co2, .slice ac2 t.cancel.length cc2, .int .i64 t.after, .int .i64 t.m0, .int .i64 t.m1, .int .i64 t.m2] (wr.drewN m)) := fun m => HX.out.on (dn' (Below.refl _ _) _)
      go_wp2_with fail
      go_quiet (fail)
      go_wp2_with fail
      go_roundw
      case rel => exact ⟨k + 1, by omega, by go_num, HX2.out _⟩
      case measure => simp [intOf]; omega
    · obtain rfl : k = t.vars.length := by omega
      have b17 : wr.cell? ⟨w.heap.size, 7, none⟩ = some (.slice ai1 t.ins.length ci1) := HX.out.1.1 7
      have b27 : wr.cell? ⟨w.heap.size + 1, 7, none⟩ = some (.slice ai2 t.ins.length ci2) := HX.out.2.1.1 7
      go_wp2_with fail
      refine (rarcs_yes ai1 ai2 ci1 ci2 t.ins wr (HI.out.1.below (fun _ _ h => h.below HX.out.2.2) HX.out.2.2) (HI.out.2.1.below (fun _ _ h => h.below HX.out.2.2) HX.out.2.2) HI.out.2.2 l2).mono ?_
      rintro e w2 ⟨he', hb2⟩
      subst he'
      have H2 : Hid (Two w [.string (str t.name), .slice av1 t.vars.length cv1, .int .i64 t.guard.kind, .int .i64 t.guard.num, .slice ag1 t.guard.kids.length cg1, .int .i64 t.join, .int .i64 t.split, .slice ai1 t.ins.length ci1, .slice ao1 t.outs.length co1, .slice ac1 t.cancel.length cc1, .int .i64 t.after, .int .i64 t.m0, .int .i64 t.m1, .int .i64 t.m2] [.string (str t.name), .slice av2 t.vars.length cv2, .int .i64 t.guard.kind, .int .i64 t.guard.num, .slice ag2 t.guard.kids.length cg2, .int .i64 t.join, .int .i64 t.split, .slice ai2 t.ins.length ci2, .slice ao2 t.outs.length co2, .slice ac2 t.cancel.length cc2, .int .i64 t.after, .int .i64 t.m0, .int .i64 t.m1, .int .i64 t.m2] w2) := HX.out.on hb2
      clear hb2 HX b1 b2 z1 z2 b17 b27
      have b18 : w2.cell? ⟨w.heap.size, 8, none⟩ = some (.slice ao1 t.outs.length co1) := H2.out.1.1 8
      have b28 : w2.cell? ⟨w.heap.size + 1, 8, none⟩ = some (.slice ao2 t.outs.length co2) := H2.out.2.1.1 8
      have z1 : w.heap.size < w2.heap.size := H2.out.1.2.2
      have z2 : w.heap.size + 1 < w2.heap.size := H2.out.2.1.2.2
      go_wp2_with fail
      refine (rarcs_yes ao1 ao2 co1 co2 t.outs w2 (HO.out.1.below (fun _ _ h => h.below H2.out.2.2) H2.out.2.2) (HO.out.2.1.below (fun _ _ h => h.below H2.out.2.2) H2.out.2.2) HO.out.2.2 l3).mono ?_
      rintro e w3 ⟨he', hb3⟩
      subst he'
      have H3 : Hid (Two w [.string (str t.name), .slice av1 t.vars.length cv1, .int .i64 t.guard.kind, .int .i64 t.guard.num, .slice ag1 t.guard.kids.length cg1, .int .i64 t.join, .int .i64 t.split, .slice ai1 t.ins.length ci1, .slice ao1 t.outs.length co1, .slice ac1 t.cancel.length cc1, .int .i64 t.after, .int .i64 t.m0, .int .i64 t.m1, .int .i64 t.m2] [.string (str t.name), .slice av2 t.vars.length cv2, .int .i64 t.guard.kind, .int .i64 t.guard.num, .slice ag2 t.guard.kids.length cg2, .int .i64 t.join, .int .i64 t.split, .slice ai2 t.ins.length ci2, .slice ao2 t.outs.length co2, .slice ac2 t.cancel.length cc2, .int .i64 t.after, .int .i64 t.m0, .int .i64 t.m1, .int .i64 t.m2] w3) := H2.out.on hb3
      clear hb3 H2 b18 b28 z1 z2
      have b19 : w3.cell? ⟨w.heap.size, 9, none⟩ = some (.slice ac1 t.cancel.length cc1) := H3.out.1.1 9
      have b29 : w3.cell? ⟨w.heap.size + 1, 9, none⟩ = some (.slice ac2 t.cancel.length cc2) := H3.out.2.1.1 9
      have z1 : w.heap.size < w3.heap.size := H3.out.1.2.2
      have z2 : w.heap.size + 1 < w3.heap.size := H3.out.2.1.2.2
      go_wp2_with fail
      refine (rints_yes ac1 ac2 cc1 cc2 t.cancel w3 (HC.out.1.below H3.out.2.2) (HC.out.2.below H3.out.2.2) l4).mono ?_
      rintro e w4 ⟨he', hb4⟩
      subst he'
      have H4 : Hid (Below w.heap.size w w4) := then_ H3.out.2.2 hb4
      clear hb4 H3 b19 b29 z1 z2
      go_wp2_with fail
      go_ret
      exact ⟨rfl, H4.out⟩

set_option maxRecDepth 100000 in
set_option maxHeartbeats 8000000 in
theorem rnet_yes (n : PNet) (w : World) (u v : Value) (hu : NetR w n u) (hv : NetR w n v) (hr : RdN n) : Calls Tryz.prog 14 #[u, v] w fun e w' => e = .returned (.bool true) ∧ Below w.heap.size w w' := by
  obtain ⟨pc1, kc1, pp1, kp1, pt1, kt1, rfl, h1, h2, h3, l1, l2, l3⟩ := hu
  obtain ⟨pc2, kc2, pp2, kp2, pt2, kt2, rfl, q1, q2, q3, -, -, -⟩ := hv
  have HC : Hid (RwsAt ColR w pc1 n.colours ∧ RwsAt ColR w pc2 n.colours) := ⟨h1, q1⟩
  have HP : Hid (RwsAt PlaceR w pp1 n.places ∧ RwsAt PlaceR w pp2 n.places) := ⟨h2, q2⟩
  have HK : Hid (RwsAt TaskR w pt1 n.tasks ∧ RwsAt TaskR w pt2 n.tasks ∧ RdN n) := ⟨h3, q3, hr⟩
  have HT : Hid (∀ y z, Two w [.slice pc1 n.colours.length kc1, .slice pp1 n.places.length kp1, .slice pt1 n.tasks.length kt1, .int .i64 n.frm, .int .i64 n.too] [.slice pc2 n.colours.length kc2, .slice pp2 n.places.length kp2, .slice pt2 n.tasks.length kt2, .int .i64 n.frm, .int .i64 n.too] ((w.alloc (.cells #[.slice pc1 n.colours.length kc1, .slice pp1 n.places.length kp1, .slice pt1 n.tasks.length kt1, .int .i64 n.frm, .int .i64 n.too] y)).alloc (.cells #[.slice pc2 n.colours.length kc2, .slice pp2 n.places.length kp2, .slice pt2 n.tasks.length kt2, .int .i64 n.frm, .int .i64 n.too] z))) := fun y z => Two.new w #[.slice pc1 n.colours.length kc1, .slice pp1 n.places.length kp1, .slice pt1 n.tasks.length kt1, .int .i64 n.frm, .int .i64 n.too] #[.slice pc2 n.colours.length kc2, .slice pp2 n.places.length kp2, .slice pt2 n.tasks.length kt2, .int .i64 n.frm, .int .i64 n.too] y z
  clear h1 h2 h3 q1 q2 q3 hr
  go_enter Tryz.func14, Tryz.ntmps14
  go_wp2_with fail
  go_loopw [5] (fun i wr => ∃ k : Nat, k ≤ n.colours.length ∧ i = .int .i64 k ∧ Hid (Two w [.slice pc1 n.colours.length kc1, .slice pp1 n.places.length kp1, .slice pt1 n.tasks.length kt1, .int .i64 n.frm, .int .i64 n.too] [.slice pc2 n.colours.length kc2, .slice pp2 n.places.length kp2, .slice pt2 n.tasks.length kt2, .int .i64 n.frm, .int .i64 n.too] wr)) (fun i _ => n.colours.length - (intOf i).toNat)
  case atStart => exact ⟨0, by omega, rfl, HT.out _ _⟩
  case round =>
    obtain ⟨k, hk, rfl, HX⟩ := hrel
    clear HT
    have b1 : wr.cell? ⟨w.heap.size, 0, none⟩ = some (.slice pc1 n.colours.length kc1) := HX.out.1.1 0
    have b2 : wr.cell? ⟨w.heap.size + 1, 0, none⟩ = some (.slice pc2 n.colours.length kc2) := HX.out.2.1.1 0
    have z1 : w.heap.size < wr.heap.size := HX.out.1.2.2
    have z2 : w.heap.size + 1 < wr.heap.size := HX.out.2.1.2.2
    by_cases hlt : k < n.colours.length
    · have hlt' : (k : Int) < n.colours.length := by omega
      have hx := get_at (⟨[], 0, 0, 0, [], 0, 0⟩ : PCol) hlt
      have hnx := HX.out.2.2
      obtain ⟨d1, o1, us, e1, y1, hu, t1⟩ := (HC.out.1.below (fun _ _ h => h.below hnx) hnx).at col_len (by decide) hx
      obtain ⟨d2, o2, us2, e2, y2, hu2, t2⟩ := (HC.out.2.below (fun _ _ h => h.below hnx) hnx).at col_len (by decide) hx
      generalize n.colours.getD k (⟨[], 0, 0, 0, [], 0, 0⟩ : PCol) = x at *
      obtain ⟨an1, cn1, rfl, hs1, hsl⟩ := hu
      obtain ⟨an2, cn2, rfl, hs2, -⟩ := hu2
      subst e1 e2
      have c0 : wr.cell? ⟨d1, o1 + k * 7, none⟩ = some (.string (str x.name)) := t1 0 _ rfl
      have c1 : wr.cell? ⟨d1, o1 + k * 7 + 1, none⟩ = some (.int .i64 x.kind) := t1 1 _ rfl
      have c2 : wr.cell? ⟨d1, o1 + k * 7 + 2, none⟩ = some (.int .i64 x.lo) := t1 2 _ rfl
      have c3 : wr.cell? ⟨d1, o1 + k * 7 + 3, none⟩ = some (.int .i64 x.hi) := t1 3 _ rfl
      have c4 : wr.cell? ⟨d1, o1 + k * 7 + 4, none⟩ = some (.slice an1 x.names.length cn1) := t1 4 _ rfl
      have c5 : wr.cell? ⟨d1, o1 + k * 7 + 5, none⟩ = some (.int .i64 x.first) := t1 5 _ rfl
      have c6 : wr.cell? ⟨d1, o1 + k * 7 + 6, none⟩ = some (.int .i64 x.thn) := t1 6 _ rfl
      have g0 : wr.cell? ⟨d2, o2 + k * 7, none⟩ = some (.string (str x.name)) := t2 0 _ rfl
      have g1 : wr.cell? ⟨d2, o2 + k * 7 + 1, none⟩ = some (.int .i64 x.kind) := t2 1 _ rfl
      have g2 : wr.cell? ⟨d2, o2 + k * 7 + 2, none⟩ = some (.int .i64 x.lo) := t2 2 _ rfl
      have g3 : wr.cell? ⟨d2, o2 + k * 7 + 3, none⟩ = some (.int .i64 x.hi) := t2 3 _ rfl
      have g4 : wr.cell? ⟨d2, o2 + k * 7 + 4, none⟩ = some (.slice an2 x.names.length cn2) := t2 4 _ rfl
      have g5 : wr.cell? ⟨d2, o2 + k * 7 + 5, none⟩ = some (.int .i64 x.first) := t2 5 _ rfl
      have g6 : wr.cell? ⟨d2, o2 + k * 7 + 6, none⟩ = some (.int .i64 x.thn) := t2 6 _ rfl
      have HS : Hid (Cs wr an1 (strs x.names) ∧ Cs wr an2 (strs x.names)) := ⟨hs1, hs2⟩
      clear t1 t2 hx hnx hs1 hs2
      obtain ⟨s0, hs0⟩ : ∃ s0, s0 = str x.name := ⟨_, rfl⟩
      rw [← hs0] at c0 g0
      clear hs0
      go_wp2_with fail
      refine (rstrs_yes an1 an2 cn1 cn2 x.names _ (HS.out.1.below (two_al' _ _ _)) (HS.out.2.below (two_al' _ _ _)) hsl).mono ?_
      rintro e w1 ⟨he', hb1⟩
      subst he'
      have HX2 : Hid (Two w [.slice (some ⟨d1, o1, none⟩) n.colours.length kc1, .slice pp1 n.places.length kp1, .slice pt1 n.tasks.length kt1, .int .i64 n.frm, .int .i64 n.too] [.slice (some ⟨d2, o2, none⟩) n.colours.length kc2, .slice pp2 n.places.length kp2, .slice pt2 n.tasks.length kt2, .int .i64 n.frm, .int .i64 n.too] w1) := HX.out.on (then_ (two_al' _ _ _) hb1)
      clear hb1 HS
      go_wp2_with fail
      go_roundw
      case rel => exact ⟨k + 1, by omega, by go_num, HX2⟩
      case measure => simp [intOf]; omega
    · obtain rfl : k = n.colours.length := by omega
      have T1 := HX
      clear b1 b2 z1 z2 HX
      obtain ⟨wA, hwA⟩ : ∃ wA, wA = wr := ⟨_, rfl⟩
      rw [← hwA] at T1 ⊢
      clear hwA
      have b1 : wA.cell? ⟨w.heap.size, 0, none⟩ = some (.slice pc1 n.colours.length kc1) := T1.out.1.1 0
      have z1 : w.heap.size < wA.heap.size := T1.out.1.2.2
      have z2 : w.heap.size + 1 < wA.heap.size := T1.out.2.1.2.2
      go_wp2_with fail
      clear b1 z1 z2
      go_loopw [8] (fun i wr => ∃ k : Nat, k ≤ n.places.length ∧ i = .int .i64 k ∧ Hid (Two w [.slice pc1 n.colours.length kc1, .slice pp1 n.places.length kp1, .slice pt1 n.tasks.length kt1, .int .i64 n.frm, .int .i64 n.too] [.slice pc2 n.colours.length kc2, .slice pp2 n.places.length kp2, .slice pt2 n.tasks.length kt2, .int .i64 n.frm, .int .i64 n.too] wr)) (fun i _ => n.places.length - (intOf i).toNat)
      case atStart => exact ⟨0, by omega, rfl, T1⟩
      case round =>
        obtain ⟨k, hk, rfl, HX⟩ := hrel
        clear T1
        have b1 : wr.cell? ⟨w.heap.size, 1, none⟩ = some (.slice pp1 n.places.length kp1) := HX.out.1.1 1
        have b2 : wr.cell? ⟨w.heap.size + 1, 1, none⟩ = some (.slice pp2 n.places.length kp2) := HX.out.2.1.1 1
        have z1 : w.heap.size < wr.heap.size := HX.out.1.2.2
        have z2 : w.heap.size + 1 < wr.heap.size := HX.out.2.1.2.2
        by_cases hlt : k < n.places.length
        · have hlt' : (k : Int) < n.places.length := by omega
          have hx := get_at (⟨[], 0, []⟩ : PPlace) hlt
          have hnx := HX.out.2.2
          obtain ⟨d1, o1, us, e1, y1, hu, t1⟩ := (HP.out.1.below (fun _ _ h => h.below hnx) hnx).at place_len (by decide) hx
          obtain ⟨d2, o2, us2, e2, y2, hu2, t2⟩ := (HP.out.2.below (fun _ _ h => h.below hnx) hnx).at place_len (by decide) hx
          generalize n.places.getD k (⟨[], 0, []⟩ : PPlace) = x at *
          obtain ⟨an1, cn1, rfl, hs1, hsl, -⟩ := hu
          obtain ⟨an2, cn2, rfl, hs2, -, -⟩ := hu2
          subst e1 e2
          have c0 : wr.cell? ⟨d1, o1 + k * 3, none⟩ = some (.string (str x.name)) := t1 0 _ rfl
          have c1 : wr.cell? ⟨d1, o1 + k * 3 + 1, none⟩ = some (.int .i64 x.colour) := t1 1 _ rfl
          have c2 : wr.cell? ⟨d1, o1 + k * 3 + 2, none⟩ = some (.slice an1 x.first.length cn1) := t1 2 _ rfl
          have g0 : wr.cell? ⟨d2, o2 + k * 3, none⟩ = some (.string (str x.name)) := t2 0 _ rfl
          have g1 : wr.cell? ⟨d2, o2 + k * 3 + 1, none⟩ = some (.int .i64 x.colour) := t2 1 _ rfl
          have g2 : wr.cell? ⟨d2, o2 + k * 3 + 2, none⟩ = some (.slice an2 x.first.length cn2) := t2 2 _ rfl
          have HS : Hid (Cs wr an1 (prs x.first) ∧ Cs wr an2 (prs x.first)) := ⟨hs1, hs2⟩
          clear t1 t2 hx hnx hs1 hs2
          obtain ⟨s0, hs0⟩ : ∃ s0, s0 = str x.name := ⟨_, rfl⟩
          rw [← hs0] at c0 g0
          clear hs0
          go_wp2_with fail
          refine (rrows_yes an1 an2 cn1 cn2 x.first _ (HS.out.1.below (two_al' _ _ _)) (HS.out.2.below (two_al' _ _ _)) hsl).mono ?_
          rintro e w1 ⟨he', hb1⟩
          subst he'
          have HX2 : Hid (Two w [.slice pc1 n.colours.length kc1, .slice (some ⟨d1, o1, none⟩) n.places.length kp1, .slice pt1 n.tasks.length kt1, .int .i64 n.frm, .int .i64 n.too] [.slice pc2 n.colours.length kc2, .slice (some ⟨d2, o2, none⟩) n.places.length kp2, .slice pt2 n.tasks.length kt2, .int .i64 n.frm, .int .i64 n.too] w1) := HX.out.on (then_ (two_al' _ _ _) hb1)
          clear hb1 HS
          go_wp2_with fail
          go_roundw
          case rel => exact ⟨k + 1, by omega, by go_num, HX2⟩
          case measure => simp [intOf]; omega
        · obtain rfl : k = n.places.length := by omega
          have T1 := HX
          clear b2 HX
          go_wp2_with fail
          clear b1 z1 z2
          obtain ⟨wB, hwB⟩ : ∃ wB, wB = wr := ⟨_, rfl⟩
          rw [← hwB] at T1 ⊢
          clear hwB
          go_loopw [11] (fun i wr => ∃ k : Nat, k ≤ n.tasks.length ∧ i = .int .i64 k ∧ Hid (Two w [.slice pc1 n.colours.length kc1, .slice pp1 n.places.length kp1, .slice pt1 n.tasks.length kt1, .int .i64 n.frm, .int .i64 n.too] [.slice pc2 n.colours.length kc2, .slice pp2 n.places.length kp2, .slice pt2 n.tasks.length kt2, .int .i64 n.frm, .int .i64 n.too] wr)) (fun i _ => n.tasks.length - (intOf i).toNat)
          case atStart => exact ⟨0, by omega, rfl, T1⟩
          case round =>
            obtain ⟨k, hk, rfl, HX⟩ := hrel
            clear T1
            have b1 : wr.cell? ⟨w.heap.size, 2, none⟩ = some (.slice pt1 n.tasks.length kt1) := HX.out.1.1 2
            have b2 : wr.cell? ⟨w.heap.size + 1, 2, none⟩ = some (.slice pt2 n.tasks.length kt2) := HX.out.2.1.1 2
            have z1 : w.heap.size < wr.heap.size := HX.out.1.2.2
            have z2 : w.heap.size + 1 < wr.heap.size := HX.out.2.1.2.2
            by_cases hlt : k < n.tasks.length
            · have hlt' : (k : Int) < n.tasks.length := by omega
              have hx := get_at (task0 []) hlt
              have hm : n.tasks.getD k (task0 []) ∈ n.tasks := List.mem_of_getElem? hx
              have hnx := HX.out.2.2
              obtain ⟨d1, o1, us, e1, y1, hu, t1⟩ := (HK.out.1.below (fun _ _ h => h.below hnx) hnx).at task_len (by decide) hx
              obtain ⟨d2, o2, us2, e2, y2, hu2, t2⟩ := (HK.out.2.1.below (fun _ _ h => h.below hnx) hnx).at task_len (by decide) hx
              have CL : Hid (∀ W, Below wr.heap.size wr W → Calls Tryz.prog 45 #[.agg us.toArray, .agg us2.toArray] W fun e w' => e = .returned (.bool true) ∧ Below W.heap.size W w') := fun W hW => rtask_yes _ W us us2 (hu.below hW) (hu2.below hW) (HK.out.2.2 _ hm)
              have hl1 := task_len _ _ hu
              have hl2 := task_len _ _ hu2
              obtain ⟨av1, cv1, ag1, cg1, ai1, ci1, ao1, co1, ac1, cc1, rfl, -⟩ := hu
              obtain ⟨av2, cv2, ag2, cg2, ai2, ci2, ao2, co2, ac2, cc2, rfl, -⟩ := hu2
              generalize n.tasks.getD k (task0 []) = t at *
              subst e1 e2
              have c0 : wr.cell? ⟨d1, o1 + k * 14, none⟩ = some (.string (str t.name)) := t1 0 _ rfl
              have c1 : wr.cell? ⟨d1, o1 + k * 14 + 1, none⟩ = some (.slice av1 t.vars.length cv1) := t1 1 _ rfl
              have c2 : wr.cell? ⟨d1, o1 + k * 14 + 2, none⟩ = some (.int .i64 t.guard.kind) := t1 2 _ rfl
              have c3 : wr.cell? ⟨d1, o1 + k * 14 + 3, none⟩ = some (.int .i64 t.guard.num) := t1 3 _ rfl
              have c4 : wr.cell? ⟨d1, o1 + k * 14 + 4, none⟩ = some (.slice ag1 t.guard.kids.length cg1) := t1 4 _ rfl
              have c5 : wr.cell? ⟨d1, o1 + k * 14 + 5, none⟩ = some (.int .i64 t.join) := t1 5 _ rfl
              have c6 : wr.cell? ⟨d1, o1 + k * 14 + 6, none⟩ = some (.int .i64 t.split) := t1 6 _ rfl
              have c7 : wr.cell? ⟨d1, o1 + k * 14 + 7, none⟩ = some (.slice ai1 t.ins.length ci1) := t1 7 _ rfl
              have c8 : wr.cell? ⟨d1, o1 + k * 14 + 8, none⟩ = some (.slice ao1 t.outs.length co1) := t1 8 _ rfl
              have c9 : wr.cell? ⟨d1, o1 + k * 14 + 9, none⟩ = some (.slice ac1 t.cancel.length cc1) := t1 9 _ rfl
              have c10 : wr.cell? ⟨d1, o1 + k * 14 + 10, none⟩ = some (.int .i64 t.after) := t1 10 _ rfl
              have c11 : wr.cell? ⟨d1, o1 + k * 14 + 11, none⟩ = some (.int .i64 t.m0) := t1 11 _ rfl
              have c12 : wr.cell? ⟨d1, o1 + k * 14 + 12, none⟩ = some (.int .i64 t.m1) := t1 12 _ rfl
              have c13 : wr.cell? ⟨d1, o1 + k * 14 + 13, none⟩ = some (.int .i64 t.m2) := t1 13 _ rfl
              have g0 : wr.cell? ⟨d2, o2 + k * 14, none⟩ = some (.string (str t.name)) := t2 0 _ rfl
              have g1 : wr.cell? ⟨d2, o2 + k * 14 + 1, none⟩ = some (.slice av2 t.vars.length cv2) := t2 1 _ rfl
              have g2 : wr.cell? ⟨d2, o2 + k * 14 + 2, none⟩ = some (.int .i64 t.guard.kind) := t2 2 _ rfl
              have g3 : wr.cell? ⟨d2, o2 + k * 14 + 3, none⟩ = some (.int .i64 t.guard.num) := t2 3 _ rfl
              have g4 : wr.cell? ⟨d2, o2 + k * 14 + 4, none⟩ = some (.slice ag2 t.guard.kids.length cg2) := t2 4 _ rfl
              have g5 : wr.cell? ⟨d2, o2 + k * 14 + 5, none⟩ = some (.int .i64 t.join) := t2 5 _ rfl
              have g6 : wr.cell? ⟨d2, o2 + k * 14 + 6, none⟩ = some (.int .i64 t.split) := t2 6 _ rfl
              have g7 : wr.cell? ⟨d2, o2 + k * 14 + 7, none⟩ = some (.slice ai2 t.ins.length ci2) := t2 7 _ rfl
              have g8 : wr.cell? ⟨d2, o2 + k * 14 + 8, none⟩ = some (.slice ao2 t.outs.length co2) := t2 8 _ rfl
              have g9 : wr.cell? ⟨d2, o2 + k * 14 + 9, none⟩ = some (.slice ac2 t.cancel.length cc2) := t2 9 _ rfl
              have g10 : wr.cell? ⟨d2, o2 + k * 14 + 10, none⟩ = some (.int .i64 t.after) := t2 10 _ rfl
              have g11 : wr.cell? ⟨d2, o2 + k * 14 + 11, none⟩ = some (.int .i64 t.m0) := t2 11 _ rfl
              have g12 : wr.cell? ⟨d2, o2 + k * 14 + 12, none⟩ = some (.int .i64 t.m1) := t2 12 _ rfl
              have g13 : wr.cell? ⟨d2, o2 + k * 14 + 13, none⟩ = some (.int .i64 t.m2) := t2 13 _ rfl
              have CL2 : Hid (Calls Tryz.prog 45 #[.agg #[.string (str t.name), .slice av1 t.vars.length cv1, .int .i64 t.guard.kind, .int .i64 t.guard.num, .slice ag1 t.guard.kids.length cg1, .int .i64 t.join, .int .i64 t.split, .slice ai1 t.ins.length ci1, .slice ao1 t.outs.length co1, .slice ac1 t.cancel.length cc1, .int .i64 t.after, .int .i64 t.m0, .int .i64 t.m1, .int .i64 t.m2], .agg #[.string (str t.name), .slice av2 t.vars.length cv2, .int .i64 t.guard.kind, .int .i64 t.guard.num, .slice ag2 t.guard.kids.length cg2, .int .i64 t.join, .int .i64 t.split, .slice ai2 t.ins.length ci2, .slice ao2 t.outs.length co2, .slice ac2 t.cancel.length cc2, .int .i64 t.after, .int .i64 t.m0, .int .i64 t.m1, .int .i64 t.m2]] wr.drew fun e w' => e = .returned (.bool true) ∧ ((w'.cell? ⟨w.heap.size, 2, none⟩ = some (.slice (some ⟨d1, o1, none⟩) n.tasks.length kt1) ∧ w'.cell? ⟨w.heap.size + 1, 2, none⟩ = some (.slice (some ⟨d2, o2, none⟩) n.tasks.length kt2)) ∧ (w'.cell? ⟨d1, o1 + k * 14, none⟩ = some (.string (str t.name)) ∧ w'.cell? ⟨d1, o1 + k * 14 + 1, none⟩ = some (.slice av1 t.vars.length cv1) ∧ w'.cell? ⟨d1, o1 + k * 14 + 2, none⟩ = some (.int .i64 t.guard.kind) ∧ w'.cell? ⟨d1, o1 + k * 14 + 3, none⟩ = some (.int .i64 t.guard.num) ∧ w'.cell? ⟨d1, o1 + k * 14 + 4, none⟩ = some (.slice ag1 t.guard.kids.length cg1) ∧ w'.cell? ⟨d1, o1 + k * 14 + 5, none⟩ = some (.int .i64 t.join) ∧ w'.cell? ⟨d1, o1 + k * 14 + 6, none⟩ = some (.int .i64 t.split) ∧ w'.cell? ⟨d1, o1 + k * 14 + 7, none⟩ = some (.slice ai1 t.ins.length ci1) ∧ w'.cell? ⟨d1, o1 + k * 14 + 8, none⟩ = some (.slice ao1 t.outs.length co1) ∧ w'.cell? ⟨d1, o1 + k * 14 + 9, none⟩ = some (.slice ac1 t.cancel.length cc1) ∧ w'.cell? ⟨d1, o1 + k * 14 + 10, none⟩ = some (.int .i64 t.after) ∧ w'.cell? ⟨d1, o1 + k * 14 + 11, none⟩ = some (.int .i64 t.m0) ∧ w'.cell? ⟨d1, o1 + k * 14 + 12, none⟩ = some (.int .i64 t.m1) ∧ w'.cell? ⟨d1, o1 + k * 14 + 13, none⟩ = some (.int .i64 t.m2)) ∧ (w'.cell? ⟨d2, o2 + k * 14, none⟩ = some (.string (str t.name)) ∧ w'.cell? ⟨d2, o2 + k * 14 + 1, none⟩ = some (.slice av2 t.vars.length cv2) ∧ w'.cell? ⟨d2, o2 + k * 14 + 2, none⟩ = some (.int .i64 t.guard.kind) ∧ w'.cell? ⟨d2, o2 + k * 14 + 3, none⟩ = some (.int .i64 t.guard.num) ∧ w'.cell? ⟨d2, o2 + k * 14 + 4, none⟩ = some (.slice ag2 t.guard.kids.length cg2) ∧ w'.cell? ⟨d2, o2 + k * 14 + 5, none⟩ = some (.int .i64 t.join) ∧ w'.cell? ⟨d2, o2 + k * 14 + 6, none⟩ = some (.int .i64 t.split) ∧ w'.cell? ⟨d2, o2 + k * 14 + 7, none⟩ = some (.slice ai2 t.ins.length ci2) ∧ w'.cell? ⟨d2, o2 + k * 14 + 8, none⟩ = some (.slice ao2 t.outs.length co2) ∧ w'.cell? ⟨d2, o2 + k * 14 + 9, none⟩ = some (.slice ac2 t.cancel.length cc2) ∧ w'.cell? ⟨d2, o2 + k * 14 + 10, none⟩ = some (.int .i64 t.after) ∧ w'.cell? ⟨d2, o2 + k * 14 + 11, none⟩ = some (.int .i64 t.m0) ∧ w'.cell? ⟨d2, o2 + k * 14 + 12, none⟩ = some (.int .i64 t.m1) ∧ w'.cell? ⟨d2, o2 + k * 14 + 13, none⟩ = some (.int .i64 t.m2))) ∧ Hid (Two w [.slice pc1 n.colours.length kc1, .slice pp1 n.places.length kp1, .slice (some ⟨d1, o1, none⟩) n.tasks.length kt1, .int .i64 n.frm, .int .i64 n.too] [.slice pc2 n.colours.length kc2, .slice pp2 n.places.length kp2, .slice (some ⟨d2, o2, none⟩) n.tasks.length kt2, .int .i64 n.frm, .int .i64 n.too] w')) := (CL.out wr.drew (Below.refl _ _).drew).mono fun e w' ⟨h1, h2⟩ => by
                replace h2 : Below wr.heap.size wr w' := cast_drew' h2
                exact ⟨h1, ⟨⟨(h2.cell (p := ⟨w.heap.size, 2, none⟩) z1).trans b1, (h2.cell (p := ⟨w.heap.size + 1, 2, none⟩) z2).trans b2⟩, ⟨(h2.cell (p := ⟨d1, _, none⟩) y1).trans c0, (h2.cell (p := ⟨d1, _, none⟩) y1).trans c1, (h2.cell (p := ⟨d1, _, none⟩) y1).trans c2, (h2.cell (p := ⟨d1, _, none⟩) y1).trans c3, (h2.cell (p := ⟨d1, _, none⟩) y1).trans c4, (h2.cell (p := ⟨d1, _, none⟩) y1).trans c5, (h2.cell (p := ⟨d1, _, none⟩) y1).trans c6, (h2.cell (p := ⟨d1, _, none⟩) y1).trans c7, (h2.cell (p := ⟨d1, _, none⟩) y1).trans c8, (h2.cell (p := ⟨d1, _, none⟩) y1).trans c9, (h2.cell (p := ⟨d1, _, none⟩) y1).trans c10, (h2.cell (p := ⟨d1, _, none⟩) y1).trans c11, (h2.cell (p := ⟨d1, _, none⟩) y1).trans c12, (h2.cell (p := ⟨d1, _, none⟩) y1).trans c13⟩, (h2.cell (p := ⟨d2, _, none⟩) y2).trans g0, (h2.cell (p := ⟨d2, _, none⟩) y2).trans g1, (h2.cell (p := ⟨d2, _, none⟩) y2).trans g2, (h2.cell (p := ⟨d2, _, none⟩) y2).trans g3, (h2.cell (p := ⟨d2, _, none⟩) y2).trans g4, (h2.cell (p := ⟨d2, _, none⟩) y2).trans g5, (h2.cell (p := ⟨d2, _, none⟩) y2).trans g6, (h2.cell (p := ⟨d2, _, none⟩) y2).trans g7, (h2.cell (p := ⟨d2, _, none⟩) y2).trans g8, (h2.cell (p := ⟨d2, _, none⟩) y2).trans g9, (h2.cell (p := ⟨d2, _, none⟩) y2).trans g10, (h2.cell (p := ⟨d2, _, none⟩) y2).trans g11, (h2.cell (p := ⟨d2, _, none⟩) y2).trans g12, (h2.cell (p := ⟨d2, _, none⟩) y2).trans g13⟩, HX.out.on h2⟩
              clear t1 t2 hx hnx hm CL hl1 hl2
              go_wp2_with fail
              go_region_held3 (fun w' => (w'.cell? ⟨w.heap.size, 2, none⟩ = some (.slice (some ⟨d1, o1, none⟩) n.tasks.length kt1) ∧ w'.cell? ⟨w.heap.size + 1, 2, none⟩ = some (.slice (some ⟨d2, o2, none⟩) n.tasks.length kt2)) ∧ (w'.cell? ⟨d1, o1 + k * 14, none⟩ = some (.string (str t.name)) ∧ w'.cell? ⟨d1, o1 + k * 14 + 1, none⟩ = some (.slice av1 t.vars.length cv1) ∧ w'.cell? ⟨d1, o1 + k * 14 + 2, none⟩ = some (.int .i64 t.guard.kind) ∧ w'.cell? ⟨d1, o1 + k * 14 + 3, none⟩ = some (.int .i64 t.guard.num) ∧ w'.cell? ⟨d1, o1 + k * 14 + 4, none⟩ = some (.slice ag1 t.guard.kids.length cg1) ∧ w'.cell? ⟨d1, o1 + k * 14 + 5, none⟩ = some (.int .i64 t.join) ∧ w'.cell? ⟨d1, o1 + k * 14 + 6, none⟩ = some (.int .i64 t.split) ∧ w'.cell? ⟨d1, o1 + k * 14 + 7, none⟩ = some (.slice ai1 t.ins.length ci1) ∧ w'.cell? ⟨d1, o1 + k * 14 + 8, none⟩ = some (.slice ao1 t.outs.length co1) ∧ w'.cell? ⟨d1, o1 + k * 14 + 9, none⟩ = some (.slice ac1 t.cancel.length cc1) ∧ w'.cell? ⟨d1, o1 + k * 14 + 10, none⟩ = some (.int .i64 t.after) ∧ w'.cell? ⟨d1, o1 + k * 14 + 11, none⟩ = some (.int .i64 t.m0) ∧ w'.cell? ⟨d1, o1 + k * 14 + 12, none⟩ = some (.int .i64 t.m1) ∧ w'.cell? ⟨d1, o1 + k * 14 + 13, none⟩ = some (.int .i64 t.m2)) ∧ (w'.cell? ⟨d2, o2 + k * 14, none⟩ = some (.string (str t.name)) ∧ w'.cell? ⟨d2, o2 + k * 14 + 1, none⟩ = some (.slice av2 t.vars.length cv2) ∧ w'.cell? ⟨d2, o2 + k * 14 + 2, none⟩ = some (.int .i64 t.guard.kind) ∧ w'.cell? ⟨d2, o2 + k * 14 + 3, none⟩ = some (.int .i64 t.guard.num) ∧ w'.cell? ⟨d2, o2 + k * 14 + 4, none⟩ = some (.slice ag2 t.guard.kids.length cg2) ∧ w'.cell? ⟨d2, o2 + k * 14 + 5, none⟩ = some (.int .i64 t.join) ∧ w'.cell? ⟨d2, o2 + k * 14 + 6, none⟩ = some (.int .i64 t.split) ∧ w'.cell? ⟨d2, o2 + k * 14 + 7, none⟩ = some (.slice ai2 t.ins.length ci2) ∧ w'.cell? ⟨d2, o2 + k * 14 + 8, none⟩ = some (.slice ao2 t.outs.length co2) ∧ w'.cell? ⟨d2, o2 + k * 14 + 9, none⟩ = some (.slice ac2 t.cancel.length cc2) ∧ w'.cell? ⟨d2, o2 + k * 14 + 10, none⟩ = some (.int .i64 t.after) ∧ w'.cell? ⟨d2, o2 + k * 14 + 11, none⟩ = some (.int .i64 t.m0) ∧ w'.cell? ⟨d2, o2 + k * 14 + 12, none⟩ = some (.int .i64 t.m1) ∧ w'.cell? ⟨d2, o2 + k * 14 + 13, none⟩ = some (.int .i64 t.m2))) (go_keep)
                (first | (go_at_call 45; refine CL2.out.mono ?_; rintro e w1 ⟨he', ⟨⟨q0, q1⟩, ⟨r0, r1, r2, r3, r4, r5, r6, r7, r8, r9, r10, r11, r12, r13⟩, s0, s1, s2, s3, s4, s5, s6, s7, s8, s9, s10, s11, s12, s13⟩, HX2⟩; subst he'))
              all_goals
                go_wp2_with fail
                go_roundw
                case rel => exact ⟨k + 1, by omega, by go_num, HX2⟩
                case measure => simp [intOf]; omega
            · obtain rfl : k = n.tasks.length := by omega
              have T1 : Hid (Below w.heap.size w wr) := HX.out.2.2
              clear HX b2
              go_wp2_with fail
              go_ret
              exact ⟨rfl, T1.out⟩
end Go.Proofs.YtjcanodnlnodpaaGreatDoor.Parse
