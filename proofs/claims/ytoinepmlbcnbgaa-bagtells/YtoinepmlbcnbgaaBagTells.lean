/- BagTells holds: for all b, m, l, most the law returns true, and leaves its arguments as they were. No condition. -/
import Derived.Test.YtoinepmlbcnbgaaBagSmall
import Derived.Test.YtoinepmlbcnbgaaBagOpen
import Derived.Test.YtoinepmlbcnbgaaBagROf
import Derived.Test.YtoinepmlbcnbgaaBagRList
namespace Go.Proofs.Ytoinepmlbcnbgaa.bagTells
open Go.ChangeShapes Go.WideShapes Go.ChangeAt Go.RowKit Go.Proofs.Ytoinepmlbcnbgaa.Frame Go.Proofs.Ytoinepmlbcnbgaa.Bag
set_option linter.unusedVariables false

theorem drawn {w w' : World} (h : ∃ n, w' = w.drewN n) : Below w.heap.size w w' := by
  obtain ⟨n, rfl⟩ := h
  exact below_drewN (Below.refl _ _) _

set_option maxHeartbeats 4000000 in
set_option maxRecDepth 100000 in
theorem long0 (a0 : Option Addr) (len0 cap0 : Nat) (xs : List Row) (m : Int) (a2 : Option Addr) (len2 cap2 : Nat) (zs : List Int) (q : Int) (w : World) (g0 : Bags w a0 len0 xs) (g1 : (Lit.int .i64 m).wf = true) (g2 : Nums w a2 len2 zs) (g3 : (Lit.int .i64 q).wf = true) (l0 : 60 < len0) :
    Calls Try.prog 3 #[.slice a0 len0 cap0, .int .i64 m, .slice a2 len2 cap2, .int .i64 q] w fun e w' => e = .returned (.bool true) ∧ Below w.heap.size w w' := by
  have hA : Hid (Bags w a0 len0 xs) := g0
  have hL : Hid (Nums w a2 len2 zs) := g2
  have IQ : Hid (In64 q) := bounds_i64 g3
  clear g0 g1 g2 g3
  have l0' : (60 : Int) < len0 := by omega
  go_enter Try.func3, Try.ntmps3
  go_wp2_with fail
  refine (small_any _).mono ?_
  rintro e w1 ⟨he, hb⟩
  subst he
  have B1 : Hid (Below w.heap.size w w1) := (hb)
  have hA : Hid (Bags w1 _ _ _) := hA.out.below (hb)
  have hL : Hid (Nums w1 _ _ _) := hL.out.below (hb)
  clear hb
  go_wp2
  go_ret
  exact ⟨rfl, B1.out⟩

set_option maxHeartbeats 4000000 in
set_option maxRecDepth 100000 in
theorem long1 (a0 : Option Addr) (len0 cap0 : Nat) (xs : List Row) (m : Int) (a2 : Option Addr) (len2 cap2 : Nat) (zs : List Int) (q : Int) (w : World) (g0 : Bags w a0 len0 xs) (g1 : (Lit.int .i64 m).wf = true) (g2 : Nums w a2 len2 zs) (g3 : (Lit.int .i64 q).wf = true) (l0 : ¬ 60 < len0) (l1 : 200 < len2) :
    Calls Try.prog 3 #[.slice a0 len0 cap0, .int .i64 m, .slice a2 len2 cap2, .int .i64 q] w fun e w' => e = .returned (.bool true) ∧ Below w.heap.size w w' := by
  have hA : Hid (Bags w a0 len0 xs) := g0
  have hL : Hid (Nums w a2 len2 zs) := g2
  have IQ : Hid (In64 q) := bounds_i64 g3
  clear g0 g1 g2 g3
  have l0' : ¬ (60 : Int) < len0 := by omega
  have l1' : (200 : Int) < len2 := by omega
  go_enter Try.func3, Try.ntmps3
  go_wp2_with fail
  refine (small_any _).mono ?_
  rintro e w1 ⟨he, hb⟩
  subst he
  have B1 : Hid (Below w.heap.size w w1) := (hb)
  have hA : Hid (Bags w1 _ _ _) := hA.out.below (hb)
  have hL : Hid (Nums w1 _ _ _) := hL.out.below (hb)
  clear hb
  go_wp2
  go_ret
  exact ⟨rfl, B1.out⟩

set_option maxHeartbeats 4000000 in
set_option maxRecDepth 100000 in
theorem way (a0 : Option Addr) (len0 cap0 : Nat) (xs : List Row) (m : Int) (a2 : Option Addr) (len2 cap2 : Nat) (zs : List Int) (q : Int) (w : World) (g0 : Bags w a0 len0 xs) (g1 : (Lit.int .i64 m).wf = true) (g2 : Nums w a2 len2 zs) (g3 : (Lit.int .i64 q).wf = true) (l0 : ¬ 60 < len0) (l1 : ¬ 200 < len2) :
    Calls Try.prog 3 #[.slice a0 len0 cap0, .int .i64 m, .slice a2 len2 cap2, .int .i64 q] w fun e w' => e = .returned (.bool true) ∧ Below w.heap.size w w' := by
  have hA : Hid (Bags w a0 len0 xs) := g0
  have hL : Hid (Nums w a2 len2 zs) := g2
  have IQ : Hid (In64 q) := bounds_i64 g3
  clear g0 g1 g2 g3
  have l0' : ¬ (60 : Int) < len0 := by omega
  have l1' : ¬ (200 : Int) < len2 := by omega
  go_enter Try.func3, Try.ntmps3
  go_wp2_with fail
  refine (small_any _).mono ?_
  rintro e w1 ⟨he, hb⟩
  subst he
  have B1 : Hid (Below w.heap.size w w1) := (hb)
  have hA : Hid (Bags w1 _ _ _) := hA.out.below (hb)
  have hL : Hid (Nums w1 _ _ _) := hL.out.below (hb)
  clear hb
  go_wp2_with fail
  refine (right_any _ _ _ xs _ hA.out (by omega)).mono ?_
  rintro e w2 ⟨he, hb⟩
  subst he
  generalize hr : rightB xs = r
  have HR : Hid (rightB xs = r) := hr
  clear hr
  have B2 : Hid (Below w.heap.size w w2) := then_ B1.out (hb)
  have hA : Hid (Bags w2 _ _ _) := hA.out.below (hb)
  have hL : Hid (Nums w2 _ _ _) := hL.out.below (hb)
  clear hb
  clear B1
  go_wp2_with fail
  refine ((rright_q _ _ _ xs _ hA.out (by omega)).mono (fun e w' h => (⟨h.1, drawn h.2⟩ : _ ∧ Below _ _ w'))).mono ?_
  rintro e w3 ⟨he, hb⟩
  subst he
  rw [HR.out]
  clear HR
  have B3 : Hid (Below w.heap.size w w3) := then_ B2.out (hb)
  have hA : Hid (Bags w3 _ _ _) := hA.out.below (hb)
  have hL : Hid (Nums w3 _ _ _) := hL.out.below (hb)
  clear hb
  clear B2
  go_wp2_with fail
  refine (Count_any _ _ _ xs m _ hA.out (by omega)).mono ?_
  rintro e w4 ⟨he, hb⟩
  subst he
  generalize hr : countB xs m = c
  have HC : Hid (countB xs m = c) := hr
  clear hr
  have B4 : Hid (Below w.heap.size w w4) := then_ B3.out (hb)
  have hA : Hid (Bags w4 _ _ _) := hA.out.below (hb)
  have hL : Hid (Nums w4 _ _ _) := hL.out.below (hb)
  clear hb
  clear B3
  go_wp2_with fail
  refine ((rcount_q _ _ _ xs m _ hA.out (by omega)).mono (fun e w' h => (⟨h.1, drawn h.2⟩ : _ ∧ Below _ _ w'))).mono ?_
  rintro e w5 ⟨he, hb⟩
  subst he
  rw [HC.out]
  clear HC
  have B5 : Hid (Below w.heap.size w w5) := then_ B4.out (hb)
  have hA : Hid (Bags w5 _ _ _) := hA.out.below (hb)
  have hL : Hid (Nums w5 _ _ _) := hL.out.below (hb)
  clear hb
  clear B4
  go_wp2_with fail
  refine (Total_any _ _ _ xs _ hA.out (by omega)).mono ?_
  rintro e w6 ⟨he, hb⟩
  subst he
  generalize hr : totalB xs = t
  have HT : Hid (totalB xs = t) := hr
  clear hr
  have B6 : Hid (Below w.heap.size w w6) := then_ B5.out (hb)
  have hA : Hid (Bags w6 _ _ _) := hA.out.below (hb)
  have hL : Hid (Nums w6 _ _ _) := hL.out.below (hb)
  clear hb
  clear B5
  go_wp2_with fail
  refine ((rtotal_q _ _ _ xs _ hA.out (by omega)).mono (fun e w' h => (⟨h.1, drawn h.2⟩ : _ ∧ Below _ _ w'))).mono ?_
  rintro e w7 ⟨he, hb⟩
  subst he
  rw [HT.out]
  clear HT
  have B7 : Hid (Below w.heap.size w w7) := then_ B6.out (hb)
  have hA : Hid (Bags w7 _ _ _) := hA.out.below (hb)
  have hL : Hid (Nums w7 _ _ _) := hL.out.below (hb)
  clear hb
  clear B6
  go_wp2_with fail
  refine (of_ok _ _ _ zs _ hL.out (by omega)).mono ?_
  rintro e w8 ⟨oa, ol, oc, os, he, q5, hb⟩
  subst he
  have O : Hid (Has (ofC zs) os) := q5.out.1.1
  have lo := q5.out.1.2
  have hO : Hid (Bags _ _ _ _) := q5.out.2
  clear q5
  have B8 : Hid (Below w.heap.size w w8) := then_ B7.out (hb)
  have hA : Hid (Bags w8 _ _ _) := hA.out.below (hb)
  have hL : Hid (Nums w8 _ _ _) := hL.out.below (hb)
  clear hb
  clear B7
  go_wp2_with fail
  refine (rof_any _ _ _ zs _ hL.out (by omega)).mono ?_
  rintro e w9 ⟨ps, hP, ⟨⟨pa, pl, pc, he, hPb, lp⟩, hb⟩⟩
  subst he
  have P : Hid (Has (ofC zs) ps) := hP
  have hP : Hid (Bags _ _ _ _) := hPb
  clear hPb
  have B9 : Hid (Below w.heap.size w w9) := then_ B8.out (hb)
  have hA : Hid (Bags w9 _ _ _) := hA.out.below (hb)
  have hO : Hid (Bags w9 _ _ _) := hO.out.below (hb)
  have hL : Hid (Nums w9 _ _ _) := hL.out.below (hb)
  clear hb
  clear B8
  go_wp2_with fail
  refine (rows_any _ _ _ _ _ _ os ps _ hO.out hP.out (by omega) (by omega)).mono ?_
  rintro e w10 ⟨he, hb⟩
  subst he
  rw [show eqB os ps = true from decide_eq_true (O.out.uniq P.out)]
  have B10 : Hid (Below w.heap.size w w10) := then_ B9.out (hb)
  have hA : Hid (Bags w10 _ _ _) := hA.out.below (hb)
  have hO : Hid (Bags w10 _ _ _) := hO.out.below (hb)
  have hP : Hid (Bags w10 _ _ _) := hP.out.below (hb)
  have hL : Hid (Nums w10 _ _ _) := hL.out.below (hb)
  clear hb
  clear B9
  have hq6 : min q 1000 ≤ 1000000 := by omega
  have IM : Hid (In64 (min q 1000)) := (show In64 _ by have := IQ.out; unfold In64 at *; omega)
  go_wp2_with fail
  refine (list_any _ _ _ xs (min q 1000) _ hA.out (by omega) hq6).mono ?_
  rintro e w11 ⟨⟨la, ln, lc, he, h11⟩, hb⟩
  subst he
  have hI : Hid (Nums _ _ _ _) := h11
  clear h11
  have B11 : Hid (Below w.heap.size w w11) := then_ B10.out (hb)
  have hA : Hid (Bags w11 _ _ _) := hA.out.below (hb)
  have hO : Hid (Bags w11 _ _ _) := hO.out.below (hb)
  have hP : Hid (Bags w11 _ _ _) := hP.out.below (hb)
  have hL : Hid (Nums w11 _ _ _) := hL.out.below (hb)
  clear hb
  clear B10
  go_wp2_with fail
  refine (rlist_any _ _ _ xs (min q 1000) _ hA.out (by omega) hq6 IM.out).mono ?_
  rintro e w12 ⟨⟨ka, kn, kc, he, h12⟩, hb⟩
  subst he
  have hJ : Hid (Nums _ _ _ _) := h12
  clear h12
  have B12 : Hid (Below w.heap.size w w12) := then_ B11.out (hb)
  have hA : Hid (Bags w12 _ _ _) := hA.out.below (hb)
  have hO : Hid (Bags w12 _ _ _) := hO.out.below (hb)
  have hP : Hid (Bags w12 _ _ _) := hP.out.below (hb)
  have hL : Hid (Nums w12 _ _ _) := hL.out.below (hb)
  have hI : Hid (Nums w12 _ _ _) := hI.out.below (hb)
  clear hb
  clear B11
  have n1 : (listB xs (min q 1000)).length ≤ 1000 := by unfold listB; split; rw [List.length_take]; omega; simp
  have e1 := hI.out.1.1
  have e2 := hJ.out.1.1
  have m1 : ln ≤ 1000 := by omega
  have m2 : kn ≤ 1000 := by omega
  clear n1 e1 e2
  go_wp2_with fail
  refine (ints_any _ _ _ _ _ _ (listB xs (min q 1000)) (listB xs (min q 1000)) _ hI.out hJ.out (by omega) (by omega)).mono ?_
  rintro e w13 ⟨he, hb⟩
  subst he
  rw [show eqI (listB xs (min q 1000)) (listB xs (min q 1000)) = true from decide_eq_true rfl]
  have B13 : Hid (Below w.heap.size w w13) := then_ B12.out (hb)
  have hA : Hid (Bags w13 _ _ _) := hA.out.below (hb)
  have hO : Hid (Bags w13 _ _ _) := hO.out.below (hb)
  have hP : Hid (Bags w13 _ _ _) := hP.out.below (hb)
  have hL : Hid (Nums w13 _ _ _) := hL.out.below (hb)
  have hI : Hid (Nums w13 _ _ _) := hI.out.below (hb)
  have hJ : Hid (Nums w13 _ _ _) := hJ.out.below (hb)
  clear hb
  clear B12
  go_wp2
  go_ret
  exact ⟨rfl, B13.out⟩

theorem walk (a0 : Option Addr) (len0 cap0 : Nat) (xs : List Row) (m : Int) (a2 : Option Addr) (len2 cap2 : Nat) (zs : List Int) (q : Int) (w : World) (g0 : Bags w a0 len0 xs) (g1 : (Lit.int .i64 m).wf = true) (g2 : Nums w a2 len2 zs) (g3 : (Lit.int .i64 q).wf = true) :
    Calls Try.prog 3 #[.slice a0 len0 cap0, .int .i64 m, .slice a2 len2 cap2, .int .i64 q] w fun e w' => e = .returned (.bool true) ∧ Below w.heap.size w w' := by
  by_cases l0 : 60 < len0
  · exact long0 a0 len0 cap0 xs m a2 len2 cap2 zs q w g0 g1 g2 g3 l0
  by_cases l1 : 200 < len2
  · exact long1 a0 len0 cap0 xs m a2 len2 cap2 zs q w g0 g1 g2 g3 l0 l1
  · exact way a0 len0 cap0 xs m a2 len2 cap2 zs q w g0 g1 g2 g3 l0 l1

set_option maxRecDepth 100000 in
theorem lifted (os : Os) (started : os.Started) (H : Type) (enc : TypeId × Value → H) :
    ReturnsInHanded {} Try.checked os 3 .any (Rows.bagTellsSpec.pre6 enc Try.prog Try.f3 Rows.bagTellsRow.domain false) (Rows.bagTellsSpec.post enc Try.prog Try.f3 false true false false) := by
  refine returnsInHanded_of_change (C := Try.checked) Frame.own started (by kernel_rfl) Try.func3
    (ChangeSpec.witness6 (enc := enc) (C := Try.checked) false ⟨#[], #[.slice none 0 0, .int .i64 0, .slice none 0 0, .int .i64 0], []⟩ 8 (by kernel_rfl) (by kernel_rfl) (by kernel_rfl) (by kernel_rfl)) ?_
  intro W base args ds gs before hval0 hW hcnd _
  have hval : ∀ (j : Nat) t v, Try.f3.params[j]? = some t → args[j]? = some v → Value.okWide Try.prog W .any base t v := hval0
  have hW' := hW
  obtain ⟨p, q, hA0, hV, rfl, hfz, hnd⟩ := hW
  have hA : DataW.TrodAll enc Try.prog W 0 (fun _ => true) true Try.f3.params.toList args.toList ds p := hA0
  rw [Try.params3] at hA hval
  obtain ⟨v0, vs0, d0, ds0, p0, q0, hargs, rfl, rfl, h0, r0⟩ := trodAll_cons hA
  obtain ⟨v1, vs1, d1, ds1, p1, q1, rfl, rfl, rfl, h1, r1⟩ := trodAll_cons r0
  obtain ⟨v2, vs2, d2, ds2, p2, q2, rfl, rfl, rfl, h2, r2⟩ := trodAll_cons r1
  obtain ⟨v3, vs3, d3, ds3, p3, q3, rfl, rfl, rfl, h3, r3⟩ := trodAll_cons r2
  obtain ⟨rfl, rfl, rfl⟩ := trodAll_nil r3
  obtain rfl : args = #[v0, v1, v2, v3] := by cases args; simp_all
  obtain ⟨rfl, rfl⟩ := trodVars_none hV
  obtain ⟨a0, len0, cap0, rfl⟩ := okWide_slice Try.underlying23 (hval 0 23 v0 rfl rfl)
  have k0 := h0
  have lt0 : ∀ x ∈ p0, x.block < W.heap.size := by obtain ⟨m, hm⟩ := k0; exact DataW.trod_lt m _ _ _ hm
  obtain ⟨fu0, hf0⟩ := h0
  obtain ⟨z0, w0⟩ := Bag.open_bags hf0
  obtain ⟨a1, rfl, rfl, rfl, w1⟩ := open_int Try.underlying3 (hval 1 3 v1 rfl rfl) h1
  obtain ⟨a2, len2, cap2, rfl⟩ := okWide_slice Try.underlying24 (hval 2 24 v2 rfl rfl)
  have k2 := h2
  have lt2 : ∀ x ∈ p2, x.block < W.heap.size := by obtain ⟨m, hm⟩ := k2; exact DataW.trod_lt m _ _ _ hm
  obtain ⟨fu2, hf2⟩ := h2
  obtain ⟨z2, w2⟩ := Bag.open_nums hf2
  obtain ⟨a3, rfl, rfl, rfl, w3⟩ := open_int Try.underlying3 (hval 3 3 v3 rfl rfl) h3
  clear hA0 hval0
  refine (walk a0 len0 cap0 z0 a1 a2 len2 cap2 z2 a3 W w0 w1 w2 w3).mono fun e W' ⟨he, bel⟩ => ?_
  subst he
  exact ⟨_, rfl, _, _, _, [], _, [], hW', trodAll_mk1 (shut_bool Try.underlying4 _), (trodAll_cons_mk (Below.trod Frame.laidOut (by kernel_rfl) (of_decide_eq_true (by kernel_rfl)) k0 bel lt0) (trodAll_cons_mk (shut_int Try.underlying3 w1) (trodAll_cons_mk (Below.trod Frame.laidOut (by kernel_rfl) (of_decide_eq_true (by kernel_rfl)) k2 bel lt2) (trodAll_cons_mk (shut_int Try.underlying3 w3) trodAll_mk0)))), rfl, bel.frame _, fun h => by cases h⟩

theorem over : Rows.bagTellsRow.holds Try.pinned (OpenSpec.ofChange Rows.bagTellsSpec) :=
  OpenClaim.holds_of_wide 3 Try.f3 rfl rfl rfl rfl rfl rfl rfl ⟨rfl, rfl, rfl, rfl, rfl⟩ rfl rfl rfl rfl rfl (by kernel_rfl) Try.func3 (by kernel_rfl)
    (of_decide_eq_true (by kernel_rfl)) (by unfold Func.isWrapper; first | (rw [if_pos (by decide +kernel)]; kernel_rfl) | (rw [if_neg (by decide +kernel)]; exact ⟨rfl, rfl⟩))
    (fun os started H enc _ => lifted os started H enc)

theorem proved : Rows.BagTellsSaid := over
end Go.Proofs.Ytoinepmlbcnbgaa.bagTells
