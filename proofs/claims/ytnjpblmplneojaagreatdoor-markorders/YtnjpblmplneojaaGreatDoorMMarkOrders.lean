/- Proved: MarkOrders answers true for every two markings, as the whole program has it: what Same, Within and Compare of package mark tell is what the document's own answers tell. -/
import Derived.Test.YtnjpblmplneojaaGreatDoorMbL
import Derived.Test.YtnjpblmplneojaaGreatDoorMbM
import Derived.Test.YtnjpblmplneojaaGreatDoorMbG
import Derived.Test.YtnjpblmplneojaaGreatDoorCards
import Derived.Test.YtnjpblmplneojaaGreatDoorTie
import Derived.LaidMore
import Derived.Stop.Joined
import Derived.SevenTiedAt
namespace Go.Proofs.YtnjpblmplneojaaGreatDoor.markOrders
open Go.ChangeShapes Go.WideShapes Go.ChangeAt Go.ChangeMaps Go.RowKit Go.Proofs.YtnjpblmplneojaaGreatDoor.Frame Go.Proofs.YtnjpblmplneojaaGreatDoor.Mark
set_option linter.unusedVariables false
set_option linter.unusedSimpArgs false

set_option maxRecDepth 100000 in
set_option maxHeartbeats 4000000 in
theorem walk (a : Option Addr) (la ca : Nat) (xs : List Bg) (b : Option Addr) (lb cb : Nat) (ys : List Bg) (w : World) (ha : Mks w a la xs) (hb : Mks w b lb ys) :
    Calls Tryz.prog 3 #[.slice a la ca, .slice b lb cb] w fun e w' => e = .returned (.bool true) ∧ Below w.heap.size w w' := by
  have HA : Hid (Mks w a la xs) := ha
  have HB : Hid (Mks w b lb ys) := hb
  clear ha hb
  go_enter Tryz.func3, Tryz.ntmps3
  go_wp2_with fail
  refine (small_any w).mono ?_
  rintro e w1 ⟨he, hb1⟩
  subst he
  have B1 : Hid (Below w.heap.size w w1) := hb1
  clear hb1
  go_wp2_with fail
  refine (few_any a la ca xs w1 (HA.out.below B1.out)).mono ?_
  rintro e w2 ⟨he, hb2⟩
  subst he
  have B2 : Hid (Below w.heap.size w w2) := then_ B1.out hb2
  clear hb2 B1
  go_wp2_with fail
  refine (few_any b lb cb ys w2 (HB.out.below B2.out)).mono ?_
  rintro e w3 ⟨he, hb3⟩
  subst he
  have B3 : Hid (Below w.heap.size w w3) := then_ B2.out hb3
  clear hb3 B2
  cases hfa : fewB xs with
  | false =>
    clear hfa
    generalize fewB ys = v
    go_wp2
    go_ret
    exact ⟨rfl, B3.out⟩
  | true =>
  cases hfb : fewB ys with
  | false =>
    clear hfb
    go_wp2
    go_ret
    exact ⟨rfl, B3.out⟩
  | true =>
  have SX : Hid (Sm xs) := few_sm hfa
  have SY : Hid (Sm ys) := few_sm hfb
  clear hfa hfb
  go_wp2_with fail
  refine (same_m a b la ca lb cb xs ys w3 (HA.out.below B3.out) (HB.out.below B3.out) SX.out SY.out).mono ?_
  rintro e w4 ⟨he, hb4⟩
  subst he
  have B4 : Hid (Below w.heap.size w w4) := then_ B3.out hb4
  clear hb4 B3
  go_wp2_with fail
  refine (rsame_m a b la ca lb cb xs ys w4 (HA.out.below B4.out) (HB.out.below B4.out) SX.out SY.out).mono ?_
  rintro e w5 ⟨he, hb5⟩
  subst he
  have B5 : Hid (Below w.heap.size w w5) := then_ B4.out hb5
  clear hb5 B4
  generalize sameM (mkOf xs) (mkOf ys) = s1
  have t1 : (s1 == s1) = true := by simp
  go_wp2_with fail
  refine (within_m a b la ca lb cb xs ys w5 (HA.out.below B5.out) (HB.out.below B5.out) SX.out SY.out).mono ?_
  rintro e w6 ⟨he, hb6⟩
  subst he
  have B6 : Hid (Below w.heap.size w w6) := then_ B5.out hb6
  clear hb6 B5
  go_wp2_with fail
  refine (rwithin_m a b la ca lb cb xs ys w6 (HA.out.below B6.out) (HB.out.below B6.out) SX.out SY.out).mono ?_
  rintro e w7 ⟨he, hb7⟩
  subst he
  have B7 : Hid (Below w.heap.size w w7) := then_ B6.out hb7
  clear hb7 B6
  generalize withinM (mkOf xs) (mkOf ys) = s2
  have t2 : (s2 == s2) = true := by simp
  go_wp2_with fail
  refine (compare_m a b la ca lb cb xs ys w7 (HA.out.below B7.out) (HB.out.below B7.out) SX.out SY.out).mono ?_
  rintro e w8 ⟨he, hb8⟩
  subst he
  have B8 : Hid (Below w.heap.size w w8) := then_ B7.out hb8
  clear hb8 B7
  go_wp2_with fail
  refine (rcompare_m a b la ca lb cb xs ys w8 (HA.out.below B8.out) (HB.out.below B8.out) SX.out SY.out).mono ?_
  rintro e w9 ⟨he, hb9⟩
  subst he
  have B9 : Hid (Below w.heap.size w w9) := then_ B8.out hb9
  clear hb9 B8
  generalize compareM (mkOf xs) (mkOf ys) = s3
  have t3 : (s3 == s3) = true := by simp
  go_wp2
  go_ret
  exact ⟨rfl, B9.out⟩

theorem door_met (os : Os) (args : Array Value) : laidMetH Tryz.prog Rows.markOrdersRow.laid ((World.doorLaid Tryz.prog 400 os).forCall (fun _ _ => 0) ⟨#[], args, []⟩).memory :=
  laidMetH_of_parts3 (fuel := 8) (laidMet_of_run' 8 (by kernel_rfl) (by kernel_rfl)) (by kernel_rfl) (by kernel_rfl)

set_option maxRecDepth 100000 in
set_option maxHeartbeats 4000000 in
theorem lifted (os : Os) (started : os.Started) (H : Type) (enc : TypeId × Value → H) :
    ReturnsInHanded {} Tryz.checked os 3 .any (fun w args => (Rows.markOrdersSpec.pre enc Tryz.prog Tryz.f3 [] false w args ∧ laidMetH Tryz.prog Rows.markOrdersRow.laid w) ∧ sizedMet enc Tryz.prog Tryz.f3 (OpenSpec.ofChange Rows.markOrdersSpec) false w args)
      (Rows.markOrdersSpec.post enc Tryz.prog Tryz.f3 false true false false) := by
  refine returnsInHanded_of_change_and (C := Tryz.checked) (X := fun w _ => laidMetH Tryz.prog Rows.markOrdersRow.laid w) (fun _ _ _ hh h => h.of_heap hh) Frame.own started (by kernel_rfl) Tryz.func3
    (ChangeSpec.witness_shaped (enc := enc) (C := Tryz.checked) (os := os) (X := fun w _ => laidMetH Tryz.prog Rows.markOrdersRow.laid w) false (World.doorLaid Tryz.prog 400 os) #[.slice none 0 0, .slice none 0 0] 8 rfl (World.shaped_of_RefB (by kernel_rfl) (by kernel_rfl)) (by kernel_rfl) (by kernel_rfl) (by kernel_rfl) (door_met os _)) ?_
  intro W base args ds gs before hval0 hW _ hZ0 hL _
  have hval : ∀ (j : Nat) t v, Tryz.f3.params[j]? = some t → args[j]? = some v → Value.okWide Tryz.prog W .any base t v := hval0
  have hW' := hW
  obtain ⟨p, q, hA0, hV, rfl, hfz, hnd⟩ := hW
  have hA : DataW.TrodAll enc Tryz.prog W 0 (fun _ => true) true Tryz.f3.params.toList args.toList ds p := hA0
  rw [Tryz.params3] at hA hval
  have hZ : (DataW.weightsEach Tryz.prog (Tryz.f3.params.toList ++ Rows.markOrdersSpec.plain.varTypes Tryz.prog) (ds ++ gs)).all (· ≤ reachBytes) = true := hZ0
  rw [Tryz.params3] at hZ
  clear hZ0
  obtain ⟨v0, vs0, d0, ds0, p0, q0, hargs, rfl, rfl, h0, r0⟩ := trodAll_cons hA
  obtain ⟨v1, vs1, d1, ds1, p1, q1, rfl, rfl, rfl, h1, r1⟩ := trodAll_cons r0
  obtain ⟨rfl, rfl, rfl⟩ := trodAll_nil r1
  obtain rfl : args = #[v0, v1] := by cases args; simp_all
  obtain ⟨rfl, rfl⟩ := trodVars_none hV
  obtain ⟨a0, len0, cap0, rfl⟩ := okWide_slice Tryz.underlying23 (hval 0 23 v0 rfl rfl)
  have k0 := h0
  have lt0 : ∀ x ∈ p0, x.block < W.heap.size := by obtain ⟨m, hm⟩ := k0; exact DataW.trod_lt m _ _ _ hm
  obtain ⟨fu0, hf0⟩ := h0
  obtain ⟨z0, w0⟩ := Mark.open_mk (cap := cap0) hf0 (fun m hm => of_decide_eq_true (List.all_eq_true.1 hZ m (DataW.weights_mem_each (j := 0) (t := 23) rfl rfl m hm)))
  obtain ⟨a1, len1, cap1, rfl⟩ := okWide_slice Tryz.underlying23 (hval 1 23 v1 rfl rfl)
  have k1 := h1
  have lt1 : ∀ x ∈ p1, x.block < W.heap.size := by obtain ⟨m, hm⟩ := k1; exact DataW.trod_lt m _ _ _ hm
  obtain ⟨fu1, hf1⟩ := h1
  obtain ⟨z1, w1⟩ := Mark.open_mk (cap := cap1) hf1 (fun m hm => of_decide_eq_true (List.all_eq_true.1 hZ m (DataW.weights_mem_each (j := 1) (t := 23) rfl rfl m hm)))
  clear hA0 hval0
  refine (walk a0 len0 cap0 z0 a1 len1 cap1 z1 W w0 w1).mono fun e W' ⟨he, bel⟩ => ?_
  subst he
  exact ⟨_, rfl, _, _, _, [], _, [], hW', trodAll_mk1 (shut_bool Tryz.underlying4 _), (trodAll_cons_mk (Below.trod Frame.laidOut (by kernel_rfl) (of_decide_eq_true (by kernel_rfl)) k0 bel lt0) (trodAll_cons_mk (Below.trod Frame.laidOut (by kernel_rfl) (of_decide_eq_true (by kernel_rfl)) k1 bel lt1) trodAll_mk0)), rfl, bel.frame _, fun h => by cases h⟩

theorem over : Rows.MarkOrdersSaid :=
  OpenClaim.holds_of_wide 3 Tryz.f3 rfl rfl rfl rfl rfl rfl rfl ⟨rfl, rfl, rfl, rfl, rfl⟩ rfl rfl rfl rfl rfl (by kernel_rfl) Tryz.func3 (by kernel_rfl)
    (of_decide_eq_true (by kernel_rfl)) (by unfold Func.isWrapper; first | (rw [if_pos (by decide +kernel)]; kernel_rfl) | (rw [if_neg (by decide +kernel)]; exact ⟨rfl, rfl⟩))
    (fun os started H enc _ => lifted os started H enc)

theorem proved : Rows.MarkOrdersCardSaid :=
  Claim7.holds_tied_plain_at .later [] [.data, .data, .data] true (true, "2b5d1f382493339705975560aba43e05780851a85194b9148d285f45e5ab5452") false
    over (fun _ h => by cases h) (by kernel_rfl) (fun _ h => by cases h) markOrders_row_tie rfl ⟨rfl, rfl⟩ (by kernel_rfl) rfl
    (fun f fn hf hfn => by
      obtain rfl : f = 3 := Option.some.inj ((show Tryz.prog.funcNamed Rows.markOrdersRow.func = some 3 by kernel_rfl).symm.trans hf) |>.symm
      obtain rfl : fn = Tryz.f3 := (Option.some.inj (Tryz.func3.symm.trans hfn)).symm
      exact ⟨by kernel_rfl, fun j t ht => by
        rw [Tryz.params3] at ht
        have hm : t ∈ [23, 23] := by simpa using Array.mem_of_getElem? ht
        have hall : ([23, 23].all fun u => !Tryz.prog.wantsStandIn u) = true := by kernel_rfl
        exact (show Tryz.prog.wantsStandIn t = false by simpa using List.all_eq_true.1 hall t hm)⟩)
    (by kernel_rfl)
end Go.Proofs.YtnjpblmplneojaaGreatDoor.markOrders
