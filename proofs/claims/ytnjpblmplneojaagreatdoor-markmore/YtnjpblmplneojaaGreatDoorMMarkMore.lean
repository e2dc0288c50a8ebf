/- Proved: MarkMore answers true for every three markings, as the whole program has it: Compare orders right markings, and what is Within another one is not more. No condition; what the card lists of the library's variables is tied to the program's text. -/
import Derived.Test.YtnjpblmplneojaaGreatDoorMbN
import Derived.Test.YtnjpblmplneojaaGreatDoorCards
import Derived.Test.YtnjpblmplneojaaGreatDoorTie
import Derived.LaidMore
import Derived.Stop.Joined
import Derived.SevenTiedAt
namespace Go.Proofs.YtnjpblmplneojaaGreatDoor.markMore
open Go.ChangeShapes Go.WideShapes Go.ChangeAt Go.ChangeMaps Go.RowKit Go.Proofs.YtnjpblmplneojaaGreatDoor.Frame Go.Proofs.YtnjpblmplneojaaGreatDoor.Mark
set_option linter.unusedVariables false
set_option linter.unusedSimpArgs false

/-- the three markings, by number -/
structure Mg where
  a : Option Addr
  l : Nat
  c : Nat
  gs : List Bg
def pick3 (x y z : Mg) (i : Nat) : Mg := if i = 0 then x else if i = 1 then y else z
def Good (m : Mg) : Prop := fewB m.gs = true ∧ RightM (mkOf m.gs)
theorem right_all {gs : List Bg} (h : ∀ k, k < gs.length → Bag.rightB (gs.getD k nilBg).rows = true) : RightM (mkOf gs) := fun x hx => by
  obtain ⟨i, hi, rfl⟩ := List.getElem_of_mem hx
  rw [← at_get hi, mkOf_at gs (by rw [mkOf_len] at hi; exact hi)]
  exact Bag.rightB_iff.1 (h i (by rw [mkOf_len] at hi; exact hi))

set_option maxRecDepth 100000 in
set_option maxHeartbeats 8000000 in
theorem walk (a : Option Addr) (la ca : Nat) (xs : List Bg) (b : Option Addr) (lb cb : Nat) (ys : List Bg) (c : Option Addr) (lc cc : Nat) (zs : List Bg) (w : World) (ha : Mks w a la xs) (hb : Mks w b lb ys) (hc : Mks w c lc zs) :
    Calls Tryz.prog 6 #[.slice a la ca, .slice b lb cb, .slice c lc cc] w fun e w' => e = .returned (.bool true) ∧ Below w.heap.size w w' := by
  have HA : Hid (Mks w a la xs) := ha
  have HB : Hid (Mks w b lb ys) := hb
  have HC : Hid (Mks w c lc zs) := hc
  have MS : Hid (∀ i, i < 3 → Mks w (pick3 ⟨a, la, ca, xs⟩ ⟨b, lb, cb, ys⟩ ⟨c, lc, cc, zs⟩ i).a (pick3 ⟨a, la, ca, xs⟩ ⟨b, lb, cb, ys⟩ ⟨c, lc, cc, zs⟩ i).l (pick3 ⟨a, la, ca, xs⟩ ⟨b, lb, cb, ys⟩ ⟨c, lc, cc, zs⟩ i).gs) := fun i hi => by
    match i, hi with
    | 0, _ => exact ha
    | 1, _ => exact hb
    | 2, _ => exact hc
  clear ha hb hc
  go_enter Tryz.func6, Tryz.ntmps6
  go_wp2_with fail
  refine (small_any w).mono ?_
  rintro e w1 ⟨he, hb1⟩
  subst he
  have B1 : Hid (Below w.heap.size w w1) := hb1
  clear hb1
  go_wp2_with fail
  have F : ∀ W, W = w1.alloc (.cells #[.slice a la ca, .slice b lb cb, .slice c lc cc] 23) → (∀ i, i < 3 → W.cell? ⟨w1.heap.size, i, none⟩ = some (.slice (pick3 ⟨a, la, ca, xs⟩ ⟨b, lb, cb, ys⟩ ⟨c, lc, cc, zs⟩ i).a (pick3 ⟨a, la, ca, xs⟩ ⟨b, lb, cb, ys⟩ ⟨c, lc, cc, zs⟩ i).l (pick3 ⟨a, la, ca, xs⟩ ⟨b, lb, cb, ys⟩ ⟨c, lc, cc, zs⟩ i).c)) ∧ Below w1.heap.size w1 W := fun W e => by
    subst e
    refine ⟨fun i hi => ?_, (Below.refl _ _).alloc (Nat.le_refl _) _⟩
    match i, hi with
    | 0, _ => simp [pick3]
    | 1, _ => simp [pick3]
    | 2, _ => simp [pick3]
  generalize hW : w1.alloc (.cells #[.slice a la ca, .slice b lb cb, .slice c lc cc] 23) = w2
  obtain ⟨hcells, hb2⟩ := F w2 hW.symm
  have B2 : Hid (Below w.heap.size w w2) := then_ B1.out hb2
  have CE : Hid (∀ i, i < 3 → w2.cell? ⟨w1.heap.size, i, none⟩ = some (.slice (pick3 ⟨a, la, ca, xs⟩ ⟨b, lb, cb, ys⟩ ⟨c, lc, cc, zs⟩ i).a (pick3 ⟨a, la, ca, xs⟩ ⟨b, lb, cb, ys⟩ ⟨c, lc, cc, zs⟩ i).l (pick3 ⟨a, la, ca, xs⟩ ⟨b, lb, cb, ys⟩ ⟨c, lc, cc, zs⟩ i).c)) := hcells
  clear F hW hcells hb2 B1
  generalize w1.heap.size = q at *
  go_loopw [9] (fun i wr => ∃ k : Nat, k ≤ 3 ∧ i = .int .i64 k ∧ Hid (∀ j, j < k → Good (pick3 ⟨a, la, ca, xs⟩ ⟨b, lb, cb, ys⟩ ⟨c, lc, cc, zs⟩ j)) ∧ Hid (Below w.heap.size w wr ∧ Below w2.heap.size w2 wr)) (fun i _ => 3 - (intOf i).toNat)
  case atStart => exact ⟨0, by omega, rfl, (fun j h => by omega), B2.out, Below.refl _ _⟩
  case round =>
    obtain ⟨k, hk, rfl, hgood, hbb⟩ := hrel
    clear B2
    by_cases hk3 : k < 3
    · have hk3' : (k : Int) < 3 := by omega
      have ck : wr.cell? ⟨q, k, none⟩ = some (.slice (pick3 ⟨a, la, ca, xs⟩ ⟨b, lb, cb, ys⟩ ⟨c, lc, cc, zs⟩ k).a (pick3 ⟨a, la, ca, xs⟩ ⟨b, lb, cb, ys⟩ ⟨c, lc, cc, zs⟩ k).l (pick3 ⟨a, la, ca, xs⟩ ⟨b, lb, cb, ys⟩ ⟨c, lc, cc, zs⟩ k).c) := rowB_call (CE.out k hk3) hbb.out.2
      have MK := MS.out k hk3
      have HG : Hid (Good (pick3 ⟨a, la, ca, xs⟩ ⟨b, lb, cb, ys⟩ ⟨c, lc, cc, zs⟩ k) → ∀ j, j < k + 1 → Good (pick3 ⟨a, la, ca, xs⟩ ⟨b, lb, cb, ys⟩ ⟨c, lc, cc, zs⟩ j)) := fun h j hj => by
        rcases Nat.lt_or_ge j k with g | g
        · exact hgood.out j g
        · obtain rfl : j = k := by omega
          exact h
      generalize pick3 ⟨a, la, ca, xs⟩ ⟨b, lb, cb, ys⟩ ⟨c, lc, cc, zs⟩ k = m at *
      obtain ⟨ma, ml, mc, mg⟩ := m
      simp only at ck MK
      have MH : Hid (Mks w ma ml mg) := MK
      have CQ : Hid (wr.cell? ⟨q, k, none⟩ = some (.slice ma ml mc)) := ck
      have hql : q < wr.heap.size := World.block_lt_of_cell? wr _ ck
      clear MK
      go_wp2_with fail
      refine (few_any ma ml mc mg wr (MH.out.below hbb.out.1)).mono ?_
      rintro e w3 ⟨he, hb3⟩
      subst he
      have B3 : Hid (Below w.heap.size w w3 ∧ Below w2.heap.size w2 w3) := ⟨then_ hbb.out.1 hb3, then_ hbb.out.2 hb3⟩
      have C3 : Hid (w3.cell? ⟨q, k, none⟩ = some (.slice ma ml mc)) := rowB_call CQ.out hb3
      clear hb3 hbb ck CQ hql
      cases hf : fewB mg with
      | false =>
        clear hf
        go_wp2
        go_ret
        exact ⟨rfl, B3.out.1⟩
      | true =>
      have FW : Hid (fewB mg = true) := hf
      have SG : Hid (Sm mg) := few_sm hf
      have LG : Hid (mg.length = ml) := MH.out.1
      have hml : ml ≤ 70 := by have := few_len hf; rw [LG.out] at this; exact this
      clear hf
      go_wp2
      go_loopw [11] (fun i ws => ∃ j : Nat, j ≤ ml ∧ i = .int .i64 j ∧ Hid (∀ t, t < j → Bag.rightB (mg.getD t nilBg).rows = true) ∧ Hid ((Below w.heap.size w ws ∧ Below w2.heap.size w2 ws) ∧ ws.cell? ⟨q, k, none⟩ = some (.slice ma ml mc))) (fun i _ => ml - (intOf i).toNat)
      case atStart => exact ⟨0, by omega, rfl, (fun t h => by omega), B3.out, C3.out⟩
      case round =>
        obtain ⟨j, hj, rfl, hrt, hB⟩ := hrel
        have ck := hB.out.2
        have hql : q < wr.heap.size := World.block_lt_of_cell? wr _ ck
        clear B3 C3
        by_cases hjl : j < ml
        · have hjl' : (j : Int) < ml := by omega
          obtain ⟨ba, oa, hae, hal, ac, aok⟩ := (MH.out.below hB.out.1.1).row (k := j) hjl
          have lx := SG.out.at (k := j) (by rw [LG.out]; exact hjl)
          have RT : Hid (Bag.rightB (mg.getD j nilBg).rows = true → ∀ t, t < j + 1 → Bag.rightB (mg.getD t nilBg).rows = true) := fun h t ht => by
            rcases Nat.lt_or_ge t j with g | g
            · exact hrt.out t g
            · obtain rfl : t = j := by omega
              exact h
          subst hae
          generalize mg.getD j nilBg = gx at *
          have KX : Hid (Bag.Bags wr gx.a gx.rows.length gx.rows) := aok.1
          clear aok
          go_wp2_with fail
          refine (Bag.right_any _ _ _ gx.rows _ KX.out (by omega)).mono ?_
          rintro e w4 ⟨he, hb4⟩
          subst he
          have B4 : Hid ((Below w.heap.size w w4 ∧ Below w2.heap.size w2 w4) ∧ w4.cell? ⟨q, k, none⟩ = some (.slice (some ⟨ba, oa, none⟩) ml mc)) := ⟨⟨then_ hB.out.1.1 hb4, then_ hB.out.1.2 hb4⟩, rowB_call hB.out.2 hb4⟩
          clear hb4 hB ck ac hql
          cases hs : Bag.rightB gx.rows with
          | false =>
            clear hs RT
            go_wp2
            go_ret
            exact ⟨rfl, B4.out.1.1⟩
          | true =>
            have R2 : Hid (∀ t, t < j + 1 → Bag.rightB (mg.getD t nilBg).rows = true) := RT.out hs
            clear hs RT
            go_wp2
            go_roundw
            case rel => exact ⟨j + 1, by omega, by go_num, R2, B4.out⟩
            case measure => simp [intOf]; omega
        · have G2 : Hid (∀ j, j < k + 1 → Good (pick3 ⟨a, la, ca, xs⟩ ⟨b, lb, cb, ys⟩ ⟨c, lc, cc, zs⟩ j)) := HG.out ⟨FW.out, right_all fun t ht => hrt.out t (by rw [LG.out] at ht; omega)⟩
          have hjl2 : ¬ (j : Int) < ml := by omega
          go_wp2
          go_roundw
          case rel => exact ⟨k + 1, by omega, by go_num, G2, hB.out.1⟩
          case measure => simp [intOf]; omega
    · obtain rfl : k = 3 := by omega
      have GA : Good ⟨a, la, ca, xs⟩ := hgood.out 0 (by omega)
      have GB : Good ⟨b, lb, cb, ys⟩ := hgood.out 1 (by omega)
      have GC : Good ⟨c, lc, cc, zs⟩ := hgood.out 2 (by omega)
      have SX : Hid (Sm xs) := few_sm GA.1
      have SY : Hid (Sm ys) := few_sm GB.1
      have SZ : Hid (Sm zs) := few_sm GC.1
      have RA : Hid (RightM (mkOf xs)) := GA.2
      have RB : Hid (RightM (mkOf ys)) := GB.2
      have RC : Hid (RightM (mkOf zs)) := GC.2
      have B0 : Hid (Below w.heap.size w wr) := hbb.out.1
      clear GA GB GC hgood hbb CE MS
      have TU : Hid (compareM (mkOf ys) (mkOf xs) = -compareM (mkOf xs) (mkOf ys)) := by have := compareM_turn RA.out RB.out; show _ = _; omega
      have SMD : Hid (sameM (mkOf xs) (mkOf ys) = decide (compareM (mkOf xs) (mkOf ys) = 0)) := (compareM_same RA.out RB.out).symm
      have LE : Hid (withinM (mkOf xs) (mkOf ys) = true → compareM (mkOf xs) (mkOf ys) ≤ 0) := withinM_le
      have TRW : Hid (withinM (mkOf xs) (mkOf ys) = true → withinM (mkOf ys) (mkOf zs) = true → withinM (mkOf xs) (mkOf zs) = true) := withinM_trans
      have TRC : Hid (compareM (mkOf xs) (mkOf ys) < 0 → compareM (mkOf ys) (mkOf zs) < 0 → compareM (mkOf xs) (mkOf zs) < 0) := compareM_trans RA.out RB.out RC.out
      have T3 : Hid (compareM (mkOf ys) (mkOf zs) = 1 ∨ compareM (mkOf ys) (mkOf zs) = -1 ∨ compareM (mkOf ys) (mkOf zs) = 0) := compareM_three RB.out RC.out
      have T4 : Hid (compareM (mkOf xs) (mkOf zs) = 1 ∨ compareM (mkOf xs) (mkOf zs) = -1 ∨ compareM (mkOf xs) (mkOf zs) = 0) := compareM_three RA.out RC.out
      have T1 := compareM_three RA.out RB.out
      clear RA RB RC
      rcases T1 with v1 | v1 | v1
      · have V1 : Hid (compareM (mkOf xs) (mkOf ys) = 1) := v1
        have V2 : Hid (compareM (mkOf ys) (mkOf xs) = -1) := by rw [TU.out, v1]; exact (rfl : _ = (-1 : Int))
        have SM : Hid (sameM (mkOf xs) (mkOf ys) = false) := by rw [SMD.out, v1]; exact (rfl : _ = false)
        clear TU SMD
        have TT : Hid (withinM (mkOf xs) (mkOf ys) = false) := by
          cases h : withinM (mkOf xs) (mkOf ys) with
          | false => exact (rfl : false = false)
          | true => have := LE.out h; omega
        clear LE TRW TRC T3 T4 v1
        go_wp2_with fail
        refine (compare_m a b la ca lb cb xs ys wr (HA.out.below B0.out) (HB.out.below B0.out) SX.out SY.out).mono ?_
        rintro e w1 ⟨he, hb⟩
        subst he
        rw [V1.out]
        have B1 : Hid (Below w.heap.size w w1) := then_ B0.out hb
        clear hb B0
        go_wp2_with fail
        refine (compare_m b a lb cb la ca ys xs w1 (HB.out.below B1.out) (HA.out.below B1.out) SY.out SX.out).mono ?_
        rintro e w2 ⟨he, hb⟩
        subst he
        rw [V2.out]
        have B2 : Hid (Below w.heap.size w w2) := then_ B1.out hb
        clear hb B1
        go_wp2_with fail
        refine (same_m a b la ca lb cb xs ys w2 (HA.out.below B2.out) (HB.out.below B2.out) SX.out SY.out).mono ?_
        rintro e w3 ⟨he, hb⟩
        subst he
        rw [SM.out]
        have B3 : Hid (Below w.heap.size w w3) := then_ B2.out hb
        clear hb B2
        go_wp2_with fail
        refine (within_m a b la ca lb cb xs ys w3 (HA.out.below B3.out) (HB.out.below B3.out) SX.out SY.out).mono ?_
        rintro e w4 ⟨he, hb⟩
        subst he
        rw [TT.out]
        have B4 : Hid (Below w.heap.size w w4) := then_ B3.out hb
        clear hb B3
        go_wp2_with fail
        refine (within_m a b la ca lb cb xs ys w4 (HA.out.below B4.out) (HB.out.below B4.out) SX.out SY.out).mono ?_
        rintro e w5 ⟨he, hb⟩
        subst he
        rw [TT.out]
        have B5 : Hid (Below w.heap.size w w5) := then_ B4.out hb
        clear hb B4
        go_wp2
        go_ret
        exact ⟨rfl, B5.out⟩
      · have V1 : Hid (compareM (mkOf xs) (mkOf ys) = -1) := v1
        have V2 : Hid (compareM (mkOf ys) (mkOf xs) = 1) := by rw [TU.out, v1]; exact (rfl : _ = (1 : Int))
        have SM : Hid (sameM (mkOf xs) (mkOf ys) = false) := by rw [SMD.out, v1]; exact (rfl : _ = false)
        clear TU SMD
        rcases T3.out with v3 | v3 | v3
        · have V3 : Hid (compareM (mkOf ys) (mkOf zs) = 1) := v3
          clear TRC T3 T4 v3
          cases ht : withinM (mkOf xs) (mkOf ys) with
          | false =>
            have TT : Hid (withinM (mkOf xs) (mkOf ys) = false) := ht
            clear ht LE TRW v1
            go_wp2_with fail
            refine (compare_m a b la ca lb cb xs ys wr (HA.out.below B0.out) (HB.out.below B0.out) SX.out SY.out).mono ?_
            rintro e w1 ⟨he, hb⟩
            subst he
            rw [V1.out]
            have B1 : Hid (Below w.heap.size w w1) := then_ B0.out hb
            clear hb B0
            go_wp2_with fail
            refine (compare_m b a lb cb la ca ys xs w1 (HB.out.below B1.out) (HA.out.below B1.out) SY.out SX.out).mono ?_
            rintro e w2 ⟨he, hb⟩
            subst he
            rw [V2.out]
            have B2 : Hid (Below w.heap.size w w2) := then_ B1.out hb
            clear hb B1
            go_wp2_with fail
            refine (same_m a b la ca lb cb xs ys w2 (HA.out.below B2.out) (HB.out.below B2.out) SX.out SY.out).mono ?_
            rintro e w3 ⟨he, hb⟩
            subst he
            rw [SM.out]
            have B3 : Hid (Below w.heap.size w w3) := then_ B2.out hb
            clear hb B2
            go_wp2_with fail
            refine (compare_m b c lb cb lc cc ys zs w3 (HB.out.below B3.out) (HC.out.below B3.out) SY.out SZ.out).mono ?_
            rintro e w4 ⟨he, hb⟩
            subst he
            rw [V3.out]
            have B4 : Hid (Below w.heap.size w w4) := then_ B3.out hb
            clear hb B3
            go_wp2_with fail
            refine (within_m a b la ca lb cb xs ys w4 (HA.out.below B4.out) (HB.out.below B4.out) SX.out SY.out).mono ?_
            rintro e w5 ⟨he, hb⟩
            subst he
            rw [TT.out]
            have B5 : Hid (Below w.heap.size w w5) := then_ B4.out hb
            clear hb B4
            go_wp2_with fail
            refine (within_m a b la ca lb cb xs ys w5 (HA.out.below B5.out) (HB.out.below B5.out) SX.out SY.out).mono ?_
            rintro e w6 ⟨he, hb⟩
            subst he
            rw [TT.out]
            have B6 : Hid (Below w.heap.size w w6) := then_ B5.out hb
            clear hb B5
            go_wp2
            go_ret
            exact ⟨rfl, B6.out⟩
          | true =>
            have TT : Hid (withinM (mkOf xs) (mkOf ys) = true) := ht
            cases hu : withinM (mkOf ys) (mkOf zs) with
            | false =>
              have UU : Hid (withinM (mkOf ys) (mkOf zs) = false) := hu
              clear ht hu LE TRW v1
              go_wp2_with fail
              refine (compare_m a b la ca lb cb xs ys wr (HA.out.below B0.out) (HB.out.below B0.out) SX.out SY.out).mono ?_
              rintro e w1 ⟨he, hb⟩
              subst he
              rw [V1.out]
              have B1 : Hid (Below w.heap.size w w1) := then_ B0.out hb
              clear hb B0
              go_wp2_with fail
              refine (compare_m b a lb cb la ca ys xs w1 (HB.out.below B1.out) (HA.out.below B1.out) SY.out SX.out).mono ?_
              rintro e w2 ⟨he, hb⟩
              subst he
              rw [V2.out]
              have B2 : Hid (Below w.heap.size w w2) := then_ B1.out hb
              clear hb B1
              go_wp2_with fail
              refine (same_m a b la ca lb cb xs ys w2 (HA.out.below B2.out) (HB.out.below B2.out) SX.out SY.out).mono ?_
              rintro e w3 ⟨he, hb⟩
              subst he
              rw [SM.out]
              have B3 : Hid (Below w.heap.size w w3) := then_ B2.out hb
              clear hb B2
              go_wp2_with fail
              refine (compare_m b c lb cb lc cc ys zs w3 (HB.out.below B3.out) (HC.out.below B3.out) SY.out SZ.out).mono ?_
              rintro e w4 ⟨he, hb⟩
              subst he
              rw [V3.out]
              have B4 : Hid (Below w.heap.size w w4) := then_ B3.out hb
              clear hb B3
              go_wp2_with fail
              refine (within_m a b la ca lb cb xs ys w4 (HA.out.below B4.out) (HB.out.below B4.out) SX.out SY.out).mono ?_
              rintro e w5 ⟨he, hb⟩
              subst he
              rw [TT.out]
              have B5 : Hid (Below w.heap.size w w5) := then_ B4.out hb
              clear hb B4
              go_wp2_with fail
              refine (within_m a b la ca lb cb xs ys w5 (HA.out.below B5.out) (HB.out.below B5.out) SX.out SY.out).mono ?_
              rintro e w6 ⟨he, hb⟩
              subst he
              rw [TT.out]
              have B6 : Hid (Below w.heap.size w w6) := then_ B5.out hb
              clear hb B5
              go_wp2_with fail
              refine (within_m b c lb cb lc cc ys zs w6 (HB.out.below B6.out) (HC.out.below B6.out) SY.out SZ.out).mono ?_
              rintro e w7 ⟨he, hb⟩
              subst he
              rw [UU.out]
              have B7 : Hid (Below w.heap.size w w7) := then_ B6.out hb
              clear hb B6
              go_wp2
              go_ret
              exact ⟨rfl, B7.out⟩
            | true =>
              have UU : Hid (withinM (mkOf ys) (mkOf zs) = true) := hu
              have WW : Hid (withinM (mkOf xs) (mkOf zs) = true) := TRW.out ht hu
              clear ht hu LE TRW v1
              go_wp2_with fail
              refine (compare_m a b la ca lb cb xs ys wr (HA.out.below B0.out) (HB.out.below B0.out) SX.out SY.out).mono ?_
              rintro e w1 ⟨he, hb⟩
              subst he
              rw [V1.out]
              have B1 : Hid (Below w.heap.size w w1) := then_ B0.out hb
              clear hb B0
              go_wp2_with fail
              refine (compare_m b a lb cb la ca ys xs w1 (HB.out.below B1.out) (HA.out.below B1.out) SY.out SX.out).mono ?_
              rintro e w2 ⟨he, hb⟩
              subst he
              rw [V2.out]
              have B2 : Hid (Below w.heap.size w w2) := then_ B1.out hb
              clear hb B1
              go_wp2_with fail
              refine (same_m a b la ca lb cb xs ys w2 (HA.out.below B2.out) (HB.out.below B2.out) SX.out SY.out).mono ?_
              rintro e w3 ⟨he, hb⟩
              subst he
              rw [SM.out]
              have B3 : Hid (Below w.heap.size w w3) := then_ B2.out hb
              clear hb B2
              go_wp2_with fail
              refine (compare_m b c lb cb lc cc ys zs w3 (HB.out.below B3.out) (HC.out.below B3.out) SY.out SZ.out).mono ?_
              rintro e w4 ⟨he, hb⟩
              subst he
              rw [V3.out]
              have B4 : Hid (Below w.heap.size w w4) := then_ B3.out hb
              clear hb B3
              go_wp2_with fail
              refine (within_m a b la ca lb cb xs ys w4 (HA.out.below B4.out) (HB.out.below B4.out) SX.out SY.out).mono ?_
              rintro e w5 ⟨he, hb⟩
              subst he
              rw [TT.out]
              have B5 : Hid (Below w.heap.size w w5) := then_ B4.out hb
              clear hb B4
              go_wp2_with fail
              refine (within_m a b la ca lb cb xs ys w5 (HA.out.below B5.out) (HB.out.below B5.out) SX.out SY.out).mono ?_
              rintro e w6 ⟨he, hb⟩
              subst he
              rw [TT.out]
              have B6 : Hid (Below w.heap.size w w6) := then_ B5.out hb
              clear hb B5
              go_wp2_with fail
              refine (within_m b c lb cb lc cc ys zs w6 (HB.out.below B6.out) (HC.out.below B6.out) SY.out SZ.out).mono ?_
              rintro e w7 ⟨he, hb⟩
              subst he
              rw [UU.out]
              have B7 : Hid (Below w.heap.size w w7) := then_ B6.out hb
              clear hb B6
              go_wp2_with fail
              refine (within_m a c la ca lc cc xs zs w7 (HA.out.below B7.out) (HC.out.below B7.out) SX.out SZ.out).mono ?_
              rintro e w8 ⟨he, hb⟩
              subst he
              rw [WW.out]
              have B8 : Hid (Below w.heap.size w w8) := then_ B7.out hb
              clear hb B7
              go_wp2
              go_ret
              exact ⟨rfl, B8.out⟩
        · have V3 : Hid (compareM (mkOf ys) (mkOf zs) = -1) := v3
          have V4 : Hid (compareM (mkOf xs) (mkOf zs) = -1) := by
            have h4 := TRC.out (by rw [v1]; decide) (by rw [v3]; decide)
            rcases T4.out with g | g | g
            · omega
            · exact g
            · omega
          clear TRC T3 T4 v3
          cases ht : withinM (mkOf xs) (mkOf ys) with
          | false =>
            have TT : Hid (withinM (mkOf xs) (mkOf ys) = false) := ht
            clear ht LE TRW v1
            go_wp2_with fail
            refine (compare_m a b la ca lb cb xs ys wr (HA.out.below B0.out) (HB.out.below B0.out) SX.out SY.out).mono ?_
            rintro e w1 ⟨he, hb⟩
            subst he
            rw [V1.out]
            have B1 : Hid (Below w.heap.size w w1) := then_ B0.out hb
            clear hb B0
            go_wp2_with fail
            refine (compare_m b a lb cb la ca ys xs w1 (HB.out.below B1.out) (HA.out.below B1.out) SY.out SX.out).mono ?_
            rintro e w2 ⟨he, hb⟩
            subst he
            rw [V2.out]
            have B2 : Hid (Below w.heap.size w w2) := then_ B1.out hb
            clear hb B1
            go_wp2_with fail
            refine (same_m a b la ca lb cb xs ys w2 (HA.out.below B2.out) (HB.out.below B2.out) SX.out SY.out).mono ?_
            rintro e w3 ⟨he, hb⟩
            subst he
            rw [SM.out]
            have B3 : Hid (Below w.heap.size w w3) := then_ B2.out hb
            clear hb B2
            go_wp2_with fail
            refine (compare_m b c lb cb lc cc ys zs w3 (HB.out.below B3.out) (HC.out.below B3.out) SY.out SZ.out).mono ?_
            rintro e w4 ⟨he, hb⟩
            subst he
            rw [V3.out]
            have B4 : Hid (Below w.heap.size w w4) := then_ B3.out hb
            clear hb B3
            go_wp2_with fail
            refine (compare_m a c la ca lc cc xs zs w4 (HA.out.below B4.out) (HC.out.below B4.out) SX.out SZ.out).mono ?_
            rintro e w5 ⟨he, hb⟩
            subst he
            rw [V4.out]
            have B5 : Hid (Below w.heap.size w w5) := then_ B4.out hb
            clear hb B4
            go_wp2_with fail
            refine (within_m a b la ca lb cb xs ys w5 (HA.out.below B5.out) (HB.out.below B5.out) SX.out SY.out).mono ?_
            rintro e w6 ⟨he, hb⟩
            subst he
            rw [TT.out]
            have B6 : Hid (Below w.heap.size w w6) := then_ B5.out hb
            clear hb B5
            go_wp2_with fail
            refine (within_m a b la ca lb cb xs ys w6 (HA.out.below B6.out) (HB.out.below B6.out) SX.out SY.out).mono ?_
            rintro e w7 ⟨he, hb⟩
            subst he
            rw [TT.out]
            have B7 : Hid (Below w.heap.size w w7) := then_ B6.out hb
            clear hb B6
            go_wp2
            go_ret
            exact ⟨rfl, B7.out⟩
          | true =>
            have TT : Hid (withinM (mkOf xs) (mkOf ys) = true) := ht
            cases hu : withinM (mkOf ys) (mkOf zs) with
            | false =>
              have UU : Hid (withinM (mkOf ys) (mkOf zs) = false) := hu
              clear ht hu LE TRW v1
              go_wp2_with fail
              refine (compare_m a b la ca lb cb xs ys wr (HA.out.below B0.out) (HB.out.below B0.out) SX.out SY.out).mono ?_
              rintro e w1 ⟨he, hb⟩
              subst he
              rw [V1.out]
              have B1 : Hid (Below w.heap.size w w1) := then_ B0.out hb
              clear hb B0
              go_wp2_with fail
              refine (compare_m b a lb cb la ca ys xs w1 (HB.out.below B1.out) (HA.out.below B1.out) SY.out SX.out).mono ?_
              rintro e w2 ⟨he, hb⟩
              subst he
              rw [V2.out]
              have B2 : Hid (Below w.heap.size w w2) := then_ B1.out hb
              clear hb B1
              go_wp2_with fail
              refine (same_m a b la ca lb cb xs ys w2 (HA.out.below B2.out) (HB.out.below B2.out) SX.out SY.out).mono ?_
              rintro e w3 ⟨he, hb⟩
              subst he
              rw [SM.out]
              have B3 : Hid (Below w.heap.size w w3) := then_ B2.out hb
              clear hb B2
              go_wp2_with fail
              refine (compare_m b c lb cb lc cc ys zs w3 (HB.out.below B3.out) (HC.out.below B3.out) SY.out SZ.out).mono ?_
              rintro e w4 ⟨he, hb⟩
              subst he
              rw [V3.out]
              have B4 : Hid (Below w.heap.size w w4) := then_ B3.out hb
              clear hb B3
              go_wp2_with fail
              refine (compare_m a c la ca lc cc xs zs w4 (HA.out.below B4.out) (HC.out.below B4.out) SX.out SZ.out).mono ?_
              rintro e w5 ⟨he, hb⟩
              subst he
              rw [V4.out]
              have B5 : Hid (Below w.heap.size w w5) := then_ B4.out hb
              clear hb B4
              go_wp2_with fail
              refine (within_m a b la ca lb cb xs ys w5 (HA.out.below B5.out) (HB.out.below B5.out) SX.out SY.out).mono ?_
              rintro e w6 ⟨he, hb⟩
              subst he
              rw [TT.out]
              have B6 : Hid (Below w.heap.size w w6) := then_ B5.out hb
              clear hb B5
              go_wp2_with fail
              refine (within_m a b la ca lb cb xs ys w6 (HA.out.below B6.out) (HB.out.below B6.out) SX.out SY.out).mono ?_
              rintro e w7 ⟨he, hb⟩
              subst he
              rw [TT.out]
              have B7 : Hid (Below w.heap.size w w7) := then_ B6.out hb
              clear hb B6
              go_wp2_with fail
              refine (within_m b c lb cb lc cc ys zs w7 (HB.out.below B7.out) (HC.out.below B7.out) SY.out SZ.out).mono ?_
              rintro e w8 ⟨he, hb⟩
              subst he
              rw [UU.out]
              have B8 : Hid (Below w.heap.size w w8) := then_ B7.out hb
              clear hb B7
              go_wp2
              go_ret
              exact ⟨rfl, B8.out⟩
            | true =>
              have UU : Hid (withinM (mkOf ys) (mkOf zs) = true) := hu
              have WW : Hid (withinM (mkOf xs) (mkOf zs) = true) := TRW.out ht hu
              clear ht hu LE TRW v1
              go_wp2_with fail
              refine (compare_m a b la ca lb cb xs ys wr (HA.out.below B0.out) (HB.out.below B0.out) SX.out SY.out).mono ?_
              rintro e w1 ⟨he, hb⟩
              subst he
              rw [V1.out]
              have B1 : Hid (Below w.heap.size w w1) := then_ B0.out hb
              clear hb B0
              go_wp2_with fail
              refine (compare_m b a lb cb la ca ys xs w1 (HB.out.below B1.out) (HA.out.below B1.out) SY.out SX.out).mono ?_
              rintro e w2 ⟨he, hb⟩
              subst he
              rw [V2.out]
              have B2 : Hid (Below w.heap.size w w2) := then_ B1.out hb
              clear hb B1
              go_wp2_with fail
              refine (same_m a b la ca lb cb xs ys w2 (HA.out.below B2.out) (HB.out.below B2.out) SX.out SY.out).mono ?_
              rintro e w3 ⟨he, hb⟩
              subst he
              rw [SM.out]
              have B3 : Hid (Below w.heap.size w w3) := then_ B2.out hb
              clear hb B2
              go_wp2_with fail
              refine (compare_m b c lb cb lc cc ys zs w3 (HB.out.below B3.out) (HC.out.below B3.out) SY.out SZ.out).mono ?_
              rintro e w4 ⟨he, hb⟩
              subst he
              rw [V3.out]
              have B4 : Hid (Below w.heap.size w w4) := then_ B3.out hb
              clear hb B3
              go_wp2_with fail
              refine (compare_m a c la ca lc cc xs zs w4 (HA.out.below B4.out) (HC.out.below B4.out) SX.out SZ.out).mono ?_
              rintro e w5 ⟨he, hb⟩
              subst he
              rw [V4.out]
              have B5 : Hid (Below w.heap.size w w5) := then_ B4.out hb
              clear hb B4
              go_wp2_with fail
              refine (within_m a b la ca lb cb xs ys w5 (HA.out.below B5.out) (HB.out.below B5.out) SX.out SY.out).mono ?_
              rintro e w6 ⟨he, hb⟩
              subst he
              rw [TT.out]
              have B6 : Hid (Below w.heap.size w w6) := then_ B5.out hb
              clear hb B5
              go_wp2_with fail
              refine (within_m a b la ca lb cb xs ys w6 (HA.out.below B6.out) (HB.out.below B6.out) SX.out SY.out).mono ?_
              rintro e w7 ⟨he, hb⟩
              subst he
              rw [TT.out]
              have B7 : Hid (Below w.heap.size w w7) := then_ B6.out hb
              clear hb B6
              go_wp2_with fail
              refine (within_m b c lb cb lc cc ys zs w7 (HB.out.below B7.out) (HC.out.below B7.out) SY.out SZ.out).mono ?_
              rintro e w8 ⟨he, hb⟩
              subst he
              rw [UU.out]
              have B8 : Hid (Below w.heap.size w w8) := then_ B7.out hb
              clear hb B7
              go_wp2_with fail
              refine (within_m a c la ca lc cc xs zs w8 (HA.out.below B8.out) (HC.out.below B8.out) SX.out SZ.out).mono ?_
              rintro e w9 ⟨he, hb⟩
              subst he
              rw [WW.out]
              have B9 : Hid (Below w.heap.size w w9) := then_ B8.out hb
              clear hb B8
              go_wp2
              go_ret
              exact ⟨rfl, B9.out⟩
        · have V3 : Hid (compareM (mkOf ys) (mkOf zs) = 0) := v3
          clear TRC T3 T4 v3
          cases ht : withinM (mkOf xs) (mkOf ys) with
          | false =>
            have TT : Hid (withinM (mkOf xs) (mkOf ys) = false) := ht
            clear ht LE TRW v1
            go_wp2_with fail
            refine (compare_m a b la ca lb cb xs ys wr (HA.out.below B0.out) (HB.out.below B0.out) SX.out SY.out).mono ?_
            rintro e w1 ⟨he, hb⟩
            subst he
            rw [V1.out]
            have B1 : Hid (Below w.heap.size w w1) := then_ B0.out hb
            clear hb B0
            go_wp2_with fail
            refine (compare_m b a lb cb la ca ys xs w1 (HB.out.below B1.out) (HA.out.below B1.out) SY.out SX.out).mono ?_
            rintro e w2 ⟨he, hb⟩
            subst he
            rw [V2.out]
            have B2 : Hid (Below w.heap.size w w2) := then_ B1.out hb
            clear hb B1
            go_wp2_with fail
            refine (same_m a b la ca lb cb xs ys w2 (HA.out.below B2.out) (HB.out.below B2.out) SX.out SY.out).mono ?_
            rintro e w3 ⟨he, hb⟩
            subst he
            rw [SM.out]
            have B3 : Hid (Below w.heap.size w w3) := then_ B2.out hb
            clear hb B2
            go_wp2_with fail
            refine (compare_m b c lb cb lc cc ys zs w3 (HB.out.below B3.out) (HC.out.below B3.out) SY.out SZ.out).mono ?_
            rintro e w4 ⟨he, hb⟩
            subst he
            rw [V3.out]
            have B4 : Hid (Below w.heap.size w w4) := then_ B3.out hb
            clear hb B3
            go_wp2_with fail
            refine (within_m a b la ca lb cb xs ys w4 (HA.out.below B4.out) (HB.out.below B4.out) SX.out SY.out).mono ?_
            rintro e w5 ⟨he, hb⟩
            subst he
            rw [TT.out]
            have B5 : Hid (Below w.heap.size w w5) := then_ B4.out hb
            clear hb B4
            go_wp2_with fail
            refine (within_m a b la ca lb cb xs ys w5 (HA.out.below B5.out) (HB.out.below B5.out) SX.out SY.out).mono ?_
            rintro e w6 ⟨he, hb⟩
            subst he
            rw [TT.out]
            have B6 : Hid (Below w.heap.size w w6) := then_ B5.out hb
            clear hb B5
            go_wp2
            go_ret
            exact ⟨rfl, B6.out⟩
          | true =>
            have TT : Hid (withinM (mkOf xs) (mkOf ys) = true) := ht
            cases hu : withinM (mkOf ys) (mkOf zs) with
            | false =>
              have UU : Hid (withinM (mkOf ys) (mkOf zs) = false) := hu
              clear ht hu LE TRW v1
              go_wp2_with fail
              refine (compare_m a b la ca lb cb xs ys wr (HA.out.below B0.out) (HB.out.below B0.out) SX.out SY.out).mono ?_
              rintro e w1 ⟨he, hb⟩
              subst he
              rw [V1.out]
              have B1 : Hid (Below w.heap.size w w1) := then_ B0.out hb
              clear hb B0
              go_wp2_with fail
              refine (compare_m b a lb cb la ca ys xs w1 (HB.out.below B1.out) (HA.out.below B1.out) SY.out SX.out).mono ?_
              rintro e w2 ⟨he, hb⟩
              subst he
              rw [V2.out]
              have B2 : Hid (Below w.heap.size w w2) := then_ B1.out hb
              clear hb B1
              go_wp2_with fail
              refine (same_m a b la ca lb cb xs ys w2 (HA.out.below B2.out) (HB.out.below B2.out) SX.out SY.out).mono ?_
              rintro e w3 ⟨he, hb⟩
              subst he
              rw [SM.out]
              have B3 : Hid (Below w.heap.size w w3) := then_ B2.out hb
              clear hb B2
              go_wp2_with fail
              refine (compare_m b c lb cb lc cc ys zs w3 (HB.out.below B3.out) (HC.out.below B3.out) SY.out SZ.out).mono ?_
              rintro e w4 ⟨he, hb⟩
              subst he
              rw [V3.out]
              have B4 : Hid (Below w.heap.size w w4) := then_ B3.out hb
              clear hb B3
              go_wp2_with fail
              refine (within_m a b la ca lb cb xs ys w4 (HA.out.below B4.out) (HB.out.below B4.out) SX.out SY.out).mono ?_
              rintro e w5 ⟨he, hb⟩
              subst he
              rw [TT.out]
              have B5 : Hid (Below w.heap.size w w5) := then_ B4.out hb
              clear hb B4
              go_wp2_with fail
              refine (within_m a b la ca lb cb xs ys w5 (HA.out.below B5.out) (HB.out.below B5.out) SX.out SY.out).mono ?_
              rintro e w6 ⟨he, hb⟩
              subst he
              rw [TT.out]
              have B6 : Hid (Below w.heap.size w w6) := then_ B5.out hb
              clear hb B5
              go_wp2_with fail
              refine (within_m b c lb cb lc cc ys zs w6 (HB.out.below B6.out) (HC.out.below B6.out) SY.out SZ.out).mono ?_
              rintro e w7 ⟨he, hb⟩
              subst he
              rw [UU.out]
              have B7 : Hid (Below w.heap.size w w7) := then_ B6.out hb
              clear hb B6
              go_wp2
              go_ret
              exact ⟨rfl, B7.out⟩
            | true =>
              have UU : Hid (withinM (mkOf ys) (mkOf zs) = true) := hu
              have WW : Hid (withinM (mkOf xs) (mkOf zs) = true) := TRW.out ht hu
              clear ht hu LE TRW v1
              go_wp2_with fail
              refine (compare_m a b la ca lb cb xs ys wr (HA.out.below B0.out) (HB.out.below B0.out) SX.out SY.out).mono ?_
              rintro e w1 ⟨he, hb⟩
              subst he
              rw [V1.out]
              have B1 : Hid (Below w.heap.size w w1) := then_ B0.out hb
              clear hb B0
              go_wp2_with fail
              refine (compare_m b a lb cb la ca ys xs w1 (HB.out.below B1.out) (HA.out.below B1.out) SY.out SX.out).mono ?_
              rintro e w2 ⟨he, hb⟩
              subst he
              rw [V2.out]
              have B2 : Hid (Below w.heap.size w w2) := then_ B1.out hb
              clear hb B1
              go_wp2_with fail
              refine (same_m a b la ca lb cb xs ys w2 (HA.out.below B2.out) (HB.out.below B2.out) SX.out SY.out).mono ?_
              rintro e w3 ⟨he, hb⟩
              subst he
              rw [SM.out]
              have B3 : Hid (Below w.heap.size w w3) := then_ B2.out hb
              clear hb B2
              go_wp2_with fail
              refine (compare_m b c lb cb lc cc ys zs w3 (HB.out.below B3.out) (HC.out.below B3.out) SY.out SZ.out).mono ?_
              rintro e w4 ⟨he, hb⟩
              subst he
              rw [V3.out]
              have B4 : Hid (Below w.heap.size w w4) := then_ B3.out hb
              clear hb B3
              go_wp2_with fail
              refine (within_m a b la ca lb cb xs ys w4 (HA.out.below B4.out) (HB.out.below B4.out) SX.out SY.out).mono ?_
              rintro e w5 ⟨he, hb⟩
              subst he
              rw [TT.out]
              have B5 : Hid (Below w.heap.size w w5) := then_ B4.out hb
              clear hb B4
              go_wp2_with fail
              refine (within_m a b la ca lb cb xs ys w5 (HA.out.below B5.out) (HB.out.below B5.out) SX.out SY.out).mono ?_
              rintro e w6 ⟨he, hb⟩
              subst he
              rw [TT.out]
              have B6 : Hid (Below w.heap.size w w6) := then_ B5.out hb
              clear hb B5
              go_wp2_with fail
              refine (within_m b c lb cb lc cc ys zs w6 (HB.out.below B6.out) (HC.out.below B6.out) SY.out SZ.out).mono ?_
              rintro e w7 ⟨he, hb⟩
              subst he
              rw [UU.out]
              have B7 : Hid (Below w.heap.size w w7) := then_ B6.out hb
              clear hb B6
              go_wp2_with fail
              refine (within_m a c la ca lc cc xs zs w7 (HA.out.below B7.out) (HC.out.below B7.out) SX.out SZ.out).mono ?_
              rintro e w8 ⟨he, hb⟩
              subst he
              rw [WW.out]
              have B8 : Hid (Below w.heap.size w w8) := then_ B7.out hb
              clear hb B7
              go_wp2
              go_ret
              exact ⟨rfl, B8.out⟩
      · have V1 : Hid (compareM (mkOf xs) (mkOf ys) = 0) := v1
        have V2 : Hid (compareM (mkOf ys) (mkOf xs) = 0) := by rw [TU.out, v1]; exact (rfl : _ = (0 : Int))
        have SM : Hid (sameM (mkOf xs) (mkOf ys) = true) := by rw [SMD.out, v1]; exact (rfl : _ = true)
        clear TU SMD
        clear TRC T3 T4
        cases ht : withinM (mkOf xs) (mkOf ys) with
        | false =>
          have TT : Hid (withinM (mkOf xs) (mkOf ys) = false) := ht
          clear ht LE TRW v1
          go_wp2_with fail
          refine (compare_m a b la ca lb cb xs ys wr (HA.out.below B0.out) (HB.out.below B0.out) SX.out SY.out).mono ?_
          rintro e w1 ⟨he, hb⟩
          subst he
          rw [V1.out]
          have B1 : Hid (Below w.heap.size w w1) := then_ B0.out hb
          clear hb B0
          go_wp2_with fail
          refine (compare_m b a lb cb la ca ys xs w1 (HB.out.below B1.out) (HA.out.below B1.out) SY.out SX.out).mono ?_
          rintro e w2 ⟨he, hb⟩
          subst he
          rw [V2.out]
          have B2 : Hid (Below w.heap.size w w2) := then_ B1.out hb
          clear hb B1
          go_wp2_with fail
          refine (same_m a b la ca lb cb xs ys w2 (HA.out.below B2.out) (HB.out.below B2.out) SX.out SY.out).mono ?_
          rintro e w3 ⟨he, hb⟩
          subst he
          rw [SM.out]
          have B3 : Hid (Below w.heap.size w w3) := then_ B2.out hb
          clear hb B2
          go_wp2_with fail
          refine (within_m a b la ca lb cb xs ys w3 (HA.out.below B3.out) (HB.out.below B3.out) SX.out SY.out).mono ?_
          rintro e w4 ⟨he, hb⟩
          subst he
          rw [TT.out]
          have B4 : Hid (Below w.heap.size w w4) := then_ B3.out hb
          clear hb B3
          go_wp2_with fail
          refine (within_m a b la ca lb cb xs ys w4 (HA.out.below B4.out) (HB.out.below B4.out) SX.out SY.out).mono ?_
          rintro e w5 ⟨he, hb⟩
          subst he
          rw [TT.out]
          have B5 : Hid (Below w.heap.size w w5) := then_ B4.out hb
          clear hb B4
          go_wp2
          go_ret
          exact ⟨rfl, B5.out⟩
        | true =>
          have TT : Hid (withinM (mkOf xs) (mkOf ys) = true) := ht
          cases hu : withinM (mkOf ys) (mkOf zs) with
          | false =>
            have UU : Hid (withinM (mkOf ys) (mkOf zs) = false) := hu
            clear ht hu LE TRW v1
            go_wp2_with fail
            refine (compare_m a b la ca lb cb xs ys wr (HA.out.below B0.out) (HB.out.below B0.out) SX.out SY.out).mono ?_
            rintro e w1 ⟨he, hb⟩
            subst he
            rw [V1.out]
            have B1 : Hid (Below w.heap.size w w1) := then_ B0.out hb
            clear hb B0
            go_wp2_with fail
            refine (compare_m b a lb cb la ca ys xs w1 (HB.out.below B1.out) (HA.out.below B1.out) SY.out SX.out).mono ?_
            rintro e w2 ⟨he, hb⟩
            subst he
            rw [V2.out]
            have B2 : Hid (Below w.heap.size w w2) := then_ B1.out hb
            clear hb B1
            go_wp2_with fail
            refine (same_m a b la ca lb cb xs ys w2 (HA.out.below B2.out) (HB.out.below B2.out) SX.out SY.out).mono ?_
            rintro e w3 ⟨he, hb⟩
            subst he
            rw [SM.out]
            have B3 : Hid (Below w.heap.size w w3) := then_ B2.out hb
            clear hb B2
            go_wp2_with fail
            refine (within_m a b la ca lb cb xs ys w3 (HA.out.below B3.out) (HB.out.below B3.out) SX.out SY.out).mono ?_
            rintro e w4 ⟨he, hb⟩
            subst he
            rw [TT.out]
            have B4 : Hid (Below w.heap.size w w4) := then_ B3.out hb
            clear hb B3
            go_wp2_with fail
            refine (within_m a b la ca lb cb xs ys w4 (HA.out.below B4.out) (HB.out.below B4.out) SX.out SY.out).mono ?_
            rintro e w5 ⟨he, hb⟩
            subst he
            rw [TT.out]
            have B5 : Hid (Below w.heap.size w w5) := then_ B4.out hb
            clear hb B4
            go_wp2_with fail
            refine (within_m b c lb cb lc cc ys zs w5 (HB.out.below B5.out) (HC.out.below B5.out) SY.out SZ.out).mono ?_
            rintro e w6 ⟨he, hb⟩
            subst he
            rw [UU.out]
            have B6 : Hid (Below w.heap.size w w6) := then_ B5.out hb
            clear hb B5
            go_wp2
            go_ret
            exact ⟨rfl, B6.out⟩
          | true =>
            have UU : Hid (withinM (mkOf ys) (mkOf zs) = true) := hu
            have WW : Hid (withinM (mkOf xs) (mkOf zs) = true) := TRW.out ht hu
            clear ht hu LE TRW v1
            go_wp2_with fail
            refine (compare_m a b la ca lb cb xs ys wr (HA.out.below B0.out) (HB.out.below B0.out) SX.out SY.out).mono ?_
            rintro e w1 ⟨he, hb⟩
            subst he
            rw [V1.out]
            have B1 : Hid (Below w.heap.size w w1) := then_ B0.out hb
            clear hb B0
            go_wp2_with fail
            refine (compare_m b a lb cb la ca ys xs w1 (HB.out.below B1.out) (HA.out.below B1.out) SY.out SX.out).mono ?_
            rintro e w2 ⟨he, hb⟩
            subst he
            rw [V2.out]
            have B2 : Hid (Below w.heap.size w w2) := then_ B1.out hb
            clear hb B1
            go_wp2_with fail
            refine (same_m a b la ca lb cb xs ys w2 (HA.out.below B2.out) (HB.out.below B2.out) SX.out SY.out).mono ?_
            rintro e w3 ⟨he, hb⟩
            subst he
            rw [SM.out]
            have B3 : Hid (Below w.heap.size w w3) := then_ B2.out hb
            clear hb B2
            go_wp2_with fail
            refine (within_m a b la ca lb cb xs ys w3 (HA.out.below B3.out) (HB.out.below B3.out) SX.out SY.out).mono ?_
            rintro e w4 ⟨he, hb⟩
            subst he
            rw [TT.out]
            have B4 : Hid (Below w.heap.size w w4) := then_ B3.out hb
            clear hb B3
            go_wp2_with fail
            refine (within_m a b la ca lb cb xs ys w4 (HA.out.below B4.out) (HB.out.below B4.out) SX.out SY.out).mono ?_
            rintro e w5 ⟨he, hb⟩
            subst he
            rw [TT.out]
            have B5 : Hid (Below w.heap.size w w5) := then_ B4.out hb
            clear hb B4
            go_wp2_with fail
            refine (within_m b c lb cb lc cc ys zs w5 (HB.out.below B5.out) (HC.out.below B5.out) SY.out SZ.out).mono ?_
            rintro e w6 ⟨he, hb⟩
            subst he
            rw [UU.out]
            have B6 : Hid (Below w.heap.size w w6) := then_ B5.out hb
            clear hb B5
            go_wp2_with fail
            refine (within_m a c la ca lc cc xs zs w6 (HA.out.below B6.out) (HC.out.below B6.out) SX.out SZ.out).mono ?_
            rintro e w7 ⟨he, hb⟩
            subst he
            rw [WW.out]
            have B7 : Hid (Below w.heap.size w w7) := then_ B6.out hb
            clear hb B6
            go_wp2
            go_ret
            exact ⟨rfl, B7.out⟩

theorem door_met (os : Os) (args : Array Value) : laidMetH Tryz.prog Rows.markMoreRow.laid ((World.doorLaid Tryz.prog 400 os).forCall (fun _ _ => 0) ⟨#[], args, []⟩).memory :=
  laidMetH_of_parts3 (fuel := 8) (laidMet_of_run' 8 (by kernel_rfl) (by kernel_rfl)) (by kernel_rfl) (by kernel_rfl)

set_option maxRecDepth 100000 in
set_option maxHeartbeats 4000000 in
theorem lifted (os : Os) (started : os.Started) (H : Type) (enc : TypeId × Value → H) :
    ReturnsInHanded {} Tryz.checked os 6 .any (fun w args => (Rows.markMoreSpec.pre enc Tryz.prog Tryz.f6 [] false w args ∧ laidMetH Tryz.prog Rows.markMoreRow.laid w) ∧ sizedMet enc Tryz.prog Tryz.f6 (OpenSpec.ofChange Rows.markMoreSpec) false w args)
      (Rows.markMoreSpec.post enc Tryz.prog Tryz.f6 false true false false) := by
  refine returnsInHanded_of_change_and (C := Tryz.checked) (X := fun w _ => laidMetH Tryz.prog Rows.markMoreRow.laid w) (fun _ _ _ hh h => h.of_heap hh) Frame.own started (by kernel_rfl) Tryz.func6
    (ChangeSpec.witness_shaped (enc := enc) (C := Tryz.checked) (os := os) (X := fun w _ => laidMetH Tryz.prog Rows.markMoreRow.laid w) false (World.doorLaid Tryz.prog 400 os) #[.slice none 0 0, .slice none 0 0, .slice none 0 0] 8 rfl (World.shaped_of_RefB (by kernel_rfl) (by kernel_rfl)) (by kernel_rfl) (by kernel_rfl) (by kernel_rfl) (door_met os _)) ?_
  intro W base args ds gs before hval0 hW _ hZ0 hL _
  have hval : ∀ (j : Nat) t v, Tryz.f6.params[j]? = some t → args[j]? = some v → Value.okWide Tryz.prog W .any base t v := hval0
  have hW' := hW
  obtain ⟨p, q, hA0, hV, rfl, hfz, hnd⟩ := hW
  have hA : DataW.TrodAll enc Tryz.prog W 0 (fun _ => true) true Tryz.f6.params.toList args.toList ds p := hA0
  rw [Tryz.params6] at hA hval
  have hZ : (DataW.weightsEach Tryz.prog (Tryz.f6.params.toList ++ Rows.markMoreSpec.plain.varTypes Tryz.prog) (ds ++ gs)).all (· ≤ reachBytes) = true := hZ0
  rw [Tryz.params6] at hZ
  clear hZ0
  obtain ⟨v0, vs0, d0, ds0, p0, q0, hargs, rfl, rfl, h0, r0⟩ := trodAll_cons hA
  obtain ⟨v1, vs1, d1, ds1, p1, q1, rfl, rfl, rfl, h1, r1⟩ := trodAll_cons r0
  obtain ⟨v2, vs2, d2, ds2, p2, q2, rfl, rfl, rfl, h2, r2⟩ := trodAll_cons r1
  obtain ⟨rfl, rfl, rfl⟩ := trodAll_nil r2
  obtain rfl : args = #[v0, v1, v2] := by cases args; simp_all
  obtain ⟨rfl, rfl⟩ := trodVars_none hV
  obtain ⟨a0, len0, cap0, rfl⟩ := okWide_slice Tryz.underlying23 (hval 0 23 v0 rfl rfl)
  have k0 := h0
  have lt0 : ∀ x ∈ p0, x.block < W.heap.size := by obtain ⟨m, hm⟩ := k0; exact DataW.trod_lt m _ _ _ hm
  obtain ⟨fu0, hf0⟩ := h0
  obtain ⟨z0, w0⟩ := Mark.open_mk (cap := cap0) hf0 (fun m hm => of_decide_eq_true (List.all_eq_true.1 hZ m (DataW.weights_mem_each (j := 0) (t := 23) rfl rfl m hm)))
  obtain ⟨a1, len1, cap1, rfl⟩ := okWide_slice Tryz.underlying23 (hval 1 23 v1 rfl rfl)
  have k1 := h1
  have lt1 : ∀ x ∈ p1, x.block < W.heap.size := by obtain ⟨m, hm⟩ := k1; exact DataW.trod_lt m _ _ _ hm
  obtain ⟨fu1, hf1⟩ := h1
  obtain ⟨z1, w1⟩ := Mark.open_mk (cap := cap1) hf1 (fun m hm => of_decide_eq_true (List.all_eq_true.1 hZ m (DataW.weights_mem_each (j := 1) (t := 23) rfl rfl m hm)))
  obtain ⟨a2, len2, cap2, rfl⟩ := okWide_slice Tryz.underlying23 (hval 2 23 v2 rfl rfl)
  have k2 := h2
  have lt2 : ∀ x ∈ p2, x.block < W.heap.size := by obtain ⟨m, hm⟩ := k2; exact DataW.trod_lt m _ _ _ hm
  obtain ⟨fu2, hf2⟩ := h2
  obtain ⟨z2, w2⟩ := Mark.open_mk (cap := cap2) hf2 (fun m hm => of_decide_eq_true (List.all_eq_true.1 hZ m (DataW.weights_mem_each (j := 2) (t := 23) rfl rfl m hm)))
  clear hA0 hval0
  refine (walk a0 len0 cap0 z0 a1 len1 cap1 z1 a2 len2 cap2 z2 W w0 w1 w2).mono fun e W' ⟨he, bel⟩ => ?_
  subst he
  exact ⟨_, rfl, _, _, _, [], _, [], hW', trodAll_mk1 (shut_bool Tryz.underlying4 _), (trodAll_cons_mk (Below.trod Frame.laidOut (by kernel_rfl) (of_decide_eq_true (by kernel_rfl)) k0 bel lt0) (trodAll_cons_mk (Below.trod Frame.laidOut (by kernel_rfl) (of_decide_eq_true (by kernel_rfl)) k1 bel lt1) (trodAll_cons_mk (Below.trod Frame.laidOut (by kernel_rfl) (of_decide_eq_true (by kernel_rfl)) k2 bel lt2) trodAll_mk0))), rfl, bel.frame _, fun h => by cases h⟩

theorem over : Rows.MarkMoreSaid :=
  OpenClaim.holds_of_wide 6 Tryz.f6 rfl rfl rfl rfl rfl rfl rfl ⟨rfl, rfl, rfl, rfl, rfl⟩ rfl rfl rfl rfl rfl (by kernel_rfl) Tryz.func6 (by kernel_rfl)
    (of_decide_eq_true (by kernel_rfl)) (by unfold Func.isWrapper; first | (rw [if_pos (by decide +kernel)]; kernel_rfl) | (rw [if_neg (by decide +kernel)]; exact ⟨rfl, rfl⟩))
    (fun os started H enc _ => lifted os started H enc)

theorem proved : Rows.MarkMoreCardSaid :=
  Claim7.holds_tied_plain_at .later [] [.data, .data, .data] true (true, "2b5d1f382493339705975560aba43e05780851a85194b9148d285f45e5ab5452") false
    over (fun _ h => by cases h) (by kernel_rfl) (fun _ h => by cases h) markMore_row_tie rfl ⟨rfl, rfl⟩ (by kernel_rfl) rfl
    (fun f fn hf hfn => by
      obtain rfl : f = 6 := Option.some.inj ((show Tryz.prog.funcNamed Rows.markMoreRow.func = some 6 by kernel_rfl).symm.trans hf) |>.symm
      obtain rfl : fn = Tryz.f6 := (Option.some.inj (Tryz.func6.symm.trans hfn)).symm
      exact ⟨by kernel_rfl, fun j t ht => by
        rw [Tryz.params6] at ht
        have hm : t ∈ [23, 23, 23] := by simpa using Array.mem_of_getElem? ht
        have hall : ([23, 23, 23].all fun u => !Tryz.prog.wantsStandIn u) = true := by kernel_rfl
        exact (show Tryz.prog.wantsStandIn t = false by simpa using List.all_eq_true.1 hall t hm)⟩)
    (by kernel_rfl)
end Go.Proofs.YtnjpblmplneojaaGreatDoor.markMore
