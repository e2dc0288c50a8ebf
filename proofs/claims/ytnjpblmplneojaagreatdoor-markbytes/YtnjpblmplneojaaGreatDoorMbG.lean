/- Same, Within and Compare of markings, the document's own: contracts of the calls, over the turned program. -/
import Derived.Test.YtnjpblmplneojaaGreatDoorMbB
import Derived.Test.YtnjpblmplneojaaGreatDoorMaP
namespace Go.Proofs.YtnjpblmplneojaaGreatDoor.Mark
open Go.RowKit Go.Proofs.YtnjpblmplneojaaGreatDoor.Frame Go.Proofs.YtnjpblmplneojaaGreatDoor.Bag
set_option linter.unusedVariables false
set_option linter.unusedSimpArgs false

theorem rowB_call {W w2 : World} {b o : Nat} {v : Value} (h : W.cell? ⟨b, o, none⟩ = some v) (hb : Below W.heap.size W w2) : w2.cell? ⟨b, o, none⟩ = some v :=
  (hb.cell (p := ⟨b, o, none⟩) (World.block_lt_of_cell? W _ h)).trans h

set_option maxHeartbeats 2000000 in
theorem rsame_m (a b : Option Addr) (la ca lb cb : Nat) (xs ys : List Bg) (w : World) (ha : Mks w a la xs) (hb : Mks w b lb ys) (sx : Sm xs) (sy : Sm ys) :
    Calls Tryz.prog 11 #[.slice a la ca, .slice b lb cb] w (TwoPost (sameM (mkOf xs) (mkOf ys)) w) := by
  have HA : Hid (Mks w a la xs) := ha
  have HB : Hid (Mks w b lb ys) := hb
  have SX : Hid (Sm xs) := sx
  have SY : Hid (Sm ys) := sy
  have LA : Hid (xs.length = la) := ha.1
  have LB : Hid (ys.length = lb) := hb.1
  have hla : la ≤ 1000 := by have := sx.1; rw [ha.1] at this; exact this
  clear ha hb sx sy
  by_cases hl : la = lb
  case neg =>
    have E : Hid (sameM (mkOf xs) (mkOf ys) = false) := two_len (by rw [mkOf_len, mkOf_len, LA.out, LB.out]; exact hl)
    have hl' : ¬ (la : Int) = lb := by omega
    clear hl
    go_enter Tryz.func11, Tryz.ntmps11
    go_wp2
    go_ret
    exact ⟨by rw [E.out]; rfl, Below.refl _ _⟩
  subst hl
  go_enter Tryz.func11, Tryz.ntmps11
  go_wp2
  go_loopw [5] (fun i wr => ∃ k : Nat, k ≤ la ∧ i = .int .i64 k ∧ Hid (∀ j, j < k → sameB (at_ (mkOf xs) j) (at_ (mkOf ys) j) = true) ∧ Below w.heap.size w wr) (fun i _ => la - (intOf i).toNat)
  case atStart => exact ⟨0, by omega, rfl, fun j h => by omega, Below.refl _ _⟩
  case round =>
    obtain ⟨k, hk, rfl, hok, hnx⟩ := hrel
    by_cases hlt : k < la
    · have hlt' : (k : Int) < la := by omega
      obtain ⟨ba, oa, hae, hal, ac, aok⟩ := (HA.out.below hnx).row (k := k) hlt
      obtain ⟨bb, ob, hbe, hbl, bc, bok⟩ := (HB.out.below hnx).row (k := k) hlt
      have ax := mkOf_at xs (i := k) (by rw [LA.out]; exact hlt)
      have ay := mkOf_at ys (i := k) (by rw [LB.out]; exact hlt)
      have lx := SX.out.at (k := k) (by rw [LA.out]; exact hlt)
      have ly := SY.out.at (k := k) (by rw [LB.out]; exact hlt)
      subst hae hbe
      generalize xs.getD k nilBg = gx at *
      generalize ys.getD k nilBg = gy at *
      have AX : Hid (at_ (mkOf xs) k = gx.rows) := ax
      have AY : Hid (at_ (mkOf ys) k = gy.rows) := ay
      have KX : Hid (Bags wr gx.a gx.rows.length gx.rows) := aok.1
      have KY : Hid (Bags wr gy.a gy.rows.length gy.rows) := bok.1
      have HN : Hid (Below w.heap.size w wr) := hnx
      have LX : Hid (gx.rows.length ≤ 10000) := lx
      have LY : Hid (gy.rows.length ≤ 10000) := ly
      have CA : Hid (wr.cell? ⟨ba, oa + k, none⟩ = some (.slice gx.a gx.rows.length gx.c)) := ac
      have CB : Hid (wr.cell? ⟨bb, ob + k, none⟩ = some (.slice gy.a gy.rows.length gy.c)) := bc
      obtain ⟨v, hv⟩ : ∃ v, v = sameB gx.rows gy.rows := ⟨_, rfl⟩
      have HV : Hid (v = sameB gx.rows gy.rows) := hv
      have CL : Hid (∀ wx, Below wr.heap.size wr wx → Calls Tryz.prog 34 #[.slice gx.a gx.rows.length gx.c, .slice gy.a gy.rows.length gy.c] wx fun e w' => e = .returned (.bool v) ∧ Below wr.heap.size wr w') := fun wx hx => by
        rw [hv]
        exact (rsame_q _ _ _ _ _ _ gx.rows gy.rows wx (KX.out.below hx) (KY.out.below hx) (by omega) (by omega)).mono fun e w' h => ⟨h.1, then_ hx h.2⟩
      clear ax ay aok bok hnx lx ly hv
      go_wp2_with fail
      go_region_held3 (fun w' => w'.cell? ⟨ba, oa + k, none⟩ = some (.slice gx.a gx.rows.length gx.c) ∧ w'.cell? ⟨bb, ob + k, none⟩ = some (.slice gy.a gy.rows.length gy.c)) (go_keep)
        (first | (go_at_call 34; refine (CL.out _ (by exact (Below.refl _ _).drew)).mono ?_; rintro e w1 ⟨he, hb1⟩; subst he; have g0 := rowB_call CA.out hb1; have g1 := rowB_call CB.out hb1))
      have H1 : Hid (Below w.heap.size w w1) := then_ HN.out hb1
      clear hb1 g0 g1 ac bc
      cases hs : v with
      | true =>
        have hok' : Hid (∀ j, j < k + 1 → sameB (at_ (mkOf xs) j) (at_ (mkOf ys) j) = true) := fun j hj => by
          rcases Nat.lt_or_ge j k with h | h
          · exact hok.out j h
          · obtain rfl : j = k := by omega
            rw [AX.out, AY.out, ← HV.out]; exact hs
        subst hs
        go_wp2
        go_roundw
        case rel => exact ⟨k + 1, by omega, by go_num, hok', H1.out⟩
        case measure => simp [intOf]; omega
      | false =>
        have E : Hid (sameM (mkOf xs) (mkOf ys) = false) := two_no (i := k) (by rw [mkOf_len, LA.out]; exact hlt) (by rw [AX.out, AY.out, ← HV.out]; exact hs)
        subst hs
        go_wp2
        go_ret
        exact ⟨by rw [E.out]; rfl, H1.out⟩
    · have E : Hid (sameM (mkOf xs) (mkOf ys) = true) := two_iff.2 ⟨by rw [mkOf_len, mkOf_len, LA.out, LB.out], fun j hj => hok.out j (by rw [mkOf_len, LA.out] at hj; omega)⟩
      go_wp2
      go_ret
      exact ⟨by rw [E.out]; rfl, hnx⟩

set_option maxHeartbeats 2000000 in
theorem rwithin_m (a b : Option Addr) (la ca lb cb : Nat) (xs ys : List Bg) (w : World) (ha : Mks w a la xs) (hb : Mks w b lb ys) (sx : Sm xs) (sy : Sm ys) :
    Calls Tryz.prog 13 #[.slice a la ca, .slice b lb cb] w (TwoPost (withinM (mkOf xs) (mkOf ys)) w) := by
  have HA : Hid (Mks w a la xs) := ha
  have HB : Hid (Mks w b lb ys) := hb
  have SX : Hid (Sm xs) := sx
  have SY : Hid (Sm ys) := sy
  have LA : Hid (xs.length = la) := ha.1
  have LB : Hid (ys.length = lb) := hb.1
  have hla : la ≤ 1000 := by have := sx.1; rw [ha.1] at this; exact this
  clear ha hb sx sy
  by_cases hl : la = lb
  case neg =>
    have E : Hid (withinM (mkOf xs) (mkOf ys) = false) := two_len (by rw [mkOf_len, mkOf_len, LA.out, LB.out]; exact hl)
    have hl' : ¬ (la : Int) = lb := by omega
    clear hl
    go_enter Tryz.func13, Tryz.ntmps13
    go_wp2
    go_ret
    exact ⟨by rw [E.out]; rfl, Below.refl _ _⟩
  subst hl
  go_enter Tryz.func13, Tryz.ntmps13
  go_wp2
  go_loopw [5] (fun i wr => ∃ k : Nat, k ≤ la ∧ i = .int .i64 k ∧ Hid (∀ j, j < k → withinB (at_ (mkOf xs) j) (at_ (mkOf ys) j) = true) ∧ Below w.heap.size w wr) (fun i _ => la - (intOf i).toNat)
  case atStart => exact ⟨0, by omega, rfl, fun j h => by omega, Below.refl _ _⟩
  case round =>
    obtain ⟨k, hk, rfl, hok, hnx⟩ := hrel
    by_cases hlt : k < la
    · have hlt' : (k : Int) < la := by omega
      obtain ⟨ba, oa, hae, hal, ac, aok⟩ := (HA.out.below hnx).row (k := k) hlt
      obtain ⟨bb, ob, hbe, hbl, bc, bok⟩ := (HB.out.below hnx).row (k := k) hlt
      have ax := mkOf_at xs (i := k) (by rw [LA.out]; exact hlt)
      have ay := mkOf_at ys (i := k) (by rw [LB.out]; exact hlt)
      have lx := SX.out.at (k := k) (by rw [LA.out]; exact hlt)
      have ly := SY.out.at (k := k) (by rw [LB.out]; exact hlt)
      subst hae hbe
      generalize xs.getD k nilBg = gx at *
      generalize ys.getD k nilBg = gy at *
      have AX : Hid (at_ (mkOf xs) k = gx.rows) := ax
      have AY : Hid (at_ (mkOf ys) k = gy.rows) := ay
      have KX : Hid (Bags wr gx.a gx.rows.length gx.rows) := aok.1
      have KY : Hid (Bags wr gy.a gy.rows.length gy.rows) := bok.1
      have HN : Hid (Below w.heap.size w wr) := hnx
      have LX : Hid (gx.rows.length ≤ 10000) := lx
      have LY : Hid (gy.rows.length ≤ 10000) := ly
      have CA : Hid (wr.cell? ⟨ba, oa + k, none⟩ = some (.slice gx.a gx.rows.length gx.c)) := ac
      have CB : Hid (wr.cell? ⟨bb, ob + k, none⟩ = some (.slice gy.a gy.rows.length gy.c)) := bc
      obtain ⟨v, hv⟩ : ∃ v, v = withinB gx.rows gy.rows := ⟨_, rfl⟩
      have HV : Hid (v = withinB gx.rows gy.rows) := hv
      have CL : Hid (∀ wx, Below wr.heap.size wr wx → Calls Tryz.prog 36 #[.slice gx.a gx.rows.length gx.c, .slice gy.a gy.rows.length gy.c] wx fun e w' => e = .returned (.bool v) ∧ Below wr.heap.size wr w') := fun wx hx => by
        rw [hv]
        exact (rwithin_q _ _ _ _ _ _ gx.rows gy.rows wx (KX.out.below hx) (KY.out.below hx) (by omega) (by omega)).mono fun e w' h => ⟨h.1, by obtain ⟨n, hn⟩ := h.2; rw [hn]; exact below_drewN hx n⟩
      clear ax ay aok bok hnx lx ly hv
      go_wp2_with fail
      go_region_held3 (fun w' => w'.cell? ⟨ba, oa + k, none⟩ = some (.slice gx.a gx.rows.length gx.c) ∧ w'.cell? ⟨bb, ob + k, none⟩ = some (.slice gy.a gy.rows.length gy.c)) (go_keep)
        (first | (go_at_call 36; refine (CL.out _ (by exact (Below.refl _ _).drew)).mono ?_; rintro e w1 ⟨he, hb1⟩; subst he; have g0 := rowB_call CA.out hb1; have g1 := rowB_call CB.out hb1))
      have H1 : Hid (Below w.heap.size w w1) := then_ HN.out hb1
      clear hb1 g0 g1 ac bc
      cases hs : v with
      | true =>
        have hok' : Hid (∀ j, j < k + 1 → withinB (at_ (mkOf xs) j) (at_ (mkOf ys) j) = true) := fun j hj => by
          rcases Nat.lt_or_ge j k with h | h
          · exact hok.out j h
          · obtain rfl : j = k := by omega
            rw [AX.out, AY.out, ← HV.out]; exact hs
        subst hs
        go_wp2
        go_roundw
        case rel => exact ⟨k + 1, by omega, by go_num, hok', H1.out⟩
        case measure => simp [intOf]; omega
      | false =>
        have E : Hid (withinM (mkOf xs) (mkOf ys) = false) := two_no (i := k) (by rw [mkOf_len, LA.out]; exact hlt) (by rw [AX.out, AY.out, ← HV.out]; exact hs)
        subst hs
        go_wp2
        go_ret
        exact ⟨by rw [E.out]; rfl, H1.out⟩
    · have E : Hid (withinM (mkOf xs) (mkOf ys) = true) := two_iff.2 ⟨by rw [mkOf_len, mkOf_len, LA.out, LB.out], fun j hj => hok.out j (by rw [mkOf_len, LA.out] at hj; omega)⟩
      go_wp2
      go_ret
      exact ⟨by rw [E.out]; rfl, hnx⟩

set_option maxHeartbeats 2000000 in
theorem rcompare_m (a b : Option Addr) (la ca lb cb : Nat) (xs ys : List Bg) (w : World) (ha : Mks w a la xs) (hb : Mks w b lb ys) (sx : Sm xs) (sy : Sm ys) :
    Calls Tryz.prog 15 #[.slice a la ca, .slice b lb cb] w (IntPost (compareM (mkOf xs) (mkOf ys)) w) := by
  have HA : Hid (Mks w a la xs) := ha
  have HB : Hid (Mks w b lb ys) := hb
  have SX : Hid (Sm xs) := sx
  have SY : Hid (Sm ys) := sy
  have LA : Hid (xs.length = la) := ha.1
  have LB : Hid (ys.length = lb) := hb.1
  have hla : la ≤ 1000 := by have := sx.1; rw [ha.1] at this; exact this
  clear ha hb sx sy
  by_cases hgt : (lb : Int) < la
  · have E : Hid (compareM (mkOf xs) (mkOf ys) = 1) := by
      show compareM _ _ = 1
      unfold compareM
      rw [if_pos (by rw [mkOf_len, mkOf_len, LA.out, LB.out]; omega)]
    go_enter Tryz.func15, Tryz.ntmps15
    go_wp2
    go_ret
    exact ⟨by rw [E.out]; rfl, Below.refl _ _⟩
  by_cases hlt0 : (la : Int) < lb
  · have E : Hid (compareM (mkOf xs) (mkOf ys) = -1) := by
      show compareM _ _ = -1
      unfold compareM
      rw [if_neg (by rw [mkOf_len, mkOf_len, LA.out, LB.out]; omega), if_pos (by rw [mkOf_len, mkOf_len, LA.out, LB.out]; omega)]
    go_enter Tryz.func15, Tryz.ntmps15
    go_wp2
    go_ret
    exact ⟨by rw [E.out]; rfl, Below.refl _ _⟩
  have hl : la = lb := by omega
  clear hgt hlt0
  subst hl
  go_enter Tryz.func15, Tryz.ntmps15
  go_wp2
  go_loopw [5] (fun i wr => ∃ k : Nat, k ≤ la ∧ i = .int .i64 k ∧ Hid (∀ j, j < k → compareB (at_ (mkOf xs) j) (at_ (mkOf ys) j) = 0) ∧ Below w.heap.size w wr) (fun i _ => la - (intOf i).toNat)
  case atStart => exact ⟨0, by omega, rfl, fun j h => by omega, Below.refl _ _⟩
  case round =>
    obtain ⟨k, hk, rfl, hok, hnx⟩ := hrel
    by_cases hlt : k < la
    · have hlt' : (k : Int) < la := by omega
      obtain ⟨ba, oa, hae, hal, ac, aok⟩ := (HA.out.below hnx).row (k := k) hlt
      obtain ⟨bb, ob, hbe, hbl, bc, bok⟩ := (HB.out.below hnx).row (k := k) hlt
      have ax := mkOf_at xs (i := k) (by rw [LA.out]; exact hlt)
      have ay := mkOf_at ys (i := k) (by rw [LB.out]; exact hlt)
      have lx := SX.out.at (k := k) (by rw [LA.out]; exact hlt)
      have ly := SY.out.at (k := k) (by rw [LB.out]; exact hlt)
      subst hae hbe
      generalize xs.getD k nilBg = gx at *
      generalize ys.getD k nilBg = gy at *
      have AX : Hid (at_ (mkOf xs) k = gx.rows) := ax
      have AY : Hid (at_ (mkOf ys) k = gy.rows) := ay
      have KX : Hid (Bags wr gx.a gx.rows.length gx.rows) := aok.1
      have KY : Hid (Bags wr gy.a gy.rows.length gy.rows) := bok.1
      have HN : Hid (Below w.heap.size w wr) := hnx
      have LX : Hid (gx.rows.length ≤ 10000) := lx
      have LY : Hid (gy.rows.length ≤ 10000) := ly
      have CA : Hid (wr.cell? ⟨ba, oa + k, none⟩ = some (.slice gx.a gx.rows.length gx.c)) := ac
      have CB : Hid (wr.cell? ⟨bb, ob + k, none⟩ = some (.slice gy.a gy.rows.length gy.c)) := bc
      obtain ⟨v, hv⟩ : ∃ v, v = compareB gx.rows gy.rows := ⟨_, rfl⟩
      have HV : Hid (v = compareB gx.rows gy.rows) := hv
      have CL : Hid (∀ wx, Below wr.heap.size wr wx → Calls Tryz.prog 40 #[.slice gx.a gx.rows.length gx.c, .slice gy.a gy.rows.length gy.c] wx fun e w' => e = .returned (.int .i64 v) ∧ Below wr.heap.size wr w') := fun wx hx => by
        rw [hv]
        exact (rcompare_any _ _ _ _ _ _ gx.rows gy.rows wx (KX.out.below hx) (KY.out.below hx) (by omega) (by omega)).mono fun e w' h => ⟨h.1, then_ hx h.2⟩
      clear ax ay aok bok hnx lx ly hv
      go_wp2_with fail
      go_region_held3 (fun w' => w'.cell? ⟨ba, oa + k, none⟩ = some (.slice gx.a gx.rows.length gx.c) ∧ w'.cell? ⟨bb, ob + k, none⟩ = some (.slice gy.a gy.rows.length gy.c)) (go_keep)
        (first | (go_at_call 40; refine (CL.out _ (by exact (Below.refl _ _).drew)).mono ?_; rintro e w1 ⟨he, hb1⟩; subst he; have g0 := rowB_call CA.out hb1; have g1 := rowB_call CB.out hb1))
      have H1 : Hid (Below w.heap.size w w1) := then_ HN.out hb1
      clear hb1 g0 g1 ac bc
      by_cases h0 : v = 0
      · have hok' : Hid (∀ j, j < k + 1 → compareB (at_ (mkOf xs) j) (at_ (mkOf ys) j) = 0) := fun j hj => by
          rcases Nat.lt_or_ge j k with h | h
          · exact hok.out j h
          · obtain rfl : j = k := by omega
            rw [AX.out, AY.out, ← HV.out]; exact h0
        go_wp2
        go_roundw
        case rel => exact ⟨k + 1, by omega, by go_num, hok', H1.out⟩
        case measure => simp [intOf]; omega
      · have E : Hid (compareM (mkOf xs) (mkOf ys) = v) := by
          have := compareM_at (a := mkOf xs) (b := mkOf ys) (by rw [mkOf_len, mkOf_len, LA.out, LB.out]) (i := k) (by rw [mkOf_len, LA.out]; exact hlt) hok.out (by rw [AX.out, AY.out, ← HV.out]; exact h0)
          rw [AX.out, AY.out, ← HV.out] at this
          exact this
        go_wp2
        go_ret
        exact ⟨by rw [E.out]; rfl, H1.out⟩
    · have E : Hid (compareM (mkOf xs) (mkOf ys) = 0) := compareM_none (by rw [mkOf_len, mkOf_len, LA.out, LB.out]) fun j hj => hok.out j (by rw [mkOf_len, LA.out] at hj; omega)
      go_wp2
      go_ret
      exact ⟨by rw [E.out]; rfl, hnx⟩
end Go.Proofs.YtnjpblmplneojaaGreatDoor.Mark
