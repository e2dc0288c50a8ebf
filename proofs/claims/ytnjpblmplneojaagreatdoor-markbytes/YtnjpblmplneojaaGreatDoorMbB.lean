/- Contracts and plain mathematics, together: MarkEq, MarkTot, MarkFin. -/
import Derived.Test.YtnjpblmplneojaaGreatDoorMbA
import Derived.Test.YtnjpblmplneojaaGreatDoorMaK
import Derived.Deep.QuietTactic
import Derived.BigQuiet
/- Same, Within and Compare of package mark: contracts of the calls, over the turned program. -/
namespace Go.Proofs.YtnjpblmplneojaaGreatDoor.Mark
open Go.RowKit Go.Proofs.YtnjpblmplneojaaGreatDoor.Frame Go.Proofs.YtnjpblmplneojaaGreatDoor.Bag
set_option linter.unusedVariables false
set_option linter.unusedSimpArgs false

def TwoPost (f : Bool) (w : World) (e : Ending) (w' : World) : Prop := e = .returned (.bool f) ∧ Below w.heap.size w w'
def IntPost (f : Int) (w : World) (e : Ending) (w' : World) : Prop := e = .returned (.int .i64 f) ∧ Below w.heap.size w w'

set_option maxHeartbeats 1000000 in
theorem equal_same (a b : Option Addr) (la ca lb cb : Nat) (xs ys : List Bg) (w : World) (ha : Mks w a la xs) (hb : Mks w b lb ys) (sx : Sm xs) (sy : Sm ys) :
    Calls Tryz.prog 32 #[.slice a la ca, .slice b lb cb, .func (.func 33) #[] #[]] w (TwoPost (twoB sameB (mkOf xs) (mkOf ys)) w) := by
  have HA : Hid (Mks w a la xs) := ha
  have HB : Hid (Mks w b lb ys) := hb
  have SX : Hid (Sm xs) := sx
  have SY : Hid (Sm ys) := sy
  have LA : Hid (xs.length = la) := ha.1
  have LB : Hid (ys.length = lb) := hb.1
  have hla : la ≤ 1000 := by have := sx.1; rw [ha.1] at this; exact this
  clear ha hb sx sy
  by_cases hl : la = lb
  case neg =>
    have E : Hid (twoB sameB (mkOf xs) (mkOf ys) = false) := two_len (by rw [mkOf_len, mkOf_len, LA.out, LB.out]; exact hl)
    have hl' : ¬ (la : Int) = lb := by omega
    clear hl
    go_enter Tryz.func32, Tryz.ntmps32
    go_wp2
    go_ret
    exact ⟨by rw [E.out]; rfl, Below.refl _ _⟩
  subst hl
  go_enter Tryz.func32, Tryz.ntmps32
  go_wp2
  go_loopw [17] (fun i wr => ∃ k : Nat, k ≤ la ∧ i = .int .i64 k ∧ Hid (∀ j, j < k → sameB (at_ (mkOf xs) j) (at_ (mkOf ys) j) = true) ∧ Below w.heap.size w wr) (fun i _ => la - (intOf i).toNat)
  case atStart => exact ⟨0, by omega, rfl, fun j h => by omega, Below.refl _ _⟩
  case round =>
    obtain ⟨k, hk, rfl, hok, hnx⟩ := hrel
    by_cases hlt : k < la
    · have hlt' : (k : Int) < la := by omega
      obtain ⟨ba, oa, hae, hal, ac, aok⟩ := (HA.out.below hnx).row (k := k) hlt
      obtain ⟨bb, ob, hbe, hbl, bc, bok⟩ := (HB.out.below hnx).row (k := k) hlt
      have ax := mkOf_at xs (i := k) (by rw [LA.out]; exact hlt)
      have ay := mkOf_at ys (i := k) (by rw [LB.out]; exact hlt)
      have lx := SX.out.at (k := k) (by rw [LA.out]; exact hlt)
      have ly := SY.out.at (k := k) (by rw [LB.out]; exact hlt)
      subst hae hbe
      generalize xs.getD k nilBg = gx at *
      generalize ys.getD k nilBg = gy at *
      have AX : Hid (at_ (mkOf xs) k = gx.rows) := ax
      have AY : Hid (at_ (mkOf ys) k = gy.rows) := ay
      have KX : Hid (Bags wr gx.a gx.rows.length gx.rows) := aok.1
      have KY : Hid (Bags wr gy.a gy.rows.length gy.rows) := bok.1
      have HN : Hid (Below w.heap.size w wr) := hnx
      clear ax ay aok bok hnx
      go_wp2_with fail
      refine (same_any _ _ _ _ _ _ gx.rows gy.rows _ KX.out KY.out (by omega) (by omega)).mono ?_
      rintro e w1 ⟨he, hb1⟩
      subst he
      have H1 : Hid (Below w.heap.size w w1) := HN.out.trans (hb1.mono HN.out.size)
      clear hb1
      cases hs : sameB gx.rows gy.rows with
      | true =>
        have hok' : Hid (∀ j, j < k + 1 → sameB (at_ (mkOf xs) j) (at_ (mkOf ys) j) = true) := fun j hj => by
          rcases Nat.lt_or_ge j k with h | h
          · exact hok.out j h
          · obtain rfl : j = k := by omega
            rw [AX.out, AY.out]; exact hs
        clear hs
        go_wp2
        go_roundw
        case rel => exact ⟨k + 1, by omega, by go_num, hok', H1.out⟩
        case measure => simp [intOf]; omega
      | false =>
        have E : Hid (twoB sameB (mkOf xs) (mkOf ys) = false) := two_no (i := k) (by rw [mkOf_len, LA.out]; exact hlt) (by rw [AX.out, AY.out]; exact hs)
        clear hs
        go_wp2
        go_ret
        exact ⟨by rw [E.out]; rfl, H1.out⟩
    · have E : Hid (twoB sameB (mkOf xs) (mkOf ys) = true) := two_iff.2 ⟨by rw [mkOf_len, mkOf_len, LA.out, LB.out], fun j hj => hok.out j (by rw [mkOf_len, LA.out] at hj; omega)⟩
      go_wp2
      go_ret
      exact ⟨by rw [E.out]; rfl, hnx⟩

set_option maxHeartbeats 1000000 in
theorem same_m (a b : Option Addr) (la ca lb cb : Nat) (xs ys : List Bg) (w : World) (ha : Mks w a la xs) (hb : Mks w b lb ys) (sx : Sm xs) (sy : Sm ys) :
    Calls Tryz.prog 10 #[.slice a la ca, .slice b lb cb] w (TwoPost (sameM (mkOf xs) (mkOf ys)) w) := by
  have C : Hid (Calls Tryz.prog 32 #[.slice a la ca, .slice b lb cb, .func (.func 33) #[] #[]] w (TwoPost (twoB sameB (mkOf xs) (mkOf ys)) w)) := equal_same a b la ca lb cb xs ys w ha hb sx sy
  clear ha hb sx sy
  go_enter Tryz.func10, Tryz.ntmps10
  go_wp2_with fail
  refine C.out.mono ?_
  rintro e w1 ⟨he, hb1⟩
  subst he
  go_wp2
  go_ret
  exact ⟨rfl, hb1⟩

set_option maxHeartbeats 1000000 in
theorem equal_within (a b : Option Addr) (la ca lb cb : Nat) (xs ys : List Bg) (w : World) (ha : Mks w a la xs) (hb : Mks w b lb ys) (sx : Sm xs) (sy : Sm ys) :
    Calls Tryz.prog 32 #[.slice a la ca, .slice b lb cb, .func (.func 35) #[] #[]] w (TwoPost (twoB withinB (mkOf xs) (mkOf ys)) w) := by
  have HA : Hid (Mks w a la xs) := ha
  have HB : Hid (Mks w b lb ys) := hb
  have SX : Hid (Sm xs) := sx
  have SY : Hid (Sm ys) := sy
  have LA : Hid (xs.length = la) := ha.1
  have LB : Hid (ys.length = lb) := hb.1
  have hla : la ≤ 1000 := by have := sx.1; rw [ha.1] at this; exact this
  clear ha hb sx sy
  by_cases hl : la = lb
  case neg =>
    have E : Hid (twoB withinB (mkOf xs) (mkOf ys) = false) := two_len (by rw [mkOf_len, mkOf_len, LA.out, LB.out]; exact hl)
    have hl' : ¬ (la : Int) = lb := by omega
    clear hl
    go_enter Tryz.func32, Tryz.ntmps32
    go_wp2
    go_ret
    exact ⟨by rw [E.out]; rfl, Below.refl _ _⟩
  subst hl
  go_enter Tryz.func32, Tryz.ntmps32
  go_wp2
  go_loopw [17] (fun i wr => ∃ k : Nat, k ≤ la ∧ i = .int .i64 k ∧ Hid (∀ j, j < k → withinB (at_ (mkOf xs) j) (at_ (mkOf ys) j) = true) ∧ Below w.heap.size w wr) (fun i _ => la - (intOf i).toNat)
  case atStart => exact ⟨0, by omega, rfl, fun j h => by omega, Below.refl _ _⟩
  case round =>
    obtain ⟨k, hk, rfl, hok, hnx⟩ := hrel
    by_cases hlt : k < la
    · have hlt' : (k : Int) < la := by omega
      obtain ⟨ba, oa, hae, hal, ac, aok⟩ := (HA.out.below hnx).row (k := k) hlt
      obtain ⟨bb, ob, hbe, hbl, bc, bok⟩ := (HB.out.below hnx).row (k := k) hlt
      have ax := mkOf_at xs (i := k) (by rw [LA.out]; exact hlt)
      have ay := mkOf_at ys (i := k) (by rw [LB.out]; exact hlt)
      have lx := SX.out.at (k := k) (by rw [LA.out]; exact hlt)
      have ly := SY.out.at (k := k) (by rw [LB.out]; exact hlt)
      subst hae hbe
      generalize xs.getD k nilBg = gx at *
      generalize ys.getD k nilBg = gy at *
      have AX : Hid (at_ (mkOf xs) k = gx.rows) := ax
      have AY : Hid (at_ (mkOf ys) k = gy.rows) := ay
      have KX : Hid (Bags wr gx.a gx.rows.length gx.rows) := aok.1
      have KY : Hid (Bags wr gy.a gy.rows.length gy.rows) := bok.1
      have HN : Hid (Below w.heap.size w wr) := hnx
      clear ax ay aok bok hnx
      go_wp2_with fail
      refine (within_any _ _ _ _ _ _ gx.rows gy.rows _ KX.out KY.out (by omega) (by omega)).mono ?_
      rintro e w1 ⟨he, hb1⟩
      subst he
      have H1 : Hid (Below w.heap.size w w1) := HN.out.trans (hb1.mono HN.out.size)
      clear hb1
      cases hs : withinB gx.rows gy.rows with
      | true =>
        have hok' : Hid (∀ j, j < k + 1 → withinB (at_ (mkOf xs) j) (at_ (mkOf ys) j) = true) := fun j hj => by
          rcases Nat.lt_or_ge j k with h | h
          · exact hok.out j h
          · obtain rfl : j = k := by omega
            rw [AX.out, AY.out]; exact hs
        clear hs
        go_wp2
        go_roundw
        case rel => exact ⟨k + 1, by omega, by go_num, hok', H1.out⟩
        case measure => simp [intOf]; omega
      | false =>
        have E : Hid (twoB withinB (mkOf xs) (mkOf ys) = false) := two_no (i := k) (by rw [mkOf_len, LA.out]; exact hlt) (by rw [AX.out, AY.out]; exact hs)
        clear hs
        go_wp2
        go_ret
        exact ⟨by rw [E.out]; rfl, H1.out⟩
    · have E : Hid (twoB withinB (mkOf xs) (mkOf ys) = true) := two_iff.2 ⟨by rw [mkOf_len, mkOf_len, LA.out, LB.out], fun j hj => hok.out j (by rw [mkOf_len, LA.out] at hj; omega)⟩
      go_wp2
      go_ret
      exact ⟨by rw [E.out]; rfl, hnx⟩

set_option maxHeartbeats 1000000 in
theorem within_m (a b : Option Addr) (la ca lb cb : Nat) (xs ys : List Bg) (w : World) (ha : Mks w a la xs) (hb : Mks w b lb ys) (sx : Sm xs) (sy : Sm ys) :
    Calls Tryz.prog 12 #[.slice a la ca, .slice b lb cb] w (TwoPost (withinM (mkOf xs) (mkOf ys)) w) := by
  have C : Hid (Calls Tryz.prog 32 #[.slice a la ca, .slice b lb cb, .func (.func 35) #[] #[]] w (TwoPost (twoB withinB (mkOf xs) (mkOf ys)) w)) := equal_within a b la ca lb cb xs ys w ha hb sx sy
  clear ha hb sx sy
  go_enter Tryz.func12, Tryz.ntmps12
  go_wp2_with fail
  refine C.out.mono ?_
  rintro e w1 ⟨he, hb1⟩
  subst he
  go_wp2
  go_ret
  exact ⟨rfl, hb1⟩

set_option maxHeartbeats 1000000 in
theorem compareFunc_m (a b : Option Addr) (la ca cb : Nat) (xs ys : List Bg) (w : World) (ha : Mks w a la xs) (hb : Mks w b la ys) (sx : Sm xs) (sy : Sm ys) :
    Calls Tryz.prog 38 #[.slice a la ca, .slice b la cb, .func (.func 39) #[] #[]] w (IntPost (compareM (mkOf xs) (mkOf ys)) w) := by
  have HA : Hid (Mks w a la xs) := ha
  have HB : Hid (Mks w b la ys) := hb
  have SX : Hid (Sm xs) := sx
  have SY : Hid (Sm ys) := sy
  have LA : Hid (xs.length = la) := ha.1
  have LB : Hid (ys.length = la) := hb.1
  have hla : la ≤ 1000 := by have := sx.1; rw [ha.1] at this; exact this
  clear ha hb sx sy
  go_enter Tryz.func38, Tryz.ntmps38
  go_wp2
  go_loopw [13] (fun i wr => ∃ k : Nat, k ≤ la ∧ i = .int .i64 k ∧ Hid (∀ j, j < k → compareB (at_ (mkOf xs) j) (at_ (mkOf ys) j) = 0) ∧ Below w.heap.size w wr) (fun i _ => la - (intOf i).toNat)
  case atStart => exact ⟨0, by omega, rfl, fun j h => by omega, Below.refl _ _⟩
  case round =>
    obtain ⟨k, hk, rfl, hok, hnx⟩ := hrel
    by_cases hlt : k < la
    · have hlt' : (k : Int) < la := by omega
      have hge' : ¬ (la : Int) ≤ k := by omega
      obtain ⟨ba, oa, hae, hal, ac, aok⟩ := (HA.out.below hnx).row (k := k) hlt
      obtain ⟨bb, ob, hbe, hbl, bc, bok⟩ := (HB.out.below hnx).row (k := k) hlt
      have ax := mkOf_at xs (i := k) (by rw [LA.out]; exact hlt)
      have ay := mkOf_at ys (i := k) (by rw [LB.out]; exact hlt)
      have lx := SX.out.at (k := k) (by rw [LA.out]; exact hlt)
      have ly := SY.out.at (k := k) (by rw [LB.out]; exact hlt)
      subst hae hbe
      generalize xs.getD k nilBg = gx at *
      generalize ys.getD k nilBg = gy at *
      have AX : Hid (at_ (mkOf xs) k = gx.rows) := ax
      have AY : Hid (at_ (mkOf ys) k = gy.rows) := ay
      have KX : Hid (Bags wr gx.a gx.rows.length gx.rows) := aok.1
      have KY : Hid (Bags wr gy.a gy.rows.length gy.rows) := bok.1
      have HN : Hid (Below w.heap.size w wr) := hnx
      clear ax ay aok bok hnx
      go_wp2_with fail
      refine (compare_any _ _ _ _ _ _ gx.rows gy.rows _ KX.out KY.out (by omega) (by omega)).mono ?_
      rintro e w1 ⟨he, hb1⟩
      subst he
      have H1 : Hid (Below w.heap.size w w1) := HN.out.trans (hb1.mono HN.out.size)
      clear hb1
      obtain ⟨v, hv⟩ : ∃ v, v = compareB gx.rows gy.rows := ⟨_, rfl⟩
      rw [← hv]
      have HV : Hid (v = compareB gx.rows gy.rows) := hv
      clear hv
      by_cases h0 : v = 0
      · have hok' : Hid (∀ j, j < k + 1 → compareB (at_ (mkOf xs) j) (at_ (mkOf ys) j) = 0) := fun j hj => by
          rcases Nat.lt_or_ge j k with h | h
          · exact hok.out j h
          · obtain rfl : j = k := by omega
            rw [AX.out, AY.out, ← HV.out]; exact h0
        go_wp2
        go_roundw
        case rel => exact ⟨k + 1, by omega, by go_num, hok', H1.out⟩
        case measure => simp [intOf]; omega
      · have E : Hid (compareM (mkOf xs) (mkOf ys) = v) := by
          have := compareM_at (a := mkOf xs) (b := mkOf ys) (by rw [mkOf_len, mkOf_len, LA.out, LB.out]) (i := k) (by rw [mkOf_len, LA.out]; exact hlt) hok.out (by rw [AX.out, AY.out, ← HV.out]; exact h0)
          rw [AX.out, AY.out, ← HV.out] at this
          exact this
        go_wp2
        go_ret
        exact ⟨by rw [E.out]; rfl, H1.out⟩
    · have E : Hid (compareM (mkOf xs) (mkOf ys) = 0) := compareM_none (by rw [mkOf_len, mkOf_len, LA.out, LB.out]) fun j hj => hok.out j (by rw [mkOf_len, LA.out] at hj; omega)
      go_wp2
      go_ret
      exact ⟨by rw [E.out]; rfl, hnx⟩
end Go.Proofs.YtnjpblmplneojaaGreatDoor.Mark
/- Compare, Total, Final and Ended of package mark, Few of the laws: contracts of the calls, over the turned program. -/
namespace Go.Proofs.YtnjpblmplneojaaGreatDoor.Mark
open Go.RowKit Go.Proofs.YtnjpblmplneojaaGreatDoor.Frame Go.Proofs.YtnjpblmplneojaaGreatDoor.Bag
set_option linter.unusedVariables false
set_option linter.unusedSimpArgs false

set_option maxHeartbeats 1000000 in
theorem few_any (a : Option Addr) (la ca : Nat) (xs : List Bg) (w : World) (ha : Mks w a la xs) :
    Calls Tryz.prog 9 #[.slice a la ca] w (TwoPost (fewB xs) w) := by
  have HA : Hid (Mks w a la xs) := ha
  have LA : Hid (xs.length = la) := ha.1
  clear ha
  go_enter Tryz.func9, Tryz.ntmps9
  go_wp2
  go_loopw [3, 4] (fun n i wr => ∃ k : Nat, (k ≤ la ∧ k ≤ 100) ∧ i = .int .i64 k ∧ n = .int .i64 (sumL (lensF (xs.take k)) : Nat) ∧ Hid (sumL (lensF (xs.take k)) ≤ k * 140737488355328) ∧ Below w.heap.size w wr) (fun _ i _ => 100 - (intOf i).toNat)
  case atStart => exact ⟨0, ⟨by omega, by omega⟩, rfl, rfl, Nat.le_refl _, Below.refl _ _⟩
  case round =>
    obtain ⟨k, ⟨hk, hk100⟩, rfl, rfl, hsum, hnx⟩ := hrel
    by_cases hlt : k < la
    · have hlt' : (k : Int) < la := by omega
      by_cases h100 : k < 100
      · have h100' : (k : Int) < 100 := by omega
        obtain ⟨b, o, he, hbl, c0, hok⟩ := (HA.out.below hnx).row (k := k) hlt
        have hs := lens_snoc (gs := xs) (k := k) (by rw [LA.out]; exact hlt)
        subst he
        generalize xs.getD k nilBg = g at *
        obtain ⟨t, ht⟩ : ∃ t, t = sumL (lensF (xs.take k)) := ⟨_, rfl⟩
        rw [← ht] at hs hsum ⊢
        have S : Hid (sumL (lensF (xs.take (k + 1))) = t + g.rows.length) := hs
        have B : Hid (t + g.rows.length ≤ (k + 1) * 140737488355328) := by have := hsum.out; have := hok.2; show _ ≤ _; omega
        have tb : (t : Int) + g.rows.length < 9223372036854775807 := by have := B.out; omega
        have HN : Hid (Below w.heap.size w wr) := hnx
        clear hs hsum hok hnx ht
        go_wp2
        go_roundw
        case rel => exact ⟨k + 1, ⟨by omega, by omega⟩, by go_num, by rw [S.out]; go_num, by rw [S.out]; exact B.out, HN.out⟩
        case measure => simp [intOf]; omega
      · have h100' : ¬ (k : Int) < 100 := by omega
        have E : Hid (fewB xs = false) := by
          show fewB xs = false
          unfold fewB
          rw [decide_eq_false (by rw [LA.out]; omega)]; rfl
        have hl70 : ¬ (la : Int) ≤ 70 := by omega
        go_wp2
        go_ret
        exact ⟨by rw [E.out]; rfl, hnx⟩
    · have hkl : k = la := by omega
      subst hkl
      have ht : xs.take k = xs := List.take_of_length_le (by rw [LA.out]; omega)
      have ht' : (xs.take 100).length = (xs.take 100).length := rfl
      by_cases h70 : k ≤ 70
      · have h70' : (k : Int) ≤ 70 := by omega
        rw [ht]
        have E : Hid (fewB xs = decide (((sumL (lensF xs) : Nat) : Int) ≤ 300)) := by
          show fewB xs = _
          unfold fewB
          rw [decide_eq_true (show xs.length ≤ 70 by rw [LA.out]; exact h70), Bool.true_and, List.take_of_length_le (show xs.length ≤ 100 by rw [LA.out]; omega)]
          exact decide_eq_decide.2 (by omega)
        generalize sumL (lensF xs) = t at *
        clear ht hsum
        by_cases ht3 : (t : Int) ≤ 300
        · have E' : Hid (fewB xs = true) := by rw [decide_eq_true ht3] at E; exact E
          clear E
          go_wp2
          go_ret
          exact ⟨by rw [E'.out]; rfl, hnx⟩
        · have E' : Hid (fewB xs = false) := by rw [decide_eq_false ht3] at E; exact E
          clear E
          go_wp2
          go_ret
          exact ⟨by rw [E'.out]; rfl, hnx⟩
      · have h70' : ¬ (k : Int) ≤ 70 := by omega
        have E : Hid (fewB xs = false) := by
          show fewB xs = false
          unfold fewB
          rw [decide_eq_false (by rw [LA.out]; omega)]; rfl
        clear ht
        go_wp2
        go_ret
        exact ⟨by rw [E.out]; rfl, hnx⟩

theorem cmp_eq (a b : Mk) : compareM a b = if cmpI a.length b.length = 0 then fz (cmpL a b) else cmpI a.length b.length := by
  unfold compareM cmpI
  by_cases h1 : b.length < a.length
  · rw [if_pos h1, if_neg (show ¬ (a.length : Int) < b.length by omega), if_pos (show (b.length : Int) < a.length by omega)]; rfl
  · by_cases h2 : a.length < b.length
    · rw [if_neg h1, if_pos h2, if_pos (show (a.length : Int) < b.length by omega)]; rfl
    · rw [if_neg h1, if_neg h2, if_neg (show ¬ (a.length : Int) < b.length by omega), if_neg (show ¬ (b.length : Int) < a.length by omega)]; rfl

set_option maxHeartbeats 1000000 in
theorem compare_m (a b : Option Addr) (la ca lb cb : Nat) (xs ys : List Bg) (w : World) (ha : Mks w a la xs) (hb : Mks w b lb ys) (sx : Sm xs) (sy : Sm ys) :
    Calls Tryz.prog 14 #[.slice a la ca, .slice b lb cb] w (IntPost (compareM (mkOf xs) (mkOf ys)) w) := by
  have HA : Hid (Mks w a la xs) := ha
  have HB : Hid (Mks w b lb ys) := hb
  have SX : Hid (Sm xs) := sx
  have SY : Hid (Sm ys) := sy
  have LA : Hid (xs.length = la) := ha.1
  have LB : Hid (ys.length = lb) := hb.1
  clear ha hb sx sy
  have CI : Hid (∀ w : World, Calls Tryz.prog 37 #[.int .i64 la, .int .i64 lb] w fun e w' => e = .returned (.int .i64 (cmpI la lb)) ∧ w' = w) := fun w => cmp_any la lb w
  have EQ : Hid (compareM (mkOf xs) (mkOf ys) = if cmpI la lb = 0 then fz (cmpL (mkOf xs) (mkOf ys)) else cmpI la lb) := by
    have := cmp_eq (mkOf xs) (mkOf ys)
    rw [mkOf_len, mkOf_len, LA.out, LB.out] at this
    exact this
  have hz : cmpI la lb = 0 → la = lb := fun h => by
    unfold cmpI at h
    split at h
    · cases h
    · split at h
      · cases h
      · omega
  generalize cmpI la lb = v at *
  by_cases h0 : v = 0
  · obtain rfl := hz h0
    subst h0
    have C : Hid (Calls Tryz.prog 38 #[.slice a la ca, .slice b la cb, .func (.func 39) #[] #[]] w (IntPost (compareM (mkOf xs) (mkOf ys)) w)) := compareFunc_m a b la ca cb xs ys w HA.out HB.out SX.out SY.out
    clear EQ hz
    go_enter Tryz.func14, Tryz.ntmps14
    go_wp2_with fail
    refine (CI.out _).mono ?_
    rintro e w1 ⟨he, hw⟩
    subst he
    have hw := hw.symm
    subst hw
    go_wp2_with fail
    refine C.out.mono ?_
    rintro e w1 ⟨he, hb1⟩
    subst he
    go_wp2
    go_ret
    exact ⟨rfl, hb1⟩
  · have E : Hid (compareM (mkOf xs) (mkOf ys) = v) := by have := EQ.out; rw [if_neg h0] at this; exact this
    clear EQ hz
    go_enter Tryz.func14, Tryz.ntmps14
    go_wp2_with fail
    refine (CI.out _).mono ?_
    rintro e w1 ⟨he, hw⟩
    subst he
    have hw := hw.symm
    subst hw
    go_wp2
    go_ret
    exact ⟨by rw [E.out]; rfl, Below.refl _ _⟩

theorem totM_snoc (l : Mk) (x : List Row) : totM (l ++ [x]) = totM l + totalB x := by
  unfold totM
  rw [List.map_append, List.foldr_append]
  simp only [List.map_cons, List.map_nil, List.foldr_cons, List.foldr_nil]
  generalize l.map totalB = q
  induction q with
  | nil => simp
  | cons y q ih => simp only [List.foldr_cons]; rw [ih]; omega
theorem totalB_bd (b : List Row) : 0 ≤ totalB b ∧ totalB b ≤ 1048576 * b.length := by
  cases h : rightB b with
  | true => rw [totalB_right (rightB_iff.1 h)]; exact totF_nonneg (rightB_iff.1 h)
  | false => rw [totalB_wrong h]; omega
theorem mk_take {gs : List Bg} {k : Nat} (h : k < gs.length) : (mkOf gs).take (k + 1) = (mkOf gs).take k ++ [(gs.getD k nilBg).rows] := by
  rw [List.take_add_one, List.getElem?_eq_getElem (by rw [mkOf_len]; exact h)]
  have := mkOf_at gs h
  rw [at_get (by rw [mkOf_len]; exact h)] at this
  rw [this]; rfl

set_option maxHeartbeats 1000000 in
theorem total_m (a : Option Addr) (la ca : Nat) (xs : List Bg) (w : World) (ha : Mks w a la xs) (sx : Sm xs) :
    Calls Tryz.prog 25 #[.slice a la ca] w (IntPost (totM (mkOf xs)) w) := by
  have HA : Hid (Mks w a la xs) := ha
  have SX : Hid (Sm xs) := sx
  have LA : Hid (xs.length = la) := ha.1
  have hla : la ≤ 1000 := by have := sx.1; rw [ha.1] at this; exact this
  clear ha sx
  go_enter Tryz.func25, Tryz.ntmps25
  go_wp2
  go_loopw [3, 8] (fun n i wr => ∃ k : Nat, k ≤ la ∧ i = .int .i64 k ∧ n = .int .i64 (totM ((mkOf xs).take k)) ∧ Hid (0 ≤ totM ((mkOf xs).take k) ∧ totM ((mkOf xs).take k) ≤ k * 10485760000) ∧ Below w.heap.size w wr) (fun _ i _ => la - (intOf i).toNat)
  case atStart => exact ⟨0, by omega, rfl, rfl, ⟨Int.le_refl _, Int.le_refl _⟩, Below.refl _ _⟩
  case round =>
    obtain ⟨k, hk, rfl, rfl, hsum, hnx⟩ := hrel
    by_cases hlt : k < la
    · have hlt' : (k : Int) < la := by omega
      obtain ⟨b, o, he, hbl, c0, hok⟩ := (HA.out.below hnx).row (k := k) hlt
      have hs := mk_take (gs := xs) (k := k) (by rw [LA.out]; exact hlt)
      have hl := SX.out.at (k := k) (by rw [LA.out]; exact hlt)
      subst he
      generalize xs.getD k nilBg = g at *
      obtain ⟨t, ht⟩ : ∃ t, t = totM ((mkOf xs).take k) := ⟨_, rfl⟩
      obtain ⟨x, hx⟩ : ∃ x, x = totalB g.rows := ⟨_, rfl⟩
      have hbd := totalB_bd g.rows
      rw [← hx] at hbd
      rw [← ht] at hsum ⊢
      have S : Hid (totM ((mkOf xs).take (k + 1)) = t + x) := by rw [hs, totM_snoc, ← ht, ← hx]; exact (rfl : t + x = t + x)
      have B : Hid (0 ≤ t + x ∧ t + x ≤ ((k + 1 : Nat) : Int) * 10485760000) := by have := hsum.out; refine ⟨?_, ?_⟩ <;> omega
      have tb : -9223372036854775808 ≤ t + x ∧ t + x ≤ 9223372036854775807 := by have := B.out; omega
      have HN : Hid (Below w.heap.size w wr) := hnx
      have KX : Hid (Bags wr g.a g.rows.length g.rows) := hok.1
      have TX : Hid (x = totalB g.rows) := hx
      clear hs hsum hok hnx ht hx hbd
      go_wp2_with fail
      refine (Total_any _ _ _ g.rows _ KX.out (by omega)).mono ?_
      rintro e w1 ⟨he, hb1⟩
      subst he
      rw [← TX.out]
      have H1 : Hid (Below w.heap.size w w1) := HN.out.trans (hb1.mono HN.out.size)
      clear hb1
      go_wp2
      go_roundw
      case rel => exact ⟨k + 1, by omega, by go_num, by rw [S.out], by rw [S.out]; exact B.out, H1.out⟩
      case measure => simp [intOf]; omega
    · have E : Hid (totM ((mkOf xs).take k) = totM (mkOf xs)) := by rw [List.take_of_length_le (by rw [mkOf_len, LA.out]; omega)]; exact (rfl : totM (mkOf xs) = totM (mkOf xs))
      go_wp2
      go_ret
      exact ⟨by rw [← E.out]; rfl, hnx⟩
end Go.Proofs.YtnjpblmplneojaaGreatDoor.Mark
/- Final and Ended of package mark: contracts of the calls, over the turned program. -/
namespace Go.Proofs.YtnjpblmplneojaaGreatDoor.Mark
open Go.RowKit Go.Proofs.YtnjpblmplneojaaGreatDoor.Frame Go.Proofs.YtnjpblmplneojaaGreatDoor.Bag
set_option linter.unusedVariables false
set_option linter.unusedSimpArgs false

/-- how many tokens are where the net ends, as the program has it -/
def endF (pl : Nat) (to : Int) (m : Mk) : Int := if 0 ≤ to ∧ to < pl ∧ to < m.length then totalB (at_ m to.toNat) else 0
def endB (pl : Nat) (to : Int) (m : Mk) : Bool := decide (1 ≤ endF pl to m)
def finB (pl : Nat) (to : Int) (m : Mk) : Bool := decide (m.length = pl) && decide (endF pl to m = 1) && decide (totM m = 1)
theorem endF_bd (pl : Nat) (to : Int) {gs : List Bg} (h : Sm gs) : 0 ≤ endF pl to (mkOf gs) ∧ endF pl to (mkOf gs) ≤ 10485760000 := by
  unfold endF
  split
  · rename_i hc
    have hl : to.toNat < gs.length := by have := hc.2.2; rw [mkOf_len] at this; omega
    have h1 := totalB_bd (at_ (mkOf gs) to.toNat)
    have h2 := h.at hl
    rw [← mkOf_at gs hl] at h2
    omega
  · omega

set_option maxHeartbeats 1000000 in
theorem atEnd_m (a va vp vt : Option Addr) (la ca lv cv lp cp lt ct : Nat) (fr to : Int) (xs : List Bg) (w : World) (ha : Mks w a la xs) (sx : Sm xs) (hp : lp ≤ 140737488355328) :
    Calls Tryz.prog 48 #[.agg #[.slice va lv cv, .slice vp lp cp, .slice vt lt ct, .int .i64 fr, .int .i64 to], .slice a la ca] w (IntPost (endF lp to (mkOf xs)) w) := by
  have HA : Hid (Mks w a la xs) := ha
  have SX : Hid (Sm xs) := sx
  have LA : Hid (xs.length = la) := ha.1
  have hla : la ≤ 1000 := by have := sx.1; rw [ha.1] at this; exact this
  clear ha sx
  have OUT : ¬ (0 ≤ to ∧ to < lp ∧ to < la) → Hid (endF lp to (mkOf xs) = 0) := fun h => by
    show endF lp to (mkOf xs) = 0
    unfold endF
    rw [mkOf_len, LA.out, if_neg h]
  by_cases h0 : to < 0
  · have E := OUT (by omega)
    clear OUT
    go_enter Tryz.func48, Tryz.ntmps48
    go_wp2
    go_ret
    exact ⟨by rw [E.out]; rfl, (Below.refl _ _).alloc (Nat.le_refl _) _⟩
  by_cases h1 : to < lp ∧ to < la
  · obtain ⟨k, rfl⟩ : ∃ k : Nat, to = k := ⟨to.toNat, by omega⟩
    have hk : k < la := by omega
    have E : Hid (endF lp k (mkOf xs) = totalB (xs.getD k nilBg).rows) := by
      show endF lp k (mkOf xs) = _
      unfold endF
      rw [mkOf_len, LA.out, if_pos ⟨by omega, h1.1, h1.2⟩, Int.toNat_natCast, mkOf_at xs (by rw [LA.out]; exact hk)]
    have hl := SX.out.at (k := k) (by rw [LA.out]; exact hk)
    obtain ⟨b, o, he, hbl, c0, hok⟩ := HA.out.row (k := k) hk
    subst he
    generalize xs.getD k nilBg = g at *
    have KX : Hid (Bags w g.a g.rows.length g.rows) := hok.1
    clear OUT hok h0
    obtain ⟨hklp, hkla⟩ := h1
    have hge1 : ¬ (la : Int) ≤ k := by omega
    have hge2 : ¬ (lp : Int) ≤ k := by omega
    by_cases hm : (la : Int) < lp
    · go_enter Tryz.func48, Tryz.ntmps48
      go_wp2_with fail
      refine (Total_any _ _ _ g.rows _ (KX.out.below ((Below.refl _ _).alloc (Nat.le_refl _) _)) (by omega)).mono ?_
      rintro e w1 ⟨he, hb1⟩
      subst he
      go_wp2
      go_ret
      exact ⟨by rw [E.out]; rfl, ((Below.refl _ w).alloc (Nat.le_refl _) _).trans (hb1.mono (by simp))⟩
    · go_enter Tryz.func48, Tryz.ntmps48
      go_wp2_with fail
      refine (Total_any _ _ _ g.rows _ (KX.out.below ((Below.refl _ _).alloc (Nat.le_refl _) _)) (by omega)).mono ?_
      rintro e w1 ⟨he, hb1⟩
      subst he
      go_wp2
      go_ret
      exact ⟨by rw [E.out]; rfl, ((Below.refl _ w).alloc (Nat.le_refl _) _).trans (hb1.mono (by simp))⟩
  · have E := OUT (by omega)
    clear OUT
    by_cases hm : (la : Int) < lp
    · have hge : ¬ to < la := by omega
      clear h1
      go_enter Tryz.func48, Tryz.ntmps48
      go_wp2
      go_ret
      exact ⟨by rw [E.out]; rfl, (Below.refl _ _).alloc (Nat.le_refl _) _⟩
    · have hge : ¬ to < lp := by omega
      clear h1
      go_enter Tryz.func48, Tryz.ntmps48
      go_wp2
      go_ret
      exact ⟨by rw [E.out]; rfl, (Below.refl _ _).alloc (Nat.le_refl _) _⟩

set_option maxHeartbeats 1000000 in
theorem ended_m (a va vp vt : Option Addr) (la ca lv cv lp cp lt ct : Nat) (fr to : Int) (xs : List Bg) (w : World) (ha : Mks w a la xs) (sx : Sm xs) (hp : lp ≤ 140737488355328) :
    Calls Tryz.prog 24 #[.agg #[.slice va lv cv, .slice vp lp cp, .slice vt lt ct, .int .i64 fr, .int .i64 to], .slice a la ca] w (TwoPost (endB lp to (mkOf xs)) w) := by
  have C : Hid (∀ W, Below w.heap.size w W → Calls Tryz.prog 48 #[.agg #[.slice va lv cv, .slice vp lp cp, .slice vt lt ct, .int .i64 fr, .int .i64 to], .slice a la ca] W (IntPost (endF lp to (mkOf xs)) W)) :=
    fun W hW => atEnd_m a va vp vt la ca lv cv lp cp lt ct fr to xs W (ha.below hW) sx hp
  have bd := endF_bd lp to sx
  have E : Hid (endB lp to (mkOf xs) = decide (1 ≤ endF lp to (mkOf xs))) := rfl
  generalize endF lp to (mkOf xs) = v at *
  clear ha sx
  go_enter Tryz.func24, Tryz.ntmps24
  go_wp2_with fail
  refine (C.out _ ((Below.refl _ _).alloc (Nat.le_refl _) _)).mono ?_
  rintro e w1 ⟨he, hb1⟩
  subst he
  have H1 : Hid (Below w.heap.size w w1) := ((Below.refl _ w).alloc (Nat.le_refl _) _).trans (hb1.mono (by simp))
  clear hb1
  go_wp2
  go_ret
  exact ⟨by rw [E.out]; rfl, H1.out⟩

set_option maxHeartbeats 1000000 in
theorem final_m (a va vp vt : Option Addr) (la ca lv cv lp cp lt ct : Nat) (fr to : Int) (xs : List Bg) (w : World) (ha : Mks w a la xs) (sx : Sm xs) (hp : lp ≤ 140737488355328) :
    Calls Tryz.prog 23 #[.agg #[.slice va lv cv, .slice vp lp cp, .slice vt lt ct, .int .i64 fr, .int .i64 to], .slice a la ca] w (TwoPost (finB lp to (mkOf xs)) w) := by
  have C : Hid (∀ W, Below w.heap.size w W → Calls Tryz.prog 48 #[.agg #[.slice va lv cv, .slice vp lp cp, .slice vt lt ct, .int .i64 fr, .int .i64 to], .slice a la ca] W (IntPost (endF lp to (mkOf xs)) W)) :=
    fun W hW => atEnd_m a va vp vt la ca lv cv lp cp lt ct fr to xs W (ha.below hW) sx hp
  have CT : Hid (∀ W, Below w.heap.size w W → Calls Tryz.prog 25 #[.slice a la ca] W (IntPost (totM (mkOf xs)) W)) := fun W hW => total_m a la ca xs W (ha.below hW) sx
  have E : Hid (finB lp to (mkOf xs) = (decide ((la : Int) = lp) && decide (endF lp to (mkOf xs) = 1) && decide (totM (mkOf xs) = 1))) := by
    show finB lp to (mkOf xs) = _
    unfold finB
    rw [mkOf_len, ha.1, decide_eq_decide.2 (show la = lp ↔ (la : Int) = lp by omega)]
  generalize endF lp to (mkOf xs) = v at *
  generalize totM (mkOf xs) = t at *
  clear ha sx
  by_cases hl : (la : Int) = lp
  case neg =>
    have E' : Hid (finB lp to (mkOf xs) = false) := by rw [decide_eq_false hl] at E; exact E
    clear E
    go_enter Tryz.func23, Tryz.ntmps23
    go_wp2
    go_ret
    exact ⟨by rw [E'.out]; rfl, (Below.refl _ _).alloc (Nat.le_refl _) _⟩
  by_cases hv : v = 1
  case neg =>
    have E' : Hid (finB lp to (mkOf xs) = false) := by rw [decide_eq_true hl, decide_eq_false hv] at E; exact E
    clear E
    go_enter Tryz.func23, Tryz.ntmps23
    go_wp2_with fail
    refine (C.out _ ((Below.refl _ _).alloc (Nat.le_refl _) _)).mono ?_
    rintro e w1 ⟨he, hb1⟩
    subst he
    have H1 : Hid (Below w.heap.size w w1) := ((Below.refl _ w).alloc (Nat.le_refl _) _).trans (hb1.mono (by simp))
    clear hb1
    go_wp2
    go_ret
    exact ⟨by rw [E'.out]; rfl, H1.out⟩
  subst hv
  have E' : Hid (finB lp to (mkOf xs) = decide (t = 1)) := by rw [decide_eq_true hl] at E; exact E
  clear E
  go_enter Tryz.func23, Tryz.ntmps23
  go_wp2_with fail
  refine (C.out _ ((Below.refl _ _).alloc (Nat.le_refl _) _)).mono ?_
  rintro e w1 ⟨he, hb1⟩
  subst he
  have H1 : Hid (Below w.heap.size w w1) := ((Below.refl _ w).alloc (Nat.le_refl _) _).trans (hb1.mono (by simp))
  clear hb1
  go_wp2_with fail
  refine (CT.out _ H1.out).mono ?_
  rintro e w2 ⟨he, hb2⟩
  subst he
  have H2 : Hid (Below w.heap.size w w2) := H1.out.trans (hb2.mono H1.out.size)
  clear hb2
  by_cases ht : t = 1
  · have E2 : Hid (finB lp to (mkOf xs) = true) := by rw [decide_eq_true ht] at E'; exact E'
    clear E'
    go_wp2
    go_ret
    exact ⟨by rw [E2.out]; rfl, H2.out⟩
  · have E2 : Hid (finB lp to (mkOf xs) = false) := by rw [decide_eq_false ht] at E'; exact E'
    have htb : (t == 1) = false := by simpa using ht
    clear E'
    go_wp2
    go_ret
    exact ⟨by rw [E2.out]; rfl, H2.out⟩
end Go.Proofs.YtnjpblmplneojaaGreatDoor.Mark
