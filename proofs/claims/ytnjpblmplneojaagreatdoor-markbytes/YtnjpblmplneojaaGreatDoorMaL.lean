/- Contracts and plain mathematics, together: BagRef1, BagRef2. -/
import Derived.Test.YtnjpblmplneojaaGreatDoorMaK
/- The document's own Right, Count, Total, Within and Same: contracts of the calls, over the turned program. They only read. -/
namespace Go.Proofs.YtnjpblmplneojaaGreatDoor.Bag
open Go.RowKit Go.Proofs.YtnjpblmplneojaaGreatDoor.Frame
set_option linter.unusedVariables false

set_option maxHeartbeats 2000000 in
theorem rright_q (a : Option Addr) (len cap : Nat) (rs : List Row) (w : World) (h : Bags w a len rs) (hl : len ≤ 1000000) :
    Calls Tryz.prog 44 #[.slice a len cap] w fun e w' => e = .returned (.bool (rightB rs)) ∧ ∃ n, w' = w.drewN n := by
  have HC : Hid (Bags w a len rs) := h
  have HL : Hid (rs.length = len) := h.1.1
  clear h
  go_enter Tryz.func44, Tryz.ntmps44
  go_wp2
  go_loopw [3] (fun i wr => ∃ k n : Nat, k ≤ len ∧ i = .int .i64 k ∧ Hid (∀ j, j < k → goodAt rs j) ∧ wr = w.drewN n) (fun i _ => len - (intOf i).toNat)
  case atStart => exact ⟨0, 0, by omega, rfl, fun j h => by omega, rfl⟩
  case round =>
    obtain ⟨k, n, hk, rfl, hok, rfl⟩ := hrel
    by_cases hlt : k < len
    · have hlt' : (k : Int) < len := by omega
      obtain ⟨b, off, ha, hbl, hat⟩ := HC.out.row (k := k) hlt
      subst ha
      obtain ⟨c0, c1⟩ := hat k (by rw [HL.out]; exact hlt)
      obtain ⟨m, hm⟩ : ∃ m, m = (rs.getD k zr).1 := ⟨_, rfl⟩
      obtain ⟨c, hc⟩ : ∃ c, c = (rs.getD k zr).2 := ⟨_, rfl⟩
      rw [← hm] at c0
      rw [← hc] at c1
      have HM : Hid (m = (rs.getD k zr).1) := hm
      have HN : Hid (c = (rs.getD k zr).2) := hc
      have BAD : Hid ((m < 0 ∨ c < 1 ∨ 1048576 < c) → rightB rs = false) := fun h => rightB_bad (j := k) (by rw [HL.out]; exact hlt) (fun g => by have := g.1; rw [← HM.out, ← HN.out] at this; omega)
      clear hm hc
      by_cases h1 : m < 0
      · have N : Hid (rightB rs = false) := BAD.out (.inl h1)
        clear hat BAD
        go_wp2
        go_quiet (fail)
        go_wp2
        go_ret
        exact ⟨by rw [N.out]; rfl, _, World.drewN_drewN _ _ _⟩
      have h1' : decide (m < 0) = false := decide_eq_false h1
      by_cases h2 : c < 1
      · have N : Hid (rightB rs = false) := BAD.out (.inr (.inl h2))
        clear hat BAD h1
        go_wp2
        go_quiet (fail)
        go_wp2
        go_ret
        exact ⟨by rw [N.out]; rfl, _, World.drewN_drewN _ _ _⟩
      have h2' : decide (c < 1) = false := decide_eq_false h2
      by_cases h3 : 1048576 < c
      · have N : Hid (rightB rs = false) := BAD.out (.inr (.inr h3))
        clear hat BAD h1 h2
        go_wp2
        go_quiet (fail)
        go_wp2
        go_ret
        exact ⟨by rw [N.out]; rfl, _, World.drewN_drewN _ _ _⟩
      have h3' : decide (1048576 < c) = false := decide_eq_false h3
      clear BAD
      by_cases hk0 : k = 0
      · have hk0' : decide (0 < k) = false := decide_eq_false (by omega)
        have hok' : Hid (∀ j, j < k + 1 → goodAt rs j) := fun j hj => by
          obtain rfl : j = k := by omega
          exact ⟨by rw [← HM.out, ← HN.out]; omega, fun h => by omega⟩
        clear hat hk0 h1 h2 h3
        go_wp2
        go_quiet (fail)
        go_wp2
        go_roundw
        case rel => exact ⟨k + 1, _, by omega, by go_num, hok', rfl⟩
        case measure => simp [intOf]; omega
      · have hk0' : 0 < k := by omega
        have hlk : (k : Int) - 1 < len := by omega
        have hlk0 : ¬ (k : Int) - 1 < 0 := by omega
        obtain ⟨p0, p1⟩ := hat (k - 1) (by rw [HL.out]; omega)
        obtain ⟨q, hq⟩ : ∃ q, q = (rs.getD (k - 1) zr).1 := ⟨_, rfl⟩
        rw [← hq] at p0
        have HQ : Hid (q = (rs.getD (k - 1) zr).1) := hq
        clear hat p1 hq
        by_cases hle : m ≤ q
        · have N : Hid (rightB rs = false) := rightB_bad (j := k) (by rw [HL.out]; exact hlt) (fun g => by have := g.2 (by omega); rw [← HM.out, ← HQ.out] at this; omega)
          clear h1 h2 h3 hk0
          go_wp2
          go_quiet (fail)
          go_wp2
          go_ret
          exact ⟨by rw [N.out]; rfl, _, World.drewN_drewN _ _ _⟩
        · have hok' : Hid (∀ j, j < k + 1 → goodAt rs j) := fun j hj => by
            rcases Nat.lt_or_ge j k with h | h
            · exact hok.out j h
            · obtain rfl : j = k := by omega
              exact ⟨by rw [← HM.out, ← HN.out]; omega, fun h => by rw [← HM.out, ← HQ.out]; omega⟩
          have hle' : decide (m ≤ q) = false := decide_eq_false hle
          clear h1 h2 h3 hk0 hle
          go_wp2
          go_quiet (fail)
          go_wp2
          go_roundw
          case rel => exact ⟨k + 1, _, by omega, by go_num, hok', rfl⟩
          case measure => simp [intOf]; omega
    · have N : Hid (rightB rs = true) := rightB_good fun j hj => hok.out j (by have := HC.out.1.1; omega)
      go_wp2
      go_ret
      exact ⟨by rw [N.out]; rfl, _, rfl⟩
end Go.Proofs.YtnjpblmplneojaaGreatDoor.Bag
/- The document's own Count, Total, Within and Same: contracts of the calls, over the turned program. They only read. -/
namespace Go.Proofs.YtnjpblmplneojaaGreatDoor.Bag
open Go.RowKit Go.Proofs.YtnjpblmplneojaaGreatDoor.Frame
set_option linter.unusedVariables false

theorem drew_more {w wr : World} (h : ∃ n, wr = w.drewN n) (q : Nat) : ∃ n, wr.drewN q = w.drewN n := by
  obtain ⟨n, rfl⟩ := h
  exact ⟨_, World.drewN_drewN _ _ _⟩
theorem cnt_drop {rs : List Row} {k : Nat} (h : k < rs.length) (m : Int) : cntF (rs.drop k) m = if (rs.getD k zr).1 = m then (rs.getD k zr).2 else cntF (rs.drop (k + 1)) m := by
  rw [List.drop_eq_getElem_cons h, ← getD_get zr h]; rfl

set_option maxHeartbeats 1000000 in
theorem rcount_q (a : Option Addr) (len cap : Nat) (rs : List Row) (m : Int) (w : World) (h : Bags w a len rs) (hl : len ≤ 1000000) :
    Calls Tryz.prog 61 #[.slice a len cap, .int .i64 m] w fun e w' => e = .returned (.int .i64 (countB rs m)) ∧ ∃ n, w' = w.drewN n := by
  have HC : Hid (Bags w a len rs) := h
  have HL : Hid (rs.length = len) := h.1.1
  clear h
  cases hr : rightB rs with
  | false =>
    have R : Hid (rightB rs = false) := hr
    have E : Hid (countB rs m = 0) := countB_wrong hr m
    clear hr
    go_enter Tryz.func61, Tryz.ntmps61
    go_wp2_with (go_at_call 44; refine (rright_q _ _ _ rs _ HC.out hl).mono ?_; rintro e w' ⟨he, n, hw⟩; subst he; subst hw; rw [R.out])
    refine wp_loop_rounds 1 ?_
    rw [rounds_succ]
    by_cases h0 : 0 < len
    · have h0' : (0 : Int) < len := by omega
      go_wp2
      go_ret
      exact ⟨by rw [E.out]; rfl, _, rfl⟩
    · have h0' : ¬ (0 : Int) < len := by omega
      go_wp2
      go_ret
      exact ⟨by rw [E.out]; rfl, _, rfl⟩
  | true =>
    have R : Hid (rightB rs = true) := hr
    have E : Hid (countB rs m = cntF rs m) := countB_right (rightB_iff.1 hr) m
    clear hr
    go_enter Tryz.func61, Tryz.ntmps61
    go_wp2_with (go_at_call 44; refine (rright_q _ _ _ rs _ HC.out hl).mono ?_; rintro e w' ⟨he, n, hw⟩; subst he; subst hw; rw [R.out])
    go_loop [6] (fun i => ∃ k : Nat, k ≤ len ∧ i = .int .i64 k ∧ Hid (cntF rs m = cntF (rs.drop k) m)) (fun i => len - (intOf i).toNat)
    case atStart => exact ⟨0, by omega, rfl, (rfl : cntF rs m = _)⟩
    case round =>
      obtain ⟨k, hk, rfl, hD⟩ := hrel
      by_cases hlt : k < len
      · have hlt' : (k : Int) < len := by omega
        obtain ⟨b, off, ha, hbl, hat⟩ := HC.out.row (k := k) hlt
        subst ha
        have hkl : k < rs.length := by rw [HL.out]; exact hlt
        obtain ⟨c0, c1⟩ := hat k hkl
        have hS := cnt_drop hkl m
        rw [← hD.out] at hS
        obtain ⟨x, hx⟩ : ∃ m, m = (rs.getD k zr).1 := ⟨_, rfl⟩
        obtain ⟨c, hc⟩ : ∃ c, c = (rs.getD k zr).2 := ⟨_, rfl⟩
        rw [← hx] at c0 hS
        rw [← hc] at c1 hS
        clear hat hx hc hkl
        by_cases hxm : x = m
        · have F : Hid (cntF rs m = c) := (show _ = _ by rw [hS, if_pos hxm])
          have hxm' : (x == m) = true := by simpa using hxm
          clear hS hxm
          go_wp2
          go_ret
          exact ⟨by rw [E.out, F.out]; rfl, _, rfl⟩
        · have F : Hid (cntF rs m = cntF (rs.drop (k + 1)) m) := (show _ = _ by rw [hS, if_neg hxm])
          have hxm' : (x == m) = false := by simpa using hxm
          clear hS hxm
          go_wp2
          go_round
          case rel => exact ⟨k + 1, by omega, by go_num, F⟩
          case measure => simp [intOf]; omega
      · have hlt' : ¬ (k : Int) < len := by omega
        have F : Hid (cntF rs m = 0) := (show _ = _ by rw [hD.out, List.drop_of_length_le (by rw [HL.out]; omega)]; rfl)
        go_wp2
        go_ret
        exact ⟨by rw [E.out, F.out]; rfl, _, rfl⟩

set_option maxHeartbeats 2000000 in
theorem rwithin_q (a b : Option Addr) (la ca lb cb : Nat) (xs ys : List Row) (w : World) (ha : Bags w a la xs) (hb : Bags w b lb ys) (hla : la ≤ 1000000) (hlb : lb ≤ 1000000) :
    Calls Tryz.prog 36 #[.slice a la ca, .slice b lb cb] w fun e w' => e = .returned (.bool (withinB xs ys)) ∧ ∃ n, w' = w.drewN n := by
  have HA : Hid (Bags w a la xs) := ha
  have HB : Hid (Bags w b lb ys) := hb
  have LA : Hid (xs.length = la) := ha.1.1
  clear ha hb
  cases hr0 : rightB xs with
  | false =>
    have R0 : Hid (rightB xs = false) := hr0
    have E : Hid (withinB xs ys = false) := withinB_wrong (by rw [hr0]; rfl)
    clear hr0
    go_enter Tryz.func36, Tryz.ntmps36
    go_wp2_with (go_at_call 44; refine (rright_q _ _ _ xs _ HA.out hla).mono ?_; rintro e w' ⟨he, n, hw⟩; subst he; subst hw; rw [R0.out])
    go_ret
    exact ⟨by rw [E.out]; rfl, _, rfl⟩
  | true =>
  cases hr1 : rightB ys with
  | false =>
    have R0 : Hid (rightB xs = true) := hr0
    have R1 : Hid (rightB ys = false) := hr1
    have E : Hid (withinB xs ys = false) := withinB_wrong (by rw [hr0, hr1]; rfl)
    clear hr0 hr1
    go_enter Tryz.func36, Tryz.ntmps36
    go_wp2_with fail
    refine (rright_q _ _ _ xs _ HA.out hla).mono ?_
    rintro e w1 ⟨he, n1, hw⟩
    subst he
    subst hw
    rw [R0.out]
    go_wp2_with fail
    refine (rright_q _ _ _ ys _ (HB.out.below (below_drewN (Below.refl _ _) _)) hlb).mono ?_
    rintro e w2 ⟨he, n2, hw⟩
    subst he
    subst hw
    rw [R1.out]
    go_wp2
    go_ret
    exact ⟨by rw [E.out]; rfl, by first | exact ⟨_, rfl⟩ | exact ⟨_, World.drewN_drewN _ _ _⟩⟩
  | true =>
    have R0 : Hid (rightB xs = true) := hr0
    have R1 : Hid (rightB ys = true) := hr1
    have RR : Hid ((rightB xs && rightB ys) = true) := (show _ = _ by rw [hr0, hr1]; rfl)
    have HY : Hid (RightP ys) := rightB_iff.1 hr1
    clear hr0 hr1
    go_enter Tryz.func36, Tryz.ntmps36
    go_wp2_with fail
    refine (rright_q _ _ _ xs _ HA.out hla).mono ?_
    rintro e w1 ⟨he, n1, hw⟩
    subst he
    subst hw
    rw [R0.out]
    go_wp2_with fail
    refine (rright_q _ _ _ ys _ (HB.out.below (below_drewN (Below.refl _ _) _)) hlb).mono ?_
    rintro e w2 ⟨he, n2, hw⟩
    subst he
    rw [World.drewN_drewN] at hw
    subst hw
    rw [R1.out]
    go_wp2
    go_loopw [5] (fun i wr => ∃ k : Nat, k ≤ la ∧ i = .int .i64 k ∧ Hid (∀ j, j < k → (xs.getD j zr).2 ≤ cntF ys (xs.getD j zr).1) ∧ Hid (∃ n, wr = w.drewN n)) (fun i _ => la - (intOf i).toNat)
    case atStart => exact ⟨0, by omega, rfl, fun j h => by omega, ⟨_, rfl⟩⟩
    case round =>
      obtain ⟨k, hk, rfl, hF, hW⟩ := hrel
      have BW : Hid (Below w.heap.size w wr) := (show Below w.heap.size w wr by obtain ⟨n, hn⟩ := hW.out; rw [hn]; exact below_drewN (Below.refl _ _) _)
      by_cases hlt : k < la
      · have hlt' : (k : Int) < la := by omega
        obtain ⟨ab, off, hbe, hbl, hat⟩ := (HA.out.below BW.out).row (k := k) hlt
        subst hbe
        have hkl : k < xs.length := by rw [LA.out]; exact hlt
        obtain ⟨c0, c1⟩ := hat k hkl
        have hBd := withinB_bad (ys := ys) hkl
        obtain ⟨m, hm⟩ : ∃ m, m = (xs.getD k zr).1 := ⟨_, rfl⟩
        obtain ⟨c, hc⟩ : ∃ c, c = (xs.getD k zr).2 := ⟨_, rfl⟩
        have EM : Hid (m = (xs.getD k zr).1) := hm
        have EC : Hid (c = (xs.getD k zr).2) := hc
        rw [← hm] at c0
        rw [← hc] at c1
        simp only [← hm, ← hc] at hBd
        obtain ⟨v, hv⟩ : ∃ v, v = cntF ys m := ⟨_, rfl⟩
        rw [← hv] at hBd
        have BD : Hid (v < c → withinB xs ys = false) := hBd
        have EV : Hid (cntF ys m = v) := hv.symm
        have SO : Hid (∀ q, Calls Tryz.prog 61 #[.slice b lb cb, .int .i64 m] (wr.drewN q) fun e w' => e = .returned (.int .i64 v) ∧ ∃ n, w' = (wr.drewN q).drewN n) := fun q => by
          rw [← EV.out, ← countB_right HY.out]
          exact rcount_q b lb cb ys m _ (HB.out.below (below_drewN BW.out _)) hlb
        clear hat hm hc hBd hkl hv
        by_cases hlt2 : v < c
        · have E : Hid (withinB xs ys = false) := BD.out hlt2
          go_wp2
          go_quiet (first | (go_at_call 61; refine Calls.quiet_of (SO.out _)))
          go_wp2
          go_ret
          exact ⟨by rw [E.out]; rfl, drew_more hW.out _⟩
        · have N3 : Hid (∀ j, j < k + 1 → (xs.getD j zr).2 ≤ cntF ys (xs.getD j zr).1) := fun j hj => by
            rcases Nat.lt_or_ge j k with h | h
            · exact hF.out j h
            · obtain rfl : j = k := by omega
              rw [← EM.out, ← EC.out, EV.out]; omega
          go_wp2
          go_quiet (first | (go_at_call 61; refine Calls.quiet_of (SO.out _)))
          go_wp2
          go_roundw
          case rel => exact ⟨k + 1, by omega, by go_num, N3, drew_more hW.out _⟩
          case measure => simp [intOf]; omega
      · have hlt' : ¬ (k : Int) < la := by omega
        have E : Hid (withinB xs ys = true) := withinB_good RR.out fun j hj => hF.out j (by rw [LA.out] at hj; omega)
        go_wp2
        go_ret
        exact ⟨by rw [E.out]; rfl, hW.out⟩

theorem same_within {xs ys : List Row} : sameB xs ys = (withinB xs ys && withinB ys xs) := by
  cases hx : rightB xs with
  | false => unfold sameB withinB; rw [hx]; rfl
  | true =>
    cases hy : rightB ys with
    | false => unfold sameB withinB; rw [hx, hy]; rfl
    | true =>
      have X := rightB_iff.1 hx
      have Y := rightB_iff.1 hy
      rw [Bool.eq_iff_iff, Bool.and_eq_true, within_iff X Y, within_iff Y X]
      unfold sameB
      rw [hx, hy]
      simp only [Bool.true_and, decide_eq_true_eq]
      constructor
      · intro h; subst h; exact ⟨fun m => Int.le_refl _, fun m => Int.le_refl _⟩
      · rintro ⟨h1, h2⟩
        exact right_ext X Y fun m => Int.le_antisymm (h1 m) (h2 m)

set_option maxHeartbeats 1000000 in
theorem rsame_q (a b : Option Addr) (la ca lb cb : Nat) (xs ys : List Row) (w : World) (ha : Bags w a la xs) (hb : Bags w b lb ys) (hla : la ≤ 1000000) (hlb : lb ≤ 1000000) :
    Calls Tryz.prog 34 #[.slice a la ca, .slice b lb cb] w fun e w' => e = .returned (.bool (sameB xs ys)) ∧ Below w.heap.size w w' := by
  have HA : Hid (Bags w a la xs) := ha
  have HB : Hid (Bags w b lb ys) := hb
  clear ha hb
  cases hr : withinB xs ys with
  | false =>
    have R : Hid (withinB xs ys = false) := hr
    have E : Hid (sameB xs ys = false) := (show _ = _ by rw [same_within, hr]; rfl)
    clear hr
    go_enter Tryz.func34, Tryz.ntmps34
    go_wp2_with fail
    refine (rwithin_q _ _ _ _ _ _ xs ys _ HA.out HB.out hla hlb).mono ?_
    rintro e w1 ⟨he, n1, hw⟩
    subst he
    subst hw
    rw [R.out]
    go_wp2
    go_ret
    exact ⟨by rw [E.out]; rfl, below_drewN (Below.refl _ _) _⟩
  | true =>
    have R : Hid (withinB xs ys = true) := hr
    have E : Hid (sameB xs ys = withinB ys xs) := (show _ = _ by rw [same_within, hr]; rfl)
    clear hr
    go_enter Tryz.func34, Tryz.ntmps34
    go_wp2_with fail
    refine (rwithin_q _ _ _ _ _ _ xs ys _ HA.out HB.out hla hlb).mono ?_
    rintro e w1 ⟨he, n1, hw⟩
    subst he
    have BW : Hid (Below w.heap.size w w1) := (show Below w.heap.size w w1 by rw [hw]; exact below_drewN (Below.refl _ _) _)
    clear hw
    rw [R.out]
    go_wp2_with fail
    refine (rwithin_q _ _ _ _ _ _ ys xs _ (HB.out.below BW.out) (HA.out.below BW.out) hlb hla).mono ?_
    rintro e w2 ⟨he, n2, hw⟩
    subst he
    have BW2 : Hid (Below w.heap.size w w2) := (show Below w.heap.size w w2 by rw [hw]; exact below_drewN BW.out _)
    clear hw
    go_wp2
    go_ret
    exact ⟨by rw [E.out]; rfl, BW2.out⟩
end Go.Proofs.YtnjpblmplneojaaGreatDoor.Bag
