/- The document's own Sum: a contract of the call, over the turned program. -/
import Derived.Test.YtoinepmlbcnbgaaBagROf
namespace Go.Proofs.Ytoinepmlbcnbgaa.Bag
open Go.RowKit Go.Maps Go.Proofs.Ytoinepmlbcnbgaa.Frame
set_option linter.unusedVariables false
attribute [local go_sem ↓] Go.wp_at_zero Go.wp_at_succ

/-- the document's own answers of two bags -/
def RPost (ok : Bool) (bad : Int) (w : World) (n : Nat) (c : Int → Int) (e : Ending) (w' : World) : Prop :=
  ((ok = false ∧ e = .returned (.tuple #[.slice none 0 0, .int .i64 bad])) ∨ (ok = true ∧ ∃ a len cap rs, e = .returned (.tuple #[.slice a len cap, .int .i64 0]) ∧ (Has c rs ∧ len ≤ n) ∧ Bags w' a len rs)) ∧ Below w.heap.size w w'

set_option maxHeartbeats 2000000 in
theorem rsum_right (a b : Option Addr) (la ca lb cb : Nat) (xs ys : List Row) (w : World) (ha : Bags w a la xs) (hb : Bags w b lb ys) (hla : la ≤ 10000) (hlb : lb ≤ 10000) (hx : RightP xs) (hy : RightP ys) :
    Calls Try.prog 23 #[.slice a la ca, .slice b lb cb] w fun e w' => RPost (fitsB xs ys) 2 w (la + lb) (sumC xs ys) e w' := by
  have HA : Hid (Bags w a la xs) := ha
  have HB : Hid (Bags w b lb ys) := hb
  have HX : Hid (RightP xs) := hx
  have HY : Hid (RightP ys) := hy
  have LB : Hid (ys.length = lb) := hb.1.1
  have R0 : Hid (rightB xs = true) := rightB_iff.2 hx
  have R1 : Hid (rightB ys = true) := rightB_iff.2 hy
  clear ha hb hx hy
  go_enter Try.func23, Try.ntmps23
  go_wp2_with fail
  refine (rright_q _ _ _ xs _ HA.out (by omega)).mono ?_
  rintro e w1 ⟨he, n1, hw⟩
  subst he
  have B1 : Hid (Below w.heap.size w w1) := (show Below w.heap.size w w1 by rw [hw]; exact below_drewN (Below.refl _ _) _)
  clear hw
  rw [R0.out]
  go_wp2_with fail
  refine (rright_q _ _ _ ys _ (HB.out.below B1.out) (by omega)).mono ?_
  rintro e w2 ⟨he, n2, hw⟩
  subst he
  have B2 : Hid (Below w.heap.size w w2) := (show Below w.heap.size w w2 by rw [hw]; exact below_drewN B1.out _)
  clear hw B1
  rw [R1.out]
  obtain ⟨g, gc, w3, hr, hO, hb3⟩ := copy_bags w2 23 a la ca xs (HA.out.below B2.out) (by omega)
  have CR : Hid (_ = _) := hr
  have O0 : Hid (Bags w3 (some ⟨g, 0, none⟩) la xs) := hO.bags
  have B3 : Below w.heap.size w w3 := then_ B2.out hb3
  clear hr hO hb3 B2
  go_wp2_with (at_builtin; refine wpList_append_run rfl _ _ 23 23 rfl rfl rfl CR.out ?_)
  clear CR
  go_loopw [6, 7] (fun v i wr => ∃ (k : Nat) (oa : Option Addr) (ol oc : Nat) (os : List Row), k ≤ lb ∧ i = .int .i64 k ∧ v = .slice oa ol oc ∧ ol ≤ la + k ∧ Hid (Has (sumC xs (ys.take k)) os) ∧ Hid (Bags wr oa ol os) ∧ Hid (∀ j, j < k → cntF xs (ys.getD j zr).1 + (ys.getD j zr).2 ≤ 1048576) ∧ Below w.heap.size w wr) (fun _ i _ => lb - (intOf i).toNat)
  case atStart => exact ⟨0, some ⟨g, 0, none⟩, la, gc, xs, by omega, rfl, rfl, by omega, (show Has _ _ from (Has.self HX.out).of fun m => by simp [sumC, cntF]), O0, fun j h => by omega, B3⟩
  case round =>
    obtain ⟨k, oa, ol, oc, os, hk, rfl, rfl, hol, hH, hB, hF, hnx⟩ := hrel
    clear B3 O0
    by_cases hlt : k < lb
    · have hlt' : (k : Int) < lb := by omega
      obtain ⟨bb, off, hbe, hbl, hat⟩ := (HB.out.below hnx).row (k := k) hlt
      subst hbe
      have hkl : k < ys.length := by rw [LB.out]; exact hlt
      obtain ⟨c0, c1⟩ := hat k hkl
      have hI := HB.out.1.2 k hkl
      have hG := (right_good HY.out hkl).1
      have hT := cnt_take HY.out hkl
      have hZ := cnt_take_new HY.out hkl
      have hBd := fitsB_bad (xs := xs) hkl
      obtain ⟨m, hm⟩ : ∃ m, m = (ys.getD k zr).1 := ⟨_, rfl⟩
      obtain ⟨c, hc⟩ : ∃ c, c = (ys.getD k zr).2 := ⟨_, rfl⟩
      have EM : Hid (m = (ys.getD k zr).1) := hm
      have EC : Hid (c = (ys.getD k zr).2) := hc
      rw [← hm, ← hc] at hI hG
      simp only [← hm, ← hc] at hT hZ hBd
      rw [← hm] at c0
      rw [← hc] at c1
      have I : Hid (In64 m) := hI.1
      obtain ⟨v, hv⟩ : ∃ v, v = cntF os m := ⟨_, rfl⟩
      have hv2 : v = cntF xs m := by rw [hv, hH.out.2 m]; unfold sumC; rw [hZ]; omega
      have hvr := cntF_range hH.out.1 m
      rw [← hv] at hvr
      have hcr : 1 ≤ c ∧ c ≤ 1048576 := hG.2
      have EV2 : Hid (v = cntF xs m) := hv2
      have IV : Hid (In64 (v + c)) := (show In64 (v + c) by unfold In64; omega)
      have NH : Hid (v + c ≤ 1048576 → Has (sumC xs (ys.take (k + 1))) (withF os m (v + c))) := fun hle => (withF_has hH.out.1 hG.1 (by omega) hle).of fun x => by
        unfold setC sumC
        rw [hT x]
        by_cases hxm : x = m
        · rw [if_pos hxm, if_pos hxm, hxm]; omega
        · rw [if_neg hxm, if_neg hxm]; exact hH.out.2 x
      have BD : Hid (¬ v + c ≤ 1048576 → fitsB xs ys = false) := fun h => hBd (by rw [← hv2]; exact h)
      have SO : Hid (∀ q, Calls Try.prog 13 #[.slice oa ol oc, .int .i64 m] (wr.drewN q) fun e w' => e = .returned (.int .i64 v) ∧ ∃ n, w' = (wr.drewN q).drewN n) := fun q => by
        rw [hv, ← countB_right hH.out.1]
        exact rcount_q oa ol oc os m _ (hB.out.below (below_drewN (Below.refl _ _) _)) (by omega)
      clear hat hm hc hI hG hT hZ hBd hkl hv hv2
      have hws := hnx.size
      by_cases hov : 1048576 < v + c
      · have F : Hid (fitsB xs ys = false) := BD.out (by omega)
        go_wp2
        go_quiet (first | (go_at_call 13; refine Calls.quiet_of (SO.out _)))
        go_wp2
        go_ret2
        exact ⟨.inl ⟨F.out, rfl⟩, below_drewN hnx _⟩
      · have N3 : Hid (∀ j, j < k + 1 → cntF xs (ys.getD j zr).1 + (ys.getD j zr).2 ≤ 1048576) := fun j hj => by
          rcases Nat.lt_or_ge j k with h | h
          · exact hF.out j h
          · obtain rfl : j = k := by omega
            rw [← EM.out, ← EC.out, ← EV2.out]; omega
        have N1 : Hid (Has (sumC xs (ys.take (k + 1))) (withF os m (v + c))) := NH.out (by omega)
        have WI : Hid (∀ wx, Below wr.heap.size wr wx → Calls Try.prog 37 #[.slice oa ol oc, .int .i64 m, .int .i64 (v + c)] wx fun e w' => ∃ a' l' c', e = .returned (.slice a' l' c') ∧ Hid (Bags w' a' l' (withF os m (v + c)) ∧ l' ≤ ol + 1) ∧ Below wr.heap.size wr w') := with_from oa ol oc os m (v + c) wr hB.out (by omega) I.out IV.out
        clear NH BD
        go_wp2
        go_quiet (first | (go_at_call 13; refine Calls.quiet_of (SO.out _)))
        go_wp2_with (go_at_call 37; refine (WI.out _ (below_drewN (Below.refl _ _) _)).mono ?_; rintro e w6 ⟨ra, rl, rc, he, hR, hby⟩; subst he)
        have NB : Hid (Bags w6 ra rl (withF os m (v + c))) := hR.out.1
        have hrl := hR.out.2
        have N2 : Below w.heap.size w w6 := then_ hnx hby
        clear hR hby
        go_roundw
        case rel => exact ⟨k + 1, ra, rl, rc, _, by omega, by go_num, rfl, by omega, N1, NB, N3, N2⟩
        case measure => simp [intOf]; omega
    · obtain rfl : k = lb := by omega
      have E : ys.take k = ys := List.take_of_length_le (by rw [LB.out]; omega)
      have F : Hid (fitsB xs ys = true) := fitsB_good fun j hj => hF.out j (by rw [LB.out] at hj; exact hj)
      have M2 : Hid (Has (sumC xs ys) os) := (show Has _ _ by have := hH.out; rw [E] at this; exact this)
      clear hH hF E
      go_wp2
      go_ret2
      exact ⟨.inr ⟨F.out, oa, ol, oc, os, rfl, ⟨M2.out, hol⟩, hB.out⟩, hnx⟩
end Go.Proofs.Ytoinepmlbcnbgaa.Bag
