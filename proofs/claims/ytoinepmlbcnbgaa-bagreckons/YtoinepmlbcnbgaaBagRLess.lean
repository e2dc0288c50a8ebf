/- The document's own Less and Most: contracts of the calls, over the turned program. -/
import Derived.Test.YtoinepmlbcnbgaaBagRSum
import Derived.Test.YtoinepmlbcnbgaaBagLess
namespace Go.Proofs.Ytoinepmlbcnbgaa.Bag
open Go.RowKit Go.Maps Go.Proofs.Ytoinepmlbcnbgaa.Frame
set_option linter.unusedVariables false
attribute [local go_sem ↓] Go.wp_at_zero Go.wp_at_succ

set_option maxHeartbeats 4000000 in
theorem rless_ok (a b : Option Addr) (la ca lb cb : Nat) (xs ys : List Row) (w : World) (ha : Bags w a la xs) (hb : Bags w b lb ys) (hla : la ≤ 10000) (hlb : lb ≤ 10000) (hx : RightP xs) (hy : RightP ys) (hc : coversB xs ys = true) :
    Calls Try.prog 25 #[.slice a la ca, .slice b lb cb] w fun e w' => RPost true 10 w (la + lb) (lessC xs ys) e w' := by
  have HA : Hid (Bags w a la xs) := ha
  have HB : Hid (Bags w b lb ys) := hb
  have HX : Hid (RightP xs) := hx
  have HY : Hid (RightP ys) := hy
  have LB : Hid (ys.length = lb) := hb.1.1
  have R0 : Hid (rightB xs = true) := rightB_iff.2 hx
  have R1 : Hid (rightB ys = true) := rightB_iff.2 hy
  have CV : Hid (∀ m, cntF ys m ≤ cntF xs m) := (show ∀ m, _ by rw [covers_within hx hy] at hc; exact (within_iff hy hx).1 hc)
  have WB : Hid (withinB ys xs = true) := (show _ = _ by rw [← covers_within hx hy]; exact hc)
  clear hc
  clear ha hb hx hy
  go_enter Try.func25, Try.ntmps25
  go_wp2_with fail
  refine (rright_q _ _ _ xs _ HA.out (by omega)).mono ?_
  rintro e w1 ⟨he, n1, hw⟩
  subst he
  have B1 : Hid (Below w.heap.size w w1) := (show Below w.heap.size w w1 by rw [hw]; exact below_drewN (Below.refl _ _) _)
  clear hw
  rw [R0.out]
  go_wp2_with fail
  refine (rright_q _ _ _ ys _ (HB.out.below B1.out) (by omega)).mono ?_
  rintro e w2 ⟨he, n2, hw⟩
  subst he
  have B2 : Hid (Below w.heap.size w w2) := (show Below w.heap.size w w2 by rw [hw]; exact below_drewN B1.out _)
  clear hw B1
  rw [R1.out]
  go_wp2_with fail
  refine (rwithin_q _ _ _ _ _ _ ys xs _ (HB.out.below B2.out) (HA.out.below B2.out) (by omega) (by omega)).mono ?_
  rintro e w4 ⟨he, n4, hw⟩
  subst he
  have B4 : Hid (Below w.heap.size w w4) := (show Below w.heap.size w w4 by rw [hw]; exact below_drewN B2.out _)
  clear hw B2
  rw [WB.out]
  obtain ⟨g, gc, w3, hr, hO, hb3⟩ := copy_bags w4 23 a la ca xs (HA.out.below B4.out) (by omega)
  have CR : Hid (_ = _) := hr
  have O0 : Hid (Bags w3 (some ⟨g, 0, none⟩) la xs) := hO.bags
  have B3 : Below w.heap.size w w3 := then_ B4.out hb3
  clear hr hO hb3 B4
  go_wp2_with (at_builtin; refine wpList_append_run rfl _ _ 23 23 rfl rfl rfl CR.out ?_)
  clear CR
  go_loopw [6, 7] (fun v i wr => ∃ (k : Nat) (oa : Option Addr) (ol oc : Nat) (os : List Row), k ≤ lb ∧ i = .int .i64 k ∧ v = .slice oa ol oc ∧ ol ≤ la + k ∧ Hid (Has (lessC xs (ys.take k)) os) ∧ Hid (Bags wr oa ol os) ∧ Below w.heap.size w wr) (fun _ i _ => lb - (intOf i).toNat)
  case atStart => exact ⟨0, some ⟨g, 0, none⟩, la, gc, xs, by omega, rfl, rfl, by omega, (show Has _ _ from (Has.self HX.out).of fun m => by simp [lessC, cntF]), O0, B3⟩
  case round =>
    obtain ⟨k, oa, ol, oc, os, hk, rfl, rfl, hol, hH, hB, hnx⟩ := hrel
    clear B3 O0
    by_cases hlt : k < lb
    · have hlt' : (k : Int) < lb := by omega
      obtain ⟨bb, off, hbe, hbl, hat⟩ := (HB.out.below hnx).row (k := k) hlt
      subst hbe
      have hkl : k < ys.length := by rw [LB.out]; exact hlt
      obtain ⟨c0, c1⟩ := hat k hkl
      have hI := HB.out.1.2 k hkl
      have hG := (right_good HY.out hkl).1
      have hT := cnt_take HY.out hkl
      have hZ := cnt_take_new HY.out hkl
      have hAt := cnt_at HY.out hkl
      obtain ⟨m, hm⟩ : ∃ m, m = (ys.getD k zr).1 := ⟨_, rfl⟩
      obtain ⟨c, hc⟩ : ∃ c, c = (ys.getD k zr).2 := ⟨_, rfl⟩
      rw [← hm, ← hc] at hI hG hAt
      simp only [← hm, ← hc] at hT hZ
      rw [← hm] at c0
      rw [← hc] at c1
      have I : Hid (In64 m) := hI.1
      obtain ⟨v, hv⟩ : ∃ v, v = cntF xs m := ⟨_, rfl⟩
      have hvr := cntF_range HX.out m
      rw [← hv] at hvr
      have hcr : 1 ≤ c ∧ c ≤ 1048576 := hG.2
      have hcv : c ≤ v := by have := CV.out m; rw [hAt, ← hv] at this; exact this
      obtain ⟨n, hn⟩ : ∃ n, n = v - c := ⟨_, rfl⟩
      have HN : Hid (IntKind.i64.wrap (v - c) = n) := (show _ = _ by rw [wrap_in (by unfold In64; omega), hn])
      have IV : Hid (In64 n) := (show In64 n by unfold In64; omega)
      have N1 : Hid (Has (lessC xs (ys.take (k + 1))) (withF os m n)) := (show Has _ _ from (withF_has hH.out.1 hG.1 (by omega) (by omega)).of fun x => by
        unfold setC lessC
        rw [hT x]
        by_cases hxm : x = m
        · rw [if_pos hxm, if_pos hxm, hxm, ← hv, hn]
        · rw [if_neg hxm, if_neg hxm]; exact hH.out.2 x)
      have CO : Hid (∀ wx, Below wr.heap.size wr wx → Calls Try.prog 13 #[.slice a la ca, .int .i64 m] wx fun e w' => e = .returned (.int .i64 v) ∧ Below wr.heap.size wr w') := (show ∀ _, _ from hv ▸ rcount_from a la ca xs m wr (HA.out.below hnx) (by omega) HX.out)
      have WI : Hid (∀ wx, Below wr.heap.size wr wx → Calls Try.prog 37 #[.slice oa ol oc, .int .i64 m, .int .i64 n] wx fun e w' => ∃ a' l' c', e = .returned (.slice a' l' c') ∧ Hid (Bags w' a' l' (withF os m n) ∧ l' ≤ ol + 1) ∧ Below wr.heap.size wr w') := with_from oa ol oc os m n wr hB.out (by omega) I.out IV.out
      clear hat hm hc hI hG hT hZ hAt hkl hv hn
      go_wp2
      go_region_held3 (fun w' => w'.cell? ⟨bb, off + k * 2, none⟩ = some (.int .i64 m) ∧ w'.cell? ⟨bb, off + k * 2 + 1, none⟩ = some (.int .i64 c)) (go_keep)
        (first
          | (go_at_call 13; refine (CO.out _ (by first | exact (Below.refl _ _).drew | exact hbx | exact hby)).mono ?_; rintro e w5 ⟨he, hbx⟩; subst he; have g5 := (hbx.cell (p := ⟨bb, off + k * 2, none⟩) hbl).trans c0; have g6 := (hbx.cell (p := ⟨bb, off + k * 2 + 1, none⟩) hbl).trans c1)
          | (go_at_call 37; rw [HN.out]; refine (WI.out _ (by first | exact hbx | exact (Below.refl _ _).drew)).mono ?_; rintro e w6 ⟨ra, rl, rc, he, hR, hby⟩; subst he; have g7 := (hby.cell (p := ⟨bb, off + k * 2, none⟩) hbl).trans c0; have g8 := (hby.cell (p := ⟨bb, off + k * 2 + 1, none⟩) hbl).trans c1))
      have NB : Hid (Bags w6 ra rl (withF os m n)) := hR.out.1
      have hrl := hR.out.2
      have N2 : Below w.heap.size w w6 := then_ hnx hby
      clear hR hby
      go_wp2
      go_roundw
      case rel => exact ⟨k + 1, ra, rl, rc, _, by omega, by go_num, rfl, by omega, N1, NB, N2⟩
      case measure => simp [intOf]; omega
    · obtain rfl : k = lb := by omega
      have E : ys.take k = ys := List.take_of_length_le (by rw [LB.out]; omega)
      have M2 : Hid (Has (lessC xs ys) os) := (show Has _ _ by have := hH.out; rw [E] at this; exact this)
      clear hH E
      go_wp2
      go_ret2
      exact ⟨.inr ⟨rfl, oa, ol, oc, os, rfl, ⟨M2.out, hol⟩, hB.out⟩, hnx⟩

set_option maxHeartbeats 4000000 in
theorem rmost_right (a b : Option Addr) (la ca lb cb : Nat) (xs ys : List Row) (w : World) (ha : Bags w a la xs) (hb : Bags w b lb ys) (hla : la ≤ 10000) (hlb : lb ≤ 10000) (hx : RightP xs) (hy : RightP ys) :
    Calls Try.prog 27 #[.slice a la ca, .slice b lb cb] w fun e w' => ∃ rs, Has (mostC xs ys) rs ∧ BagPost w (la + lb) rs e w' := by
  have HA : Hid (Bags w a la xs) := ha
  have HB : Hid (Bags w b lb ys) := hb
  have HX : Hid (RightP xs) := hx
  have HY : Hid (RightP ys) := hy
  have LB : Hid (ys.length = lb) := hb.1.1
  have R0 : Hid (rightB xs = true) := rightB_iff.2 hx
  have R1 : Hid (rightB ys = true) := rightB_iff.2 hy
  have Z0 : Hid (∀ m, mostC xs [] m = cntF xs m) := fun m => by have := cntF_range hx m; unfold mostC; simp only [cntF]; omega
  clear ha hb hx hy
  go_enter Try.func27, Try.ntmps27
  go_wp2_with fail
  refine (rright_q _ _ _ xs _ HA.out (by omega)).mono ?_
  rintro e w1 ⟨he, n1, hw⟩
  subst he
  have B1 : Hid (Below w.heap.size w w1) := (show Below w.heap.size w w1 by rw [hw]; exact below_drewN (Below.refl _ _) _)
  clear hw
  rw [R0.out]
  go_wp2_with fail
  refine (rright_q _ _ _ ys _ (HB.out.below B1.out) (by omega)).mono ?_
  rintro e w2 ⟨he, n2, hw⟩
  subst he
  have B2 : Hid (Below w.heap.size w w2) := (show Below w.heap.size w w2 by rw [hw]; exact below_drewN B1.out _)
  clear hw B1
  rw [R1.out]
  obtain ⟨w4, hw4⟩ : ∃ w4, w4 = w2 := ⟨_, rfl⟩
  have B4 : Hid (Below w.heap.size w w4) := (show Below w.heap.size w w4 by rw [hw4]; exact B2.out)
  subst hw4
  clear B2
  obtain ⟨g, gc, w3, hr, hO, hb3⟩ := copy_bags w4 23 a la ca xs (HA.out.below B4.out) (by omega)
  have CR : Hid (_ = _) := hr
  have O0 : Hid (Bags w3 (some ⟨g, 0, none⟩) la xs) := hO.bags
  have B3 : Below w.heap.size w w3 := then_ B4.out hb3
  clear hr hO hb3 B4
  go_wp2_with (at_builtin; refine wpList_append_run rfl _ _ 23 23 rfl rfl rfl CR.out ?_)
  clear CR
  go_loopw [5, 6] (fun v i wr => ∃ (k : Nat) (oa : Option Addr) (ol oc : Nat) (os : List Row), k ≤ lb ∧ i = .int .i64 k ∧ v = .slice oa ol oc ∧ ol ≤ la + k ∧ Hid (Has (mostC xs (ys.take k)) os) ∧ Hid (Bags wr oa ol os) ∧ Below w.heap.size w wr) (fun _ i _ => lb - (intOf i).toNat)
  case atStart => exact ⟨0, some ⟨g, 0, none⟩, la, gc, xs, by omega, rfl, rfl, by omega, (show Has _ _ from (Has.self HX.out).of fun m => by rw [List.take_zero, Z0.out]), O0, B3⟩
  case round =>
    obtain ⟨k, oa, ol, oc, os, hk, rfl, rfl, hol, hH, hB, hnx⟩ := hrel
    clear B3 O0
    by_cases hlt : k < lb
    · have hlt' : (k : Int) < lb := by omega
      obtain ⟨bb, off, hbe, hbl, hat⟩ := (HB.out.below hnx).row (k := k) hlt
      subst hbe
      have hkl : k < ys.length := by rw [LB.out]; exact hlt
      obtain ⟨c0, c1⟩ := hat k hkl
      have hI := HB.out.1.2 k hkl
      have hG := (right_good HY.out hkl).1
      have hT := cnt_take HY.out hkl
      have hZ := cnt_take_new HY.out hkl
      have hAt := cnt_at HY.out hkl
      obtain ⟨m, hm⟩ : ∃ m, m = (ys.getD k zr).1 := ⟨_, rfl⟩
      obtain ⟨c, hc⟩ : ∃ c, c = (ys.getD k zr).2 := ⟨_, rfl⟩
      rw [← hm, ← hc] at hI hG hAt
      simp only [← hm, ← hc] at hT hZ
      rw [← hm] at c0
      rw [← hc] at c1
      have I : Hid (In64 m) := hI.1
      obtain ⟨v, hv⟩ : ∃ v, v = cntF xs m := ⟨_, rfl⟩
      have hvr := cntF_range HX.out m
      rw [← hv] at hvr
      have hcr : 1 ≤ c ∧ c ≤ 1048576 := hG.2
      obtain ⟨n, hn⟩ : ∃ n, n = max v c := ⟨_, rfl⟩
      have HN : Hid (max v c = n) := hn.symm
      have IV : Hid (In64 n) := (show In64 n by unfold In64; omega)
      have N1 : Hid (Has (mostC xs (ys.take (k + 1))) (withF os m n)) := (show Has _ _ from (withF_has hH.out.1 hG.1 (by omega) (by omega)).of fun x => by
        unfold setC mostC
        rw [hT x]
        by_cases hxm : x = m
        · rw [if_pos hxm, if_pos hxm, hxm, ← hv, hn]
        · rw [if_neg hxm, if_neg hxm]; exact hH.out.2 x)
      have CO : Hid (∀ wx, Below wr.heap.size wr wx → Calls Try.prog 13 #[.slice a la ca, .int .i64 m] wx fun e w' => e = .returned (.int .i64 v) ∧ Below wr.heap.size wr w') := (show ∀ _, _ from hv ▸ rcount_from a la ca xs m wr (HA.out.below hnx) (by omega) HX.out)
      have WI : Hid (∀ wx, Below wr.heap.size wr wx → Calls Try.prog 37 #[.slice oa ol oc, .int .i64 m, .int .i64 n] wx fun e w' => ∃ a' l' c', e = .returned (.slice a' l' c') ∧ Hid (Bags w' a' l' (withF os m n) ∧ l' ≤ ol + 1) ∧ Below wr.heap.size wr w') := with_from oa ol oc os m n wr hB.out (by omega) I.out IV.out
      clear hat hm hc hI hG hT hZ hAt hkl hv hn
      go_wp2
      go_region_held3 (fun w' => w'.cell? ⟨bb, off + k * 2, none⟩ = some (.int .i64 m) ∧ w'.cell? ⟨bb, off + k * 2 + 1, none⟩ = some (.int .i64 c)) (go_keep)
        (first
          | (go_at_call 13; refine (CO.out _ (by first | exact (Below.refl _ _).drew | exact hbx | exact hby)).mono ?_; rintro e w5 ⟨he, hbx⟩; subst he; have g5 := (hbx.cell (p := ⟨bb, off + k * 2, none⟩) hbl).trans c0; have g6 := (hbx.cell (p := ⟨bb, off + k * 2 + 1, none⟩) hbl).trans c1)
          | (go_at_call 37; rw [HN.out]; refine (WI.out _ (by first | exact hbx | exact (Below.refl _ _).drew)).mono ?_; rintro e w6 ⟨ra, rl, rc, he, hR, hby⟩; subst he; have g7 := (hby.cell (p := ⟨bb, off + k * 2, none⟩) hbl).trans c0; have g8 := (hby.cell (p := ⟨bb, off + k * 2 + 1, none⟩) hbl).trans c1))
      have NB : Hid (Bags w6 ra rl (withF os m n)) := hR.out.1
      have hrl := hR.out.2
      have N2 : Below w.heap.size w w6 := then_ hnx hby
      clear hR hby
      go_wp2
      go_roundw
      case rel => exact ⟨k + 1, ra, rl, rc, _, by omega, by go_num, rfl, by omega, N1, NB, N2⟩
      case measure => simp [intOf]; omega
    · obtain rfl : k = lb := by omega
      have E : ys.take k = ys := List.take_of_length_le (by rw [LB.out]; omega)
      have M2 : Hid (Has (mostC xs ys) os) := (show Has _ _ by have := hH.out; rw [E] at this; exact this)
      clear hH E
      go_wp2
      go_ret
      exact ⟨os, M2.out, ⟨⟨_, _, _, rfl, hB.out, hol⟩, hnx⟩⟩

end Go.Proofs.Ytoinepmlbcnbgaa.Bag
