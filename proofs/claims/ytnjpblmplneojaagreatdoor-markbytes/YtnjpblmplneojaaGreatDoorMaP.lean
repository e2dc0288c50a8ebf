/- Contracts and plain mathematics, together: BagRSum, BagRLess, BagRCompare. -/
import Derived.Test.YtnjpblmplneojaaGreatDoorMaS
import Derived.Test.YtnjpblmplneojaaGreatDoorMaN
import Derived.Test.YtnjpblmplneojaaGreatDoorMaK
/- The document's own Sum: a contract of the call, over the turned program. -/
namespace Go.Proofs.YtnjpblmplneojaaGreatDoor.Bag
open Go.RowKit Go.Maps Go.Proofs.YtnjpblmplneojaaGreatDoor.Frame
set_option linter.unusedVariables false
attribute [local go_sem ↓] Go.wp_at_zero Go.wp_at_succ

/-- the document's own answers of two bags -/
def RPost (ok : Bool) (bad : Int) (w : World) (n : Nat) (c : Int → Int) (e : Ending) (w' : World) : Prop :=
  ((ok = false ∧ e = .returned (.tuple #[.slice none 0 0, .int .i64 bad])) ∨ (ok = true ∧ ∃ a len cap rs, e = .returned (.tuple #[.slice a len cap, .int .i64 0]) ∧ (Has c rs ∧ len ≤ n) ∧ Bags w' a len rs)) ∧ Below w.heap.size w w'
end Go.Proofs.YtnjpblmplneojaaGreatDoor.Bag
/- The document's own Less and Most: contracts of the calls, over the turned program. -/
namespace Go.Proofs.YtnjpblmplneojaaGreatDoor.Bag
open Go.RowKit Go.Maps Go.Proofs.YtnjpblmplneojaaGreatDoor.Frame
set_option linter.unusedVariables false
attribute [local go_sem ↓] Go.wp_at_zero Go.wp_at_succ

set_option maxHeartbeats 4000000 in
theorem rmost_right (a b : Option Addr) (la ca lb cb : Nat) (xs ys : List Row) (w : World) (ha : Bags w a la xs) (hb : Bags w b lb ys) (hla : la ≤ 10000) (hlb : lb ≤ 10000) (hx : RightP xs) (hy : RightP ys) :
    Calls Tryz.prog 63 #[.slice a la ca, .slice b lb cb] w fun e w' => ∃ rs, Has (mostC xs ys) rs ∧ BagPost w (la + lb) rs e w' := by
  have HA : Hid (Bags w a la xs) := ha
  have HB : Hid (Bags w b lb ys) := hb
  have HX : Hid (RightP xs) := hx
  have HY : Hid (RightP ys) := hy
  have LB : Hid (ys.length = lb) := hb.1.1
  have R0 : Hid (rightB xs = true) := rightB_iff.2 hx
  have R1 : Hid (rightB ys = true) := rightB_iff.2 hy
  have Z0 : Hid (∀ m, mostC xs [] m = cntF xs m) := fun m => by have := cntF_range hx m; unfold mostC; simp only [cntF]; omega
  clear ha hb hx hy
  go_enter Tryz.func63, Tryz.ntmps63
  go_wp2_with fail
  refine (rright_q _ _ _ xs _ HA.out (by omega)).mono ?_
  rintro e w1 ⟨he, n1, hw⟩
  subst he
  have B1 : Hid (Below w.heap.size w w1) := (show Below w.heap.size w w1 by rw [hw]; exact below_drewN (Below.refl _ _) _)
  clear hw
  rw [R0.out]
  go_wp2_with fail
  refine (rright_q _ _ _ ys _ (HB.out.below B1.out) (by omega)).mono ?_
  rintro e w2 ⟨he, n2, hw⟩
  subst he
  have B2 : Hid (Below w.heap.size w w2) := (show Below w.heap.size w w2 by rw [hw]; exact below_drewN B1.out _)
  clear hw B1
  rw [R1.out]
  obtain ⟨w4, hw4⟩ : ∃ w4, w4 = w2 := ⟨_, rfl⟩
  have B4 : Hid (Below w.heap.size w w4) := (show Below w.heap.size w w4 by rw [hw4]; exact B2.out)
  subst hw4
  clear B2
  obtain ⟨g, gc, w3, hr, hO, hb3⟩ := copy_bags w4 36 a la ca xs (HA.out.below B4.out) (by omega)
  have CR : Hid (_ = _) := hr
  have O0 : Hid (Bags w3 (some ⟨g, 0, none⟩) la xs) := hO.bags
  have B3 : Below w.heap.size w w3 := then_ B4.out hb3
  clear hr hO hb3 B4
  go_wp2_with (at_builtin; refine wpList_append_run rfl _ _ 36 36 rfl rfl rfl CR.out ?_)
  clear CR
  go_loopw [5, 6] (fun v i wr => ∃ (k : Nat) (oa : Option Addr) (ol oc : Nat) (os : List Row), k ≤ lb ∧ i = .int .i64 k ∧ v = .slice oa ol oc ∧ ol ≤ la + k ∧ Hid (Has (mostC xs (ys.take k)) os) ∧ Hid (Bags wr oa ol os) ∧ Below w.heap.size w wr) (fun _ i _ => lb - (intOf i).toNat)
  case atStart => exact ⟨0, some ⟨g, 0, none⟩, la, gc, xs, by omega, rfl, rfl, by omega, (show Has _ _ from (Has.self HX.out).of fun m => by rw [List.take_zero, Z0.out]), O0, B3⟩
  case round =>
    obtain ⟨k, oa, ol, oc, os, hk, rfl, rfl, hol, hH, hB, hnx⟩ := hrel
    clear B3 O0
    by_cases hlt : k < lb
    · have hlt' : (k : Int) < lb := by omega
      obtain ⟨bb, off, hbe, hbl, hat⟩ := (HB.out.below hnx).row (k := k) hlt
      subst hbe
      have hkl : k < ys.length := by rw [LB.out]; exact hlt
      obtain ⟨c0, c1⟩ := hat k hkl
      have hI := HB.out.1.2 k hkl
      have hG := (right_good HY.out hkl).1
      have hT := cnt_take HY.out hkl
      have hZ := cnt_take_new HY.out hkl
      have hAt := cnt_at HY.out hkl
      obtain ⟨m, hm⟩ : ∃ m, m = (ys.getD k zr).1 := ⟨_, rfl⟩
      obtain ⟨c, hc⟩ : ∃ c, c = (ys.getD k zr).2 := ⟨_, rfl⟩
      rw [← hm, ← hc] at hI hG hAt
      simp only [← hm, ← hc] at hT hZ
      rw [← hm] at c0
      rw [← hc] at c1
      have I : Hid (In64 m) := hI.1
      obtain ⟨v, hv⟩ : ∃ v, v = cntF xs m := ⟨_, rfl⟩
      have hvr := cntF_range HX.out m
      rw [← hv] at hvr
      have hcr : 1 ≤ c ∧ c ≤ 1048576 := hG.2
      obtain ⟨n, hn⟩ : ∃ n, n = max v c := ⟨_, rfl⟩
      have HN : Hid (max v c = n) := hn.symm
      have IV : Hid (In64 n) := (show In64 n by unfold In64; omega)
      have N1 : Hid (Has (mostC xs (ys.take (k + 1))) (withF os m n)) := (show Has _ _ from (withF_has hH.out.1 hG.1 (by omega) (by omega)).of fun x => by
        unfold setC mostC
        rw [hT x]
        by_cases hxm : x = m
        · rw [if_pos hxm, if_pos hxm, hxm, ← hv, hn]
        · rw [if_neg hxm, if_neg hxm]; exact hH.out.2 x)
      have CO : Hid (∀ wx, Below wr.heap.size wr wx → Calls Tryz.prog 61 #[.slice a la ca, .int .i64 m] wx fun e w' => e = .returned (.int .i64 v) ∧ Below wr.heap.size wr w') := (show ∀ _, _ from hv ▸ rcount_from a la ca xs m wr (HA.out.below hnx) (by omega) HX.out)
      have WI : Hid (∀ wx, Below wr.heap.size wr wx → Calls Tryz.prog 80 #[.slice oa ol oc, .int .i64 m, .int .i64 n] wx fun e w' => ∃ a' l' c', e = .returned (.slice a' l' c') ∧ Hid (Bags w' a' l' (withF os m n) ∧ l' ≤ ol + 1) ∧ Below wr.heap.size wr w') := with_from oa ol oc os m n wr hB.out (by omega) I.out IV.out
      clear hat hm hc hI hG hT hZ hAt hkl hv hn
      go_wp2
      go_region_held3 (fun w' => w'.cell? ⟨bb, off + k * 2, none⟩ = some (.int .i64 m) ∧ w'.cell? ⟨bb, off + k * 2 + 1, none⟩ = some (.int .i64 c)) (go_keep)
        (first
          | (go_at_call 61; refine (CO.out _ (by first | exact (Below.refl _ _).drew | exact hbx | exact hby)).mono ?_; rintro e w5 ⟨he, hbx⟩; subst he; have g5 := (hbx.cell (p := ⟨bb, off + k * 2, none⟩) hbl).trans c0; have g6 := (hbx.cell (p := ⟨bb, off + k * 2 + 1, none⟩) hbl).trans c1)
          | (go_at_call 80; rw [HN.out]; refine (WI.out _ (by first | exact hbx | exact (Below.refl _ _).drew)).mono ?_; rintro e w6 ⟨ra, rl, rc, he, hR, hby⟩; subst he; have g7 := (hby.cell (p := ⟨bb, off + k * 2, none⟩) hbl).trans c0; have g8 := (hby.cell (p := ⟨bb, off + k * 2 + 1, none⟩) hbl).trans c1))
      have NB : Hid (Bags w6 ra rl (withF os m n)) := hR.out.1
      have hrl := hR.out.2
      have N2 : Below w.heap.size w w6 := then_ hnx hby
      clear hR hby
      go_wp2
      go_roundw
      case rel => exact ⟨k + 1, ra, rl, rc, _, by omega, by go_num, rfl, by omega, N1, NB, N2⟩
      case measure => simp [intOf]; omega
    · obtain rfl : k = lb := by omega
      have E : ys.take k = ys := List.take_of_length_le (by rw [LB.out]; omega)
      have M2 : Hid (Has (mostC xs ys) os) := (show Has _ _ by have := hH.out; rw [E] at this; exact this)
      clear hH E
      go_wp2
      go_ret
      exact ⟨os, M2.out, ⟨⟨_, _, _, rfl, hB.out, hol⟩, hnx⟩⟩

end Go.Proofs.YtnjpblmplneojaaGreatDoor.Bag
/- The document's own answers of bags that are not right; its Compare: contracts of the calls, over the turned program. -/
namespace Go.Proofs.YtnjpblmplneojaaGreatDoor.Bag
open Go.RowKit Go.Maps Go.Proofs.YtnjpblmplneojaaGreatDoor.Frame
set_option linter.unusedVariables false

set_option maxHeartbeats 1000000 in
theorem rmost_wrong0 (a b : Option Addr) (la ca lb cb : Nat) (xs ys : List Row) (w : World) (ha : Bags w a la xs) (hb : Bags w b lb ys) (hla : la ≤ 10000) (hlb : lb ≤ 10000) (R0 : Hid (rightB xs = false)) :
    Calls Tryz.prog 63 #[.slice a la ca, .slice b lb cb] w fun e w' => e = .returned (.slice none 0 0) ∧ Below w.heap.size w w' := by
  have HA : Hid (Bags w a la xs) := ha
  have HB : Hid (Bags w b lb ys) := hb
  clear ha hb
  go_enter Tryz.func63, Tryz.ntmps63
  go_wp2_with fail
  refine (rright_q _ _ _ xs _ HA.out (by omega)).mono ?_
  rintro e w1 ⟨he, n1, hw⟩
  subst he
  have B1 : Hid (Below w.heap.size w w1) := (show Below w.heap.size w w1 by rw [hw]; exact below_drewN (Below.refl _ _) _)
  clear hw
  rw [R0.out]
  go_wp2
  go_ret
  exact ⟨rfl, B1.out⟩

set_option maxHeartbeats 1000000 in
theorem rmost_wrong1 (a b : Option Addr) (la ca lb cb : Nat) (xs ys : List Row) (w : World) (ha : Bags w a la xs) (hb : Bags w b lb ys) (hla : la ≤ 10000) (hlb : lb ≤ 10000) (R0 : Hid (rightB xs = true)) (R1 : Hid (rightB ys = false)) :
    Calls Tryz.prog 63 #[.slice a la ca, .slice b lb cb] w fun e w' => e = .returned (.slice none 0 0) ∧ Below w.heap.size w w' := by
  have HA : Hid (Bags w a la xs) := ha
  have HB : Hid (Bags w b lb ys) := hb
  clear ha hb
  go_enter Tryz.func63, Tryz.ntmps63
  go_wp2_with fail
  refine (rright_q _ _ _ xs _ HA.out (by omega)).mono ?_
  rintro e w1 ⟨he, n1, hw⟩
  subst he
  have B1 : Hid (Below w.heap.size w w1) := (show Below w.heap.size w w1 by rw [hw]; exact below_drewN (Below.refl _ _) _)
  clear hw
  rw [R0.out]
  go_wp2_with fail
  refine (rright_q _ _ _ ys _ (HB.out.below B1.out) (by omega)).mono ?_
  rintro e w2 ⟨he, n2, hw⟩
  subst he
  have B2 : Hid (Below w.heap.size w w2) := (show Below w.heap.size w w2 by rw [hw]; exact below_drewN B1.out _)
  clear hw B1
  rw [R1.out]
  go_wp2
  go_ret
  exact ⟨rfl, B2.out⟩

theorem rmost_wrong (a b : Option Addr) (la ca lb cb : Nat) (xs ys : List Row) (w : World) (ha : Bags w a la xs) (hb : Bags w b lb ys) (hla : la ≤ 10000) (hlb : lb ≤ 10000) (hr : (rightB xs && rightB ys) = false) :
    Calls Tryz.prog 63 #[.slice a la ca, .slice b lb cb] w fun e w' => e = .returned (.slice none 0 0) ∧ Below w.heap.size w w' := by
  cases h0 : rightB xs with
  | false => exact rmost_wrong0 a b la ca lb cb xs ys w ha hb hla hlb h0
  | true =>
    rw [h0, Bool.true_and] at hr
    exact rmost_wrong1 a b la ca lb cb xs ys w ha hb hla hlb h0 hr

set_option maxHeartbeats 1000000 in
theorem rcompare_wrong0 (a b : Option Addr) (la ca lb cb : Nat) (xs ys : List Row) (w : World) (ha : Bags w a la xs) (hb : Bags w b lb ys) (hla : la ≤ 10000) (hlb : lb ≤ 10000) (R0 : Hid (rightB xs = false)) :
    Calls Tryz.prog 40 #[.slice a la ca, .slice b lb cb] w fun e w' => e = .returned (.int .i64 0) ∧ Below w.heap.size w w' := by
  have HA : Hid (Bags w a la xs) := ha
  have HB : Hid (Bags w b lb ys) := hb
  clear ha hb
  go_enter Tryz.func40, Tryz.ntmps40
  go_wp2_with fail
  refine (rright_q _ _ _ xs _ HA.out (by omega)).mono ?_
  rintro e w1 ⟨he, n1, hw⟩
  subst he
  have B1 : Hid (Below w.heap.size w w1) := (show Below w.heap.size w w1 by rw [hw]; exact below_drewN (Below.refl _ _) _)
  clear hw
  rw [R0.out]
  go_wp2
  go_ret
  exact ⟨rfl, B1.out⟩

set_option maxHeartbeats 1000000 in
theorem rcompare_wrong1 (a b : Option Addr) (la ca lb cb : Nat) (xs ys : List Row) (w : World) (ha : Bags w a la xs) (hb : Bags w b lb ys) (hla : la ≤ 10000) (hlb : lb ≤ 10000) (R0 : Hid (rightB xs = true)) (R1 : Hid (rightB ys = false)) :
    Calls Tryz.prog 40 #[.slice a la ca, .slice b lb cb] w fun e w' => e = .returned (.int .i64 0) ∧ Below w.heap.size w w' := by
  have HA : Hid (Bags w a la xs) := ha
  have HB : Hid (Bags w b lb ys) := hb
  clear ha hb
  go_enter Tryz.func40, Tryz.ntmps40
  go_wp2_with fail
  refine (rright_q _ _ _ xs _ HA.out (by omega)).mono ?_
  rintro e w1 ⟨he, n1, hw⟩
  subst he
  have B1 : Hid (Below w.heap.size w w1) := (show Below w.heap.size w w1 by rw [hw]; exact below_drewN (Below.refl _ _) _)
  clear hw
  rw [R0.out]
  go_wp2_with fail
  refine (rright_q _ _ _ ys _ (HB.out.below B1.out) (by omega)).mono ?_
  rintro e w2 ⟨he, n2, hw⟩
  subst he
  have B2 : Hid (Below w.heap.size w w2) := (show Below w.heap.size w w2 by rw [hw]; exact below_drewN B1.out _)
  clear hw B1
  rw [R1.out]
  go_wp2
  go_ret
  exact ⟨rfl, B2.out⟩

theorem rcompare_wrong (a b : Option Addr) (la ca lb cb : Nat) (xs ys : List Row) (w : World) (ha : Bags w a la xs) (hb : Bags w b lb ys) (hla : la ≤ 10000) (hlb : lb ≤ 10000) (hr : (rightB xs && rightB ys) = false) :
    Calls Tryz.prog 40 #[.slice a la ca, .slice b lb cb] w fun e w' => e = .returned (.int .i64 0) ∧ Below w.heap.size w w' := by
  cases h0 : rightB xs with
  | false => exact rcompare_wrong0 a b la ca lb cb xs ys w ha hb hla hlb h0
  | true =>
    rw [h0, Bool.true_and] at hr
    exact rcompare_wrong1 a b la ca lb cb xs ys w ha hb hla hlb h0 hr

theorem most_zero {xs ys ms : List Row} (hx : RightP xs) (hy : RightP ys) (h : Has (mostC xs ys) ms) {m : Int} (hm : ∀ r ∈ ms, r.1 ≠ m) : cntF xs m = 0 ∧ cntF ys m = 0 := by
  have h1 := h.2 m
  rw [cntF_not hm] at h1
  have r1 := cntF_range hx m
  have r2 := cntF_range hy m
  unfold mostC at h1
  omega

theorem most_first {xs ys ms : List Row} (hx : RightP xs) (hy : RightP ys) (h : Has (mostC xs ys) ms) {k : Nat} (hk : k < ms.length) (hq : ∀ j, j < k → cntF xs (ms.getD j zr).1 = cntF ys (ms.getD j zr).1) {x : Int} (hlt : x < (ms.getD k zr).1) : cntF xs x = cntF ys x := by
  by_cases hm : ∃ r ∈ ms, r.1 = x
  · obtain ⟨r, hr, rfl⟩ := hm
    obtain ⟨j, hj, rfl⟩ := List.getElem_of_mem hr
    have hjk : j < k := by
      apply Classical.byContradiction
      intro hn
      rcases Nat.lt_or_ge k j with h1 | h1
      · have := List.pairwise_iff_getElem.1 h.1.1 k j hk hj h1
        rw [getD_get zr hk] at hlt
        omega
      · obtain rfl : j = k := by omega
        rw [getD_get zr hk] at hlt
        omega
    have := hq j hjk
    rwa [getD_get zr hj] at this
  · obtain ⟨h1, h2⟩ := most_zero hx hy h (m := x) (fun r hr e => hm ⟨r, hr, e⟩)
    rw [h1, h2]

theorem most_all {xs ys ms : List Row} (hx : RightP xs) (hy : RightP ys) (h : Has (mostC xs ys) ms) (hq : ∀ j, j < ms.length → cntF xs (ms.getD j zr).1 = cntF ys (ms.getD j zr).1) (x : Int) : cntF xs x = cntF ys x := by
  by_cases hm : ∃ r ∈ ms, r.1 = x
  · obtain ⟨r, hr, rfl⟩ := hm
    obtain ⟨j, hj, rfl⟩ := List.getElem_of_mem hr
    have := hq j hj
    rwa [getD_get zr hj] at this
  · obtain ⟨h1, h2⟩ := most_zero hx hy h (m := x) (fun r hr e => hm ⟨r, hr, e⟩)
    rw [h1, h2]

set_option maxHeartbeats 2000000 in
theorem rcompare_right (a b : Option Addr) (la ca lb cb : Nat) (xs ys : List Row) (w : World) (ha : Bags w a la xs) (hb : Bags w b lb ys) (hla : la ≤ 10000) (hlb : lb ≤ 10000) (hx : RightP xs) (hy : RightP ys) :
    Calls Tryz.prog 40 #[.slice a la ca, .slice b lb cb] w fun e w' => e = .returned (.int .i64 (cmpF xs ys)) ∧ Below w.heap.size w w' := by
  have HA : Hid (Bags w a la xs) := ha
  have HB : Hid (Bags w b lb ys) := hb
  have HX : Hid (RightP xs) := hx
  have HY : Hid (RightP ys) := hy
  have R0 : Hid (rightB xs = true) := rightB_iff.2 hx
  have R1 : Hid (rightB ys = true) := rightB_iff.2 hy
  have CM : Hid (∀ n, Cmp (cntF xs) (cntF ys) n → cmpF xs ys = n) := fun n hn => (cmpF_cmp hx hy).uniq hn
  clear ha hb hx hy
  go_enter Tryz.func40, Tryz.ntmps40
  go_wp2_with fail
  refine (rright_q _ _ _ xs _ HA.out (by omega)).mono ?_
  rintro e w1 ⟨he, n1, hw⟩
  subst he
  have B1 : Hid (Below w.heap.size w w1) := (show Below w.heap.size w w1 by rw [hw]; exact below_drewN (Below.refl _ _) _)
  clear hw
  rw [R0.out]
  go_wp2_with fail
  refine (rright_q _ _ _ ys _ (HB.out.below B1.out) (by omega)).mono ?_
  rintro e w2 ⟨he, n2, hw⟩
  subst he
  have B2 : Hid (Below w.heap.size w w2) := (show Below w.heap.size w w2 by rw [hw]; exact below_drewN B1.out _)
  clear hw B1
  rw [R1.out]
  go_wp2_with fail
  refine (rmost_right _ _ _ _ _ _ xs ys _ (HA.out.below B2.out) (HB.out.below B2.out) hla hlb HX.out HY.out).mono ?_
  rintro e w4 ⟨ms, hM, ⟨⟨ma, ml, mc, he, hBm, hml⟩, hb4⟩⟩
  subst he
  have M : Hid (Has (mostC xs ys) ms) := hM
  have HM : Hid (Bags w4 ma ml ms) := hBm
  have LM : Hid (ms.length = ml) := hBm.1.1
  have B4 : Below w.heap.size w w4 := then_ B2.out hb4
  clear hM hBm hb4 B2
  go_wp2
  go_loopw [6] (fun i wr => ∃ k : Nat, k ≤ ml ∧ i = .int .i64 k ∧ Hid (∀ j, j < k → cntF xs (ms.getD j zr).1 = cntF ys (ms.getD j zr).1) ∧ Hid (Below w4.heap.size w4 wr) ∧ Below w.heap.size w wr) (fun i _ => ml - (intOf i).toNat)
  case atStart => exact ⟨0, by omega, rfl, fun j h => by omega, Below.refl _ _, B4⟩
  case round =>
    obtain ⟨k, hk, rfl, hQ, hB4, hnx⟩ := hrel
    clear B4
    by_cases hlt : k < ml
    · have hlt' : (k : Int) < ml := by omega
      obtain ⟨bb, off, hbe, hbl, hat⟩ := (HM.out.below hB4.out).row (k := k) hlt
      subst hbe
      have hkl : k < ms.length := by rw [LM.out]; exact hlt
      obtain ⟨c0, c1⟩ := hat k hkl
      have hfst := fun x (hx : x < (ms.getD k zr).1) => most_first HX.out HY.out M.out hkl hQ.out hx
      obtain ⟨m, hm⟩ : ∃ m, m = (ms.getD k zr).1 := ⟨_, rfl⟩
      have EM : Hid (m = (ms.getD k zr).1) := hm
      rw [← hm] at c0 hfst
      have FST : Hid (∀ x, x < m → cntF xs x = cntF ys x) := hfst
      clear hat hm hfst hkl c1
      obtain ⟨x, hx⟩ : ∃ x, x = cntF xs m := ⟨_, rfl⟩
      obtain ⟨y, hy⟩ : ∃ y, y = cntF ys m := ⟨_, rfl⟩
      have EX : Hid (cntF xs m = x) := hx.symm
      have EY : Hid (cntF ys m = y) := hy.symm
      clear hx hy
      have CO1 : Hid (∀ wx, Below wr.heap.size wr wx → Calls Tryz.prog 61 #[.slice a la ca, .int .i64 m] wx fun e w' => e = .returned (.int .i64 x) ∧ Below wr.heap.size wr w') := (show ∀ _, _ by rw [← EX.out]; exact rcount_from a la ca xs m wr (HA.out.below hnx) (by omega) HX.out)
      have CO2 : Hid (∀ wx, Below wr.heap.size wr wx → Calls Tryz.prog 61 #[.slice b lb cb, .int .i64 m] wx fun e w' => e = .returned (.int .i64 y) ∧ Below wr.heap.size wr w') := (show ∀ _, _ by rw [← EY.out]; exact rcount_from b lb cb ys m wr (HB.out.below hnx) (by omega) HY.out)
      go_wp2_with fail
      refine (CO1.out _ (Below.refl _ _)).mono ?_
      rintro e w5 ⟨he, hb5⟩
      subst he
      have d0 := (hb5.cell (p := ⟨bb, off + k * 2, none⟩) hbl).trans c0
      have HB5 : Hid (Below wr.heap.size wr w5) := hb5
      clear hb5
      go_wp2_with fail
      refine (CO2.out _ HB5.out).mono ?_
      rintro e w6 ⟨he, hb6⟩
      subst he
      have N2 : Below w.heap.size w w6 := then_ hnx hb6
      have N4 : Hid (Below w4.heap.size w4 w6) := then_ hB4.out hb6
      clear hb6 d0
      by_cases h1 : y < x
      · have E : Hid (cmpF xs ys = 1) := CM.out 1 (.inl ⟨rfl, m, FST.out, by rw [EX.out, EY.out]; exact h1⟩)
        go_wp2
        go_ret
        exact ⟨by rw [E.out]; rfl, N2⟩
      by_cases h2 : x < y
      · have E : Hid (cmpF xs ys = -1) := CM.out (-1) (.inr (.inl ⟨rfl, m, fun z hz => (FST.out z hz).symm, by rw [EX.out, EY.out]; exact h2⟩))
        go_wp2
        go_ret
        exact ⟨by rw [E.out]; rfl, N2⟩
      · have N3 : Hid (∀ j, j < k + 1 → cntF xs (ms.getD j zr).1 = cntF ys (ms.getD j zr).1) := fun j hj => by
          rcases Nat.lt_or_ge j k with h | h
          · exact hQ.out j h
          · obtain rfl : j = k := by omega
            rw [← EM.out, EX.out, EY.out]; omega
        go_wp2
        go_roundw
        case rel => exact ⟨k + 1, by omega, by go_num, N3, N4, N2⟩
        case measure => simp [intOf]; omega
    · have hlt' : ¬ (k : Int) < ml := by omega
      have E : Hid (cmpF xs ys = 0) := CM.out 0 (.inr (.inr ⟨rfl, most_all HX.out HY.out M.out fun j hj => hQ.out j (by rw [LM.out] at hj; omega)⟩))
      go_wp2
      go_ret
      exact ⟨by rw [E.out]; rfl, hnx⟩

theorem rcompare_any (a b : Option Addr) (la ca lb cb : Nat) (xs ys : List Row) (w : World) (ha : Bags w a la xs) (hb : Bags w b lb ys) (hla : la ≤ 10000) (hlb : lb ≤ 10000) :
    Calls Tryz.prog 40 #[.slice a la ca, .slice b lb cb] w fun e w' => e = .returned (.int .i64 (compareB xs ys)) ∧ Below w.heap.size w w' := by
  cases hr : (rightB xs && rightB ys) with
  | true =>
    rw [compareB_right hr]
    have := Bool.and_eq_true_iff.1 hr
    exact rcompare_right a b la ca lb cb xs ys w ha hb hla hlb (rightB_iff.1 this.1) (rightB_iff.1 this.2)
  | false => rw [compareB_wrong hr]; exact rcompare_wrong a b la ca lb cb xs ys w ha hb hla hlb hr
end Go.Proofs.YtnjpblmplneojaaGreatDoor.Bag
