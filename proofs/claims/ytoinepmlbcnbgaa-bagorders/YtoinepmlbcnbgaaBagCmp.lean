/- cmp.Compare, the search in a bag's rows, count and Count of package bag: contracts of the calls, over the turned program. -/
import Derived.Test.YtoinepmlbcnbgaaBagRight
import Derived.Shelf.Abstract
namespace Go.Proofs.Ytoinepmlbcnbgaa.Bag
open Go.RowKit Go.Proofs.Ytoinepmlbcnbgaa.Frame
set_option linter.unusedVariables false

def cmpI (x y : Int) : Int := if x < y then -1 else if y < x then 1 else 0

theorem nan_any (n : Int) (w : World) : Calls Try.prog 46 #[.int .i64 n] w fun e w' => e = .returned (.bool false) ∧ w' = w := by
  go_enter Try.func46, Try.ntmps46
  go_wp2
  go_ret
  exact ⟨retb (by simp), rfl⟩

set_option maxHeartbeats 400000 in
theorem cmp_any (x y : Int) (w : World) : Calls Try.prog 41 #[.int .i64 x, .int .i64 y] w fun e w' => e = .returned (.int .i64 (cmpI x y)) ∧ w' = w := by
  have hn : ∀ (n : Int) (w : World), Calls Try.prog 46 #[.int .i64 n] w fun e w' => e = .returned (.bool false) ∧ w' = w := nan_any
  by_cases h1 : x < y
  · have E : Hid (cmpI x y = -1) := by unfold Hid cmpI; rw [if_pos h1]
    go_enter Try.func41, Try.ntmps41
    go_wp2_with (go_at_call 46; refine (nan_any _ _).mono ?_; rintro e w' ⟨he, hw⟩; subst he; have hw := hw.symm; subst hw)
    go_ret
    exact ⟨by rw [E.out]; rfl, rfl⟩
  by_cases h2 : y < x
  · have E : Hid (cmpI x y = 1) := by unfold Hid cmpI; rw [if_neg h1, if_pos h2]
    go_enter Try.func41, Try.ntmps41
    go_wp2_with (go_at_call 46; refine (nan_any _ _).mono ?_; rintro e w' ⟨he, hw⟩; subst he; have hw := hw.symm; subst hw)
    go_ret
    exact ⟨by rw [E.out]; rfl, rfl⟩
  · have E : Hid (cmpI x y = 0) := by unfold Hid cmpI; rw [if_neg h1, if_neg h2]
    go_enter Try.func41, Try.ntmps41
    go_wp2_with (go_at_call 46; refine (nan_any _ _).mono ?_; rintro e w' ⟨he, hw⟩; subst he; have hw := hw.symm; subst hw)
    go_ret
    exact ⟨by rw [E.out]; rfl, rfl⟩

set_option maxHeartbeats 400000 in
theorem key_any (x c m : Int) (w : World) : Calls Try.prog 43 #[.agg #[.int .i64 x, .int .i64 c], .int .i64 m] w fun e w' => e = .returned (.int .i64 (cmpI x m)) ∧ Below w.heap.size w w' := by
  go_enter Try.func43, Try.ntmps43
  go_wp2_with (go_at_call 41; refine (cmp_any _ _ _).mono ?_; rintro e w' ⟨he, hw⟩; subst he; have hw := hw.symm; subst hw)
  go_ret
  exact ⟨rfl, (Below.refl _ _).alloc (Nat.le_refl _) _⟩

/-- where a member stands, or would stand -/
def Found (rs : List Row) (m : Int) (i : Nat) : Prop := i ≤ rs.length ∧ (∀ j, j < i → (rs.getD j zr).1 < m) ∧ ∀ j, i ≤ j → j < rs.length → m ≤ (rs.getD j zr).1

def foundB (rs : List Row) (len : Nat) (m : Int) (i : Nat) : Bool := decide (i < len ∧ (rs.getD i zr).1 = m)
set_option maxHeartbeats 1000000 in
theorem search_any (a : Option Addr) (len cap : Nat) (rs : List Row) (m : Int) (w : World) (h : Bags w a len rs) (hr : RightP rs) (hl : len ≤ 1000000) :
    Calls Try.prog 42 #[.slice a len cap, .int .i64 m, .func (.func 43) #[] #[]] w fun e w' => ∃ i : Nat, e = .returned (.tuple #[.int .i64 i, .bool (foundB rs len m i)]) ∧ Found rs m i ∧ Below w.heap.size w w' := by
  have eg : ∀ args w, (callFunc 43 args).run Try.prog w = .ok (.enter 43 args) w := enters_of Try.func43 (by kernel_rfl) rfl
  have HC : Hid (Bags w a len rs) := h
  have HR : Hid (RightP rs) := hr
  have HL : Hid (rs.length = len) := h.1.1
  clear h hr
  go_enter Try.func42, Try.ntmps42
  go_wp2
  go_loopw [9, 10] (fun i j wr => ∃ k q : Nat, k ≤ q ∧ q ≤ len ∧ i = .int .i64 k ∧ j = .int .i64 q ∧ Hid ((∀ x, x < k → (rs.getD x zr).1 < m) ∧ ∀ x, q ≤ x → x < rs.length → m ≤ (rs.getD x zr).1) ∧ Below w.heap.size w wr) (fun i j _ => (intOf j).toNat - (intOf i).toNat)
  case atStart => exact ⟨0, len, by omega, by omega, rfl, rfl, ⟨fun x h => by omega, fun x h1 h2 => by rw [HL.out] at h2; omega⟩, Below.refl _ _⟩
  case round =>
    obtain ⟨k, q, hkq, hq, rfl, rfl, hI, hnx⟩ := hrel
    by_cases hlt : k < q
    · have hlt' : (k : Int) < q := by omega
      obtain ⟨b, off, ha, hbl, hat⟩ := (HC.out.below hnx).row (k := k) (by omega)
      subst ha
      have hpl : (k + q) / 2 < len := by omega
      have hpl' : ((k : Int) + q) / 2 < len := by omega
      obtain ⟨c0, c1⟩ := hat ((k + q) / 2) (by rw [HL.out]; exact hpl)
      clear hat
      obtain ⟨x, hx⟩ : ∃ x, x = (rs.getD ((k + q) / 2) zr).1 := ⟨_, rfl⟩
      obtain ⟨c, hc⟩ : ∃ c, c = (rs.getD ((k + q) / 2) zr).2 := ⟨_, rfl⟩
      rw [← hx] at c0
      rw [← hc] at c1
      have HX : Hid (x = (rs.getD ((k + q) / 2) zr).1) := hx
      clear hx hc
      have up : ∀ i j, i < j → j < rs.length → (rs.getD i zr).1 < (rs.getD j zr).1 := fun i j hij hj => by
        rw [getD_get zr hj, getD_get zr (show i < rs.length by omega)]
        exact List.pairwise_iff_getElem.1 HR.out.1 i j (by omega) hj hij
      have UP : Hid (∀ i j, i < j → j < rs.length → (rs.getD i zr).1 < (rs.getD j zr).1) := up
      clear up
      by_cases hxm : x < m
      · have E : Hid (cmpI x m = -1) := by unfold Hid cmpI; rw [if_pos hxm]
        go_wp2_with (go_at_fn 43; refine (key_any _ _ _ _).mono ?_; rintro e w' ⟨he, hb⟩; subst he; rw [E.out])
        go_roundw
        case rel => exact ⟨(k + q) / 2 + 1, q, by omega, hq, by go_num, rfl, ⟨fun y hy => by
          rcases Nat.lt_or_ge y ((k + q) / 2) with h | h
          · have := UP.out y _ h (by rw [HL.out]; exact hpl); rw [← HX.out] at this; omega
          · obtain rfl : y = (k + q) / 2 := by omega
            rw [← HX.out]; exact hxm, hI.out.2⟩, then_ hnx hb⟩
        case measure => simp [intOf]; omega
      · have E : Hid (cmpI x m = cmpI x m ∧ ¬ cmpI x m < 0) := by unfold Hid cmpI; rw [if_neg hxm]; refine ⟨rfl, ?_⟩; split <;> omega
        have hE := E.out.2
        clear E
        go_wp2_with (go_at_fn 43; refine (key_any _ _ _ _).mono ?_; rintro e w' ⟨he, hb⟩; subst he)
        go_roundw
        case rel => exact ⟨k, (k + q) / 2, by omega, by omega, rfl, by go_num, ⟨hI.out.1, fun y h1 h2 => by
          rcases Nat.lt_or_ge ((k + q) / 2) y with h | h
          · have := UP.out _ y h h2; rw [← HX.out] at this; omega
          · obtain rfl : y = (k + q) / 2 := by omega
            rw [← HX.out]; omega⟩, then_ hnx hb⟩
        case measure => simp [intOf]; omega
    · obtain rfl : k = q := by omega
      have F : Hid (Found rs m k) := ⟨by rw [HL.out]; exact hq, hI.out.1, hI.out.2⟩
      by_cases hkl : k < len
      · have hkl' : (k : Int) < len := by omega
        obtain ⟨b, off, ha, hbl, hat⟩ := (HC.out.below hnx).row (k := k) (by omega)
        subst ha
        obtain ⟨c0, c1⟩ := hat k (by rw [HL.out]; exact hkl)
        clear hat
        obtain ⟨x, hx⟩ : ∃ x, x = (rs.getD k zr).1 := ⟨_, rfl⟩
        obtain ⟨c, hc⟩ : ∃ c, c = (rs.getD k zr).2 := ⟨_, rfl⟩
        rw [← hx] at c0
        rw [← hc] at c1
        have HX : Hid (x = (rs.getD k zr).1) := hx
        clear hx hc
        by_cases hxm : x = m
        · have E : Hid (cmpI x m = 0) := by unfold Hid cmpI; rw [if_neg (by omega), if_neg (by omega)]
          have D : Hid (foundB rs len m k = true) := decide_eq_true ⟨hkl, by rw [← HX.out]; exact hxm⟩
          clear hxm
          go_wp2_with (go_at_fn 43; refine (key_any _ _ _ _).mono ?_; rintro e w' ⟨he, hb⟩; subst he; rw [E.out])
          go_ret2
          exact ⟨k, by rw [D.out]; rfl, F.out, then_ hnx hb⟩
        · have E : Hid ((cmpI x m == 0) = false) := by
            unfold Hid cmpI
            by_cases h : x < m
            · rw [if_pos h]; rfl
            · rw [if_neg h, if_pos (by omega)]; rfl
          have hE := E.out
          have D : Hid (foundB rs len m k = false) := decide_eq_false fun h => hxm (by rw [HX.out]; exact h.2)
          clear hxm
          go_wp2_with (go_at_fn 43; refine (key_any _ _ _ _).mono ?_; rintro e w' ⟨he, hb⟩; subst he)
          go_ret2
          exact ⟨k, by rw [D.out]; rfl, F.out, then_ hnx hb⟩
      · have hkl' : ¬ (k : Int) < len := by omega
        have D : Hid (foundB rs len m k = false) := decide_eq_false fun h => hkl h.1
        go_wp2
        go_ret2
        exact ⟨k, by rw [D.out]; rfl, F.out, hnx⟩

theorem found_cnt {rs : List Row} (hr : RightP rs) {m : Int} {i : Nat} (h : Found rs m i) (hf : foundB rs rs.length m i = true) : i < rs.length ∧ cntF rs m = (rs.getD i zr).2 := by
  obtain ⟨h1, h2⟩ := of_decide_eq_true hf
  exact ⟨h1, by rw [← h2]; exact cnt_at hr h1⟩
theorem found_none {rs : List Row} {m : Int} {i : Nat} (hr : RightP rs) (h : Found rs m i) (hf : foundB rs rs.length m i = false) : cntF rs m = 0 := by
  refine cntF_not fun r hm e => ?_
  obtain ⟨j, hj, rfl⟩ := List.getElem_of_mem hm
  rw [← getD_get zr hj] at e
  have hij : i = j := by
    apply Classical.byContradiction
    intro hne
    rcases Nat.lt_or_gt_of_ne hne with hlt | hlt
    · have h1 := h.2.2 i (Nat.le_refl _) (by omega)
      have h2 := List.pairwise_iff_getElem.1 hr.1 i j (by omega) hj hlt
      rw [← getD_get zr hj, ← getD_get zr (show i < rs.length by omega)] at h2
      omega
    · have := h.2.1 j hlt; omega
  subst hij
  exact absurd (⟨hj, e⟩ : i < rs.length ∧ (rs.getD i zr).1 = m) (of_decide_eq_false hf)

set_option maxHeartbeats 1000000 in
theorem count_in (a : Option Addr) (len cap : Nat) (rs : List Row) (m : Int) (w : World) (h : Bags w a len rs) (hr : RightP rs) (hl : len ≤ 1000000) :
    Calls Try.prog 34 #[.slice a len cap, .int .i64 m] w fun e w' => e = .returned (.int .i64 (cntF rs m)) ∧ Below w.heap.size w w' := by
  have HC : Hid (Bags w a len rs) := h
  have HR : Hid (RightP rs) := hr
  have HL : Hid (rs.length = len) := h.1.1
  clear h hr
  go_enter Try.func34, Try.ntmps34
  go_wp2_with fail
  refine (search_any a len cap rs m w HC.out HR.out hl).mono ?_
  rintro e w' ⟨i, he, hf, hb⟩
  subst he
  have HF : Hid (Found rs m i) := hf
  clear hf
  cases hfb : foundB rs len m i with
  | false =>
    have E : Hid (cntF rs m = 0) := found_none HR.out HF.out (by rw [HL.out]; exact hfb)
    clear hfb
    go_wp2
    go_ret
    exact ⟨by rw [E.out]; rfl, hb⟩
  | true =>
    obtain ⟨hi, hc⟩ := found_cnt HR.out HF.out (by rw [HL.out]; exact hfb)
    rw [HL.out] at hi
    have hi' : (i : Int) < len := by omega
    have E : Hid (cntF rs m = (rs.getD i zr).2) := hc
    clear hfb hc
    obtain ⟨b, off, ha, hbl, hat⟩ := (HC.out.below hb).row (k := i) hi
    subst ha
    obtain ⟨c0, c1⟩ := hat i (by rw [HL.out]; exact hi)
    clear hat c0
    obtain ⟨c, hc⟩ : ∃ c, c = (rs.getD i zr).2 := ⟨_, rfl⟩
    rw [← hc] at c1 E
    clear hc
    go_wp2
    go_ret
    exact ⟨by rw [E.out]; rfl, hb⟩

/-- Count -/
def countB (rs : List Row) (m : Int) : Int := if rightB rs then cntF rs m else 0
theorem countB_right {rs : List Row} (h : RightP rs) (m : Int) : countB rs m = cntF rs m := by unfold countB; rw [rightB_iff.2 h]; rfl
theorem countB_wrong {rs : List Row} (h : rightB rs = false) (m : Int) : countB rs m = 0 := by unfold countB; rw [h]; rfl

set_option maxHeartbeats 1000000 in
theorem Count_any (a : Option Addr) (len cap : Nat) (rs : List Row) (m : Int) (w : World) (h : Bags w a len rs) (hl : len ≤ 1000000) :
    Calls Try.prog 12 #[.slice a len cap, .int .i64 m] w fun e w' => e = .returned (.int .i64 (countB rs m)) ∧ Below w.heap.size w w' := by
  have HC : Hid (Bags w a len rs) := h
  clear h
  cases hr : rightB rs with
  | false =>
    have R : Hid (rightB rs = false) := hr
    have E : Hid (countB rs m = 0) := countB_wrong hr m
    clear hr
    go_enter Try.func12, Try.ntmps12
    go_wp2_with (go_at_call 10; refine (right_any _ _ _ rs _ HC.out hl).mono ?_; rintro e w' ⟨he, hb⟩; subst he; rw [R.out])
    go_ret
    exact ⟨by rw [E.out]; rfl, hb⟩
  | true =>
    have R : Hid (rightB rs = true) := hr
    have E : Hid (countB rs m = cntF rs m) := countB_right (rightB_iff.1 hr) m
    clear hr
    go_enter Try.func12, Try.ntmps12
    go_wp2_with (first
      | (go_at_call 10; refine (right_any _ _ _ rs _ HC.out hl).mono ?_; rintro e w' ⟨he, hb⟩; subst he; rw [R.out])
      | (go_at_call 34; refine (count_in _ _ _ rs _ _ (HC.out.below hb) (rightB_iff.1 R.out) hl).mono ?_; rintro e w2 ⟨he, hb2⟩; subst he))
    go_ret
    exact ⟨by rw [E.out]; rfl, then_ hb hb2⟩
end Go.Proofs.Ytoinepmlbcnbgaa.Bag
