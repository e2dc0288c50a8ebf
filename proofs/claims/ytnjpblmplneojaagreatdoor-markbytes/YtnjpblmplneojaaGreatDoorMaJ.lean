/- Contracts and plain mathematics, together: BagCmp, BagTot, BagEq. -/
import Derived.Test.YtnjpblmplneojaaGreatDoorBagRight
import Derived.Shelf.Abstract
import Derived.Laws.StructEq
import Derived.ChangeKeysEq
/- cmp.Compare, the search in a bag's rows, count and Count of package bag: contracts of the calls, over the turned program. -/
namespace Go.Proofs.YtnjpblmplneojaaGreatDoor.Bag
open Go.RowKit Go.Proofs.YtnjpblmplneojaaGreatDoor.Frame
set_option linter.unusedVariables false

def cmpI (x y : Int) : Int := if x < y then -1 else if y < x then 1 else 0

theorem nan_any (n : Int) (w : World) : Calls Tryz.prog 62 #[.int .i64 n] w fun e w' => e = .returned (.bool false) ∧ w' = w := by
  go_enter Tryz.func62, Tryz.ntmps62
  go_wp2
  go_ret
  exact ⟨retb (by simp), rfl⟩

set_option maxHeartbeats 400000 in
theorem cmp_any (x y : Int) (w : World) : Calls Tryz.prog 37 #[.int .i64 x, .int .i64 y] w fun e w' => e = .returned (.int .i64 (cmpI x y)) ∧ w' = w := by
  have hn : ∀ (n : Int) (w : World), Calls Tryz.prog 62 #[.int .i64 n] w fun e w' => e = .returned (.bool false) ∧ w' = w := nan_any
  by_cases h1 : x < y
  · have E : Hid (cmpI x y = -1) := by unfold Hid cmpI; rw [if_pos h1]
    go_enter Tryz.func37, Tryz.ntmps37
    go_wp2_with (go_at_call 62; refine (nan_any _ _).mono ?_; rintro e w' ⟨he, hw⟩; subst he; have hw := hw.symm; subst hw)
    go_ret
    exact ⟨by rw [E.out]; rfl, rfl⟩
  by_cases h2 : y < x
  · have E : Hid (cmpI x y = 1) := by unfold Hid cmpI; rw [if_neg h1, if_pos h2]
    go_enter Tryz.func37, Tryz.ntmps37
    go_wp2_with (go_at_call 62; refine (nan_any _ _).mono ?_; rintro e w' ⟨he, hw⟩; subst he; have hw := hw.symm; subst hw)
    go_ret
    exact ⟨by rw [E.out]; rfl, rfl⟩
  · have E : Hid (cmpI x y = 0) := by unfold Hid cmpI; rw [if_neg h1, if_neg h2]
    go_enter Tryz.func37, Tryz.ntmps37
    go_wp2_with (go_at_call 62; refine (nan_any _ _).mono ?_; rintro e w' ⟨he, hw⟩; subst he; have hw := hw.symm; subst hw)
    go_ret
    exact ⟨by rw [E.out]; rfl, rfl⟩

set_option maxHeartbeats 400000 in
theorem key_any (x c m : Int) (w : World) : Calls Tryz.prog 79 #[.agg #[.int .i64 x, .int .i64 c], .int .i64 m] w fun e w' => e = .returned (.int .i64 (cmpI x m)) ∧ Below w.heap.size w w' := by
  go_enter Tryz.func79, Tryz.ntmps79
  go_wp2_with (go_at_call 37; refine (cmp_any _ _ _).mono ?_; rintro e w' ⟨he, hw⟩; subst he; have hw := hw.symm; subst hw)
  go_ret
  exact ⟨rfl, (Below.refl _ _).alloc (Nat.le_refl _) _⟩

/-- where a member stands, or would stand -/
def Found (rs : List Row) (m : Int) (i : Nat) : Prop := i ≤ rs.length ∧ (∀ j, j < i → (rs.getD j zr).1 < m) ∧ ∀ j, i ≤ j → j < rs.length → m ≤ (rs.getD j zr).1

def foundB (rs : List Row) (len : Nat) (m : Int) (i : Nat) : Bool := decide (i < len ∧ (rs.getD i zr).1 = m)

set_option maxHeartbeats 1000000 in
theorem search_any (a : Option Addr) (len cap : Nat) (rs : List Row) (m : Int) (w : World) (h : Bags w a len rs) (hr : RightP rs) (hl : len ≤ 1000000) :
    Calls Tryz.prog 78 #[.slice a len cap, .int .i64 m, .func (.func 79) #[] #[]] w fun e w' => ∃ i : Nat, e = .returned (.tuple #[.int .i64 i, .bool (foundB rs len m i)]) ∧ Found rs m i ∧ Below w.heap.size w w' := by
  have eg : ∀ args w, (callFunc 79 args).run Tryz.prog w = .ok (.enter 79 args) w := enters_of Tryz.func79 (by kernel_rfl) rfl
  have HC : Hid (Bags w a len rs) := h
  have HR : Hid (RightP rs) := hr
  have HL : Hid (rs.length = len) := h.1.1
  clear h hr
  go_enter Tryz.func78, Tryz.ntmps78
  go_wp2
  go_loopw [9, 10] (fun i j wr => ∃ k q : Nat, k ≤ q ∧ q ≤ len ∧ i = .int .i64 k ∧ j = .int .i64 q ∧ Hid ((∀ x, x < k → (rs.getD x zr).1 < m) ∧ ∀ x, q ≤ x → x < rs.length → m ≤ (rs.getD x zr).1) ∧ Below w.heap.size w wr) (fun i j _ => (intOf j).toNat - (intOf i).toNat)
  case atStart => exact ⟨0, len, by omega, by omega, rfl, rfl, ⟨fun x h => by omega, fun x h1 h2 => by rw [HL.out] at h2; omega⟩, Below.refl _ _⟩
  case round =>
    obtain ⟨k, q, hkq, hq, rfl, rfl, hI, hnx⟩ := hrel
    by_cases hlt : k < q
    · have hlt' : (k : Int) < q := by omega
      obtain ⟨b, off, ha, hbl, hat⟩ := (HC.out.below hnx).row (k := k) (by omega)
      subst ha
      have hpl : (k + q) / 2 < len := by omega
      have hpl' : ((k : Int) + q) / 2 < len := by omega
      obtain ⟨c0, c1⟩ := hat ((k + q) / 2) (by rw [HL.out]; exact hpl)
      clear hat
      obtain ⟨x, hx⟩ : ∃ x, x = (rs.getD ((k + q) / 2) zr).1 := ⟨_, rfl⟩
      obtain ⟨c, hc⟩ : ∃ c, c = (rs.getD ((k + q) / 2) zr).2 := ⟨_, rfl⟩
      rw [← hx] at c0
      rw [← hc] at c1
      have HX : Hid (x = (rs.getD ((k + q) / 2) zr).1) := hx
      clear hx hc
      have up : ∀ i j, i < j → j < rs.length → (rs.getD i zr).1 < (rs.getD j zr).1 := fun i j hij hj => by
        rw [getD_get zr hj, getD_get zr (show i < rs.length by omega)]
        exact List.pairwise_iff_getElem.1 HR.out.1 i j (by omega) hj hij
      have UP : Hid (∀ i j, i < j → j < rs.length → (rs.getD i zr).1 < (rs.getD j zr).1) := up
      clear up
      by_cases hxm : x < m
      · have E : Hid (cmpI x m = -1) := by unfold Hid cmpI; rw [if_pos hxm]
        go_wp2_with (go_at_fn 79; refine (key_any _ _ _ _).mono ?_; rintro e w' ⟨he, hb⟩; subst he; rw [E.out])
        go_roundw
        case rel => exact ⟨(k + q) / 2 + 1, q, by omega, hq, by go_num, rfl, ⟨fun y hy => by
          rcases Nat.lt_or_ge y ((k + q) / 2) with h | h
          · have := UP.out y _ h (by rw [HL.out]; exact hpl); rw [← HX.out] at this; omega
          · obtain rfl : y = (k + q) / 2 := by omega
            rw [← HX.out]; exact hxm, hI.out.2⟩, then_ hnx hb⟩
        case measure => simp [intOf]; omega
      · have E : Hid (cmpI x m = cmpI x m ∧ ¬ cmpI x m < 0) := by unfold Hid cmpI; rw [if_neg hxm]; refine ⟨rfl, ?_⟩; split <;> omega
        have hE := E.out.2
        clear E
        go_wp2_with (go_at_fn 79; refine (key_any _ _ _ _).mono ?_; rintro e w' ⟨he, hb⟩; subst he)
        go_roundw
        case rel => exact ⟨k, (k + q) / 2, by omega, by omega, rfl, by go_num, ⟨hI.out.1, fun y h1 h2 => by
          rcases Nat.lt_or_ge ((k + q) / 2) y with h | h
          · have := UP.out _ y h h2; rw [← HX.out] at this; omega
          · obtain rfl : y = (k + q) / 2 := by omega
            rw [← HX.out]; omega⟩, then_ hnx hb⟩
        case measure => simp [intOf]; omega
    · obtain rfl : k = q := by omega
      have F : Hid (Found rs m k) := ⟨by rw [HL.out]; exact hq, hI.out.1, hI.out.2⟩
      by_cases hkl : k < len
      · have hkl' : (k : Int) < len := by omega
        obtain ⟨b, off, ha, hbl, hat⟩ := (HC.out.below hnx).row (k := k) (by omega)
        subst ha
        obtain ⟨c0, c1⟩ := hat k (by rw [HL.out]; exact hkl)
        clear hat
        obtain ⟨x, hx⟩ : ∃ x, x = (rs.getD k zr).1 := ⟨_, rfl⟩
        obtain ⟨c, hc⟩ : ∃ c, c = (rs.getD k zr).2 := ⟨_, rfl⟩
        rw [← hx] at c0
        rw [← hc] at c1
        have HX : Hid (x = (rs.getD k zr).1) := hx
        clear hx hc
        by_cases hxm : x = m
        · have E : Hid (cmpI x m = 0) := by unfold Hid cmpI; rw [if_neg (by omega), if_neg (by omega)]
          have D : Hid (foundB rs len m k = true) := decide_eq_true ⟨hkl, by rw [← HX.out]; exact hxm⟩
          clear hxm
          go_wp2_with (go_at_fn 79; refine (key_any _ _ _ _).mono ?_; rintro e w' ⟨he, hb⟩; subst he; rw [E.out])
          go_ret2
          exact ⟨k, by rw [D.out]; rfl, F.out, then_ hnx hb⟩
        · have E : Hid ((cmpI x m == 0) = false) := by
            unfold Hid cmpI
            by_cases h : x < m
            · rw [if_pos h]; rfl
            · rw [if_neg h, if_pos (by omega)]; rfl
          have hE := E.out
          have D : Hid (foundB rs len m k = false) := decide_eq_false fun h => hxm (by rw [HX.out]; exact h.2)
          clear hxm
          go_wp2_with (go_at_fn 79; refine (key_any _ _ _ _).mono ?_; rintro e w' ⟨he, hb⟩; subst he)
          go_ret2
          exact ⟨k, by rw [D.out]; rfl, F.out, then_ hnx hb⟩
      · have hkl' : ¬ (k : Int) < len := by omega
        have D : Hid (foundB rs len m k = false) := decide_eq_false fun h => hkl h.1
        go_wp2
        go_ret2
        exact ⟨k, by rw [D.out]; rfl, F.out, hnx⟩

theorem found_cnt {rs : List Row} (hr : RightP rs) {m : Int} {i : Nat} (h : Found rs m i) (hf : foundB rs rs.length m i = true) : i < rs.length ∧ cntF rs m = (rs.getD i zr).2 := by
  obtain ⟨h1, h2⟩ := of_decide_eq_true hf
  exact ⟨h1, by rw [← h2]; exact cnt_at hr h1⟩

theorem found_none {rs : List Row} {m : Int} {i : Nat} (hr : RightP rs) (h : Found rs m i) (hf : foundB rs rs.length m i = false) : cntF rs m = 0 := by
  refine cntF_not fun r hm e => ?_
  obtain ⟨j, hj, rfl⟩ := List.getElem_of_mem hm
  rw [← getD_get zr hj] at e
  have hij : i = j := by
    apply Classical.byContradiction
    intro hne
    rcases Nat.lt_or_gt_of_ne hne with hlt | hlt
    · have h1 := h.2.2 i (Nat.le_refl _) (by omega)
      have h2 := List.pairwise_iff_getElem.1 hr.1 i j (by omega) hj hlt
      rw [← getD_get zr hj, ← getD_get zr (show i < rs.length by omega)] at h2
      omega
    · have := h.2.1 j hlt; omega
  subst hij
  exact absurd (⟨hj, e⟩ : i < rs.length ∧ (rs.getD i zr).1 = m) (of_decide_eq_false hf)

set_option maxHeartbeats 1000000 in
theorem count_in (a : Option Addr) (len cap : Nat) (rs : List Row) (m : Int) (w : World) (h : Bags w a len rs) (hr : RightP rs) (hl : len ≤ 1000000) :
    Calls Tryz.prog 60 #[.slice a len cap, .int .i64 m] w fun e w' => e = .returned (.int .i64 (cntF rs m)) ∧ Below w.heap.size w w' := by
  have HC : Hid (Bags w a len rs) := h
  have HR : Hid (RightP rs) := hr
  have HL : Hid (rs.length = len) := h.1.1
  clear h hr
  go_enter Tryz.func60, Tryz.ntmps60
  go_wp2_with fail
  refine (search_any a len cap rs m w HC.out HR.out hl).mono ?_
  rintro e w' ⟨i, he, hf, hb⟩
  subst he
  have HF : Hid (Found rs m i) := hf
  clear hf
  cases hfb : foundB rs len m i with
  | false =>
    have E : Hid (cntF rs m = 0) := found_none HR.out HF.out (by rw [HL.out]; exact hfb)
    clear hfb
    go_wp2
    go_ret
    exact ⟨by rw [E.out]; rfl, hb⟩
  | true =>
    obtain ⟨hi, hc⟩ := found_cnt HR.out HF.out (by rw [HL.out]; exact hfb)
    rw [HL.out] at hi
    have hi' : (i : Int) < len := by omega
    have E : Hid (cntF rs m = (rs.getD i zr).2) := hc
    clear hfb hc
    obtain ⟨b, off, ha, hbl, hat⟩ := (HC.out.below hb).row (k := i) hi
    subst ha
    obtain ⟨c0, c1⟩ := hat i (by rw [HL.out]; exact hi)
    clear hat c0
    obtain ⟨c, hc⟩ : ∃ c, c = (rs.getD i zr).2 := ⟨_, rfl⟩
    rw [← hc] at c1 E
    clear hc
    go_wp2
    go_ret
    exact ⟨by rw [E.out]; rfl, hb⟩

/-- Count -/
def countB (rs : List Row) (m : Int) : Int := if rightB rs then cntF rs m else 0

theorem countB_right {rs : List Row} (h : RightP rs) (m : Int) : countB rs m = cntF rs m := by unfold countB; rw [rightB_iff.2 h]; rfl

theorem countB_wrong {rs : List Row} (h : rightB rs = false) (m : Int) : countB rs m = 0 := by unfold countB; rw [h]; rfl
end Go.Proofs.YtnjpblmplneojaaGreatDoor.Bag
/- total, Total, bothRight, Within, Same and Compare of package bag: contracts of the calls, over the turned program. -/
namespace Go.Proofs.YtnjpblmplneojaaGreatDoor.Bag
open Go.RowKit Go.Proofs.YtnjpblmplneojaaGreatDoor.Frame
set_option linter.unusedVariables false

set_option maxHeartbeats 1000000 in
theorem total_in (a : Option Addr) (len cap : Nat) (rs : List Row) (w : World) (h : Bags w a len rs) (hr : RightP rs) (hl : len ≤ 1000000) :
    Calls Tryz.prog 67 #[.slice a len cap] w fun e w' => e = .returned (.int .i64 (totF rs)) ∧ Below w.heap.size w w' := by
  have HC : Hid (Bags w a len rs) := h
  have HR : Hid (RightP rs) := hr
  have HL : Hid (rs.length = len) := h.1.1
  clear h hr
  go_enter Tryz.func67, Tryz.ntmps67
  go_wp2
  go_loopw [3, 8] (fun n i wr => ∃ k : Nat, k ≤ len ∧ i = .int .i64 k ∧ n = .int .i64 (totF (rs.take k)) ∧ Below w.heap.size w wr) (fun _ i _ => len - (intOf i).toNat)
  case atStart => exact ⟨0, by omega, rfl, rfl, Below.refl _ _⟩
  case round =>
    obtain ⟨k, hk, rfl, rfl, hnx⟩ := hrel
    by_cases hlt : k < len
    · have hlt' : (k : Int) < len := by omega
      obtain ⟨b, off, ha, hbl, hat⟩ := (HC.out.below hnx).row (k := k) hlt
      subst ha
      have hkl : k < rs.length := by rw [HL.out]; exact hlt
      obtain ⟨c0, c1⟩ := hat k hkl
      obtain ⟨m, hm⟩ : ∃ m, m = (rs.getD k zr).1 := ⟨_, rfl⟩
      obtain ⟨c, hc⟩ : ∃ c, c = (rs.getD k zr).2 := ⟨_, rfl⟩
      obtain ⟨t, ht⟩ : ∃ t, t = totF (rs.take k) := ⟨_, rfl⟩
      have t1 : totF (rs.take (k + 1)) = t + c := by rw [take_snoc hkl, totF_snoc, ht, hc]
      have t2 := totF_take_le HR.out k
      have t3 := totF_nonneg HR.out
      have t4 := (right_good HR.out hkl).1.2
      rw [← ht] at t2
      rw [← hc] at t4
      rw [HL.out] at t3
      have t5 : totF rs ≤ 1048576000000 := by omega
      have t6 : 0 ≤ t ∧ t ≤ 1048576000000 := by omega
      have T : Hid (totF (rs.take (k + 1)) = t + c) := t1
      rw [← hm] at c0
      rw [← hc] at c1
      rw [← ht]
      clear hat hm hc ht t1 t2 t3 t5 hkl
      go_wp2
      go_roundw
      case rel => exact ⟨k + 1, by omega, by go_num, by rw [T.out], hnx.alloc hnx.size _⟩
      case measure => simp [intOf]; omega
    · have E : Hid (totF (rs.take k) = totF rs) := by rw [List.take_of_length_le (by rw [HL.out]; omega)]; exact (rfl : totF rs = totF rs)
      go_wp2
      go_ret
      exact ⟨by rw [← E.out]; rfl, hnx⟩

/-- Total -/
def totalB (rs : List Row) : Int := if rightB rs then totF rs else 0

theorem totalB_right {rs : List Row} (h : RightP rs) : totalB rs = totF rs := by unfold totalB; rw [rightB_iff.2 h]; rfl

theorem totalB_wrong {rs : List Row} (h : rightB rs = false) : totalB rs = 0 := by unfold totalB; rw [h]; rfl

set_option maxHeartbeats 1000000 in
theorem Total_any (a : Option Addr) (len cap : Nat) (rs : List Row) (w : World) (h : Bags w a len rs) (hl : len ≤ 1000000) :
    Calls Tryz.prog 49 #[.slice a len cap] w fun e w' => e = .returned (.int .i64 (totalB rs)) ∧ Below w.heap.size w w' := by
  have HC : Hid (Bags w a len rs) := h
  clear h
  cases hr : rightB rs with
  | false =>
    have R : Hid (rightB rs = false) := hr
    have E : Hid (totalB rs = 0) := totalB_wrong hr
    clear hr
    go_enter Tryz.func49, Tryz.ntmps49
    go_wp2_with (go_at_call 22; refine (right_any _ _ _ rs _ HC.out hl).mono ?_; rintro e w' ⟨he, hb⟩; subst he; rw [R.out])
    go_ret
    exact ⟨by rw [E.out]; rfl, hb⟩
  | true =>
    have R : Hid (rightB rs = true) := hr
    have E : Hid (totalB rs = totF rs) := totalB_right (rightB_iff.1 hr)
    clear hr
    go_enter Tryz.func49, Tryz.ntmps49
    go_wp2_with (first
      | (go_at_call 22; refine (right_any _ _ _ rs _ HC.out hl).mono ?_; rintro e w' ⟨he, hb⟩; subst he; rw [R.out])
      | (go_at_call 67; refine (total_in _ _ _ rs _ (HC.out.below hb) (rightB_iff.1 R.out) hl).mono ?_; rintro e w2 ⟨he, hb2⟩; subst he))
    go_ret
    exact ⟨by rw [E.out]; rfl, then_ hb hb2⟩

set_option maxHeartbeats 1000000 in
theorem both_any (a b : Option Addr) (la ca lb cb : Nat) (xs ys : List Row) (w : World) (ha : Bags w a la xs) (hb : Bags w b lb ys) (hla : la ≤ 1000000) (hlb : lb ≤ 1000000) :
    Calls Tryz.prog 50 #[.slice a la ca, .slice b lb cb] w fun e w' => e = .returned (.bool (rightB xs && rightB ys)) ∧ Below w.heap.size w w' := by
  have HA : Hid (Bags w a la xs) := ha
  have HB : Hid (Bags w b lb ys) := hb
  clear ha hb
  cases hr : rightB xs with
  | false =>
    have R : Hid (rightB xs = false) := hr
    clear hr
    go_enter Tryz.func50, Tryz.ntmps50
    go_wp2_with fail
    refine (right_any a la ca xs w HA.out hla).mono ?_
    rintro e w' ⟨he, hb⟩
    subst he
    rw [R.out]
    go_wp2
    go_ret
    exact ⟨rfl, hb⟩
  | true =>
    have R : Hid (rightB xs = true) := hr
    clear hr
    go_enter Tryz.func50, Tryz.ntmps50
    go_wp2_with fail
    refine (right_any a la ca xs w HA.out hla).mono ?_
    rintro e w' ⟨he, hb⟩
    subst he
    rw [R.out]
    go_wp2_with fail
    refine (right_any b lb cb ys w' (HB.out.below hb) hlb).mono ?_
    rintro e w2 ⟨he, hb2⟩
    subst he
    go_wp2
    go_ret
    exact ⟨retb (Bool.true_and _).symm, then_ hb hb2⟩
end Go.Proofs.YtnjpblmplneojaaGreatDoor.Bag
/- Rows held side by side: slices.Equal, and the document's own Rows and Ints: contracts of the calls, over the turned program. -/
namespace Go.Proofs.YtnjpblmplneojaaGreatDoor.Bag
open Go.RowKit Go.Proofs.YtnjpblmplneojaaGreatDoor.Frame
set_option linter.unusedVariables false

def rowEq (x c y d : Int) : Bool := x == y && c == d
theorem rowEq_iff {x c y d : Int} : rowEq x c y d = true ↔ (x, c) = (y, d) := by unfold rowEq; simp
theorem intInfo' : ∃ i, Tryz.prog.info? 3 = some i := Option.isSome_iff_exists.1 (by kernel_rfl)
theorem intCells : Tryz.prog.cellsOf 3 = 1 := by kernel_rfl
theorem eq_run (x c y d : Int) (w : World) : (Op.equalIn 10000 56 (.agg #[.int .i64 x, .int .i64 c]) (.agg #[.int .i64 y, .int .i64 d])).run Tryz.prog w = .ok (rowEq x c y d) w := by
  obtain ⟨i, hi⟩ := intInfo'
  rw [run_equalIn_array w 9999 _ _ Tryz.underlying56 hi, intCells]
  have p : ∀ (a b : Int) (j : Nat) (v : Value), (#[.int .i64 a, .int .i64 b] : Array Value)[j]? = some v → (part 3 #[.int .i64 a, .int .i64 b] j).run Tryz.prog w = .ok v w := fun a b j v h => by
    simp [part, isAgg, run_underlying Tryz.underlying3, h]
  have e : ∀ a b : Int, (Op.equalIn 9999 3 (.int .i64 a) (.int .i64 b)).run Tryz.prog w = .ok (a == b) w := fun a b => run_equalIn_int w 9998 3 .i64 .i64 a b Tryz.underlying3
  show (Op.eqItems 9999 3 1 _ _ [0, 1]).run Tryz.prog w = _
  have e1 := e x y
  have e2 := e c d
  have p1 := p x c 0 (.int .i64 x) rfl
  have p2 := p x c 1 (.int .i64 c) rfl
  have p3 := p y d 0 (.int .i64 y) rfl
  have p4 := p y d 1 (.int .i64 d) rfl
  clear e p
  unfold rowEq
  cases h1 : (x == y) <;> rw [h1] at e1 <;> cases h2 : (c == d) <;> rw [h2] at e2 <;> simp [Op.eqItems, p1, p2, p3, p4, e1, e2]

theorem list_ext {xs ys : List Row} (hl : xs.length = ys.length) (h : ∀ j, j < xs.length → xs.getD j zr = ys.getD j zr) : xs = ys := by
  refine List.ext_getElem hl fun j h1 h2 => ?_
  have := h j h1
  rwa [getD_get zr h1, getD_get zr h2] at this

def eqB (xs ys : List Row) : Bool := decide (xs = ys)

set_option maxHeartbeats 1000000 in
theorem equal_any (a b : Option Addr) (la ca lb cb : Nat) (xs ys : List Row) (w : World) (ha : Bags w a la xs) (hb : Bags w b lb ys) (hla : la ≤ 1000000) (hlb : lb ≤ 1000000) :
    Calls Tryz.prog 59 #[.slice a la ca, .slice b lb cb] w fun e w' => e = .returned (.bool (eqB xs ys)) ∧ Below w.heap.size w w' := by
  have HA : Hid (Bags w a la xs) := ha
  have HB : Hid (Bags w b lb ys) := hb
  have LA : Hid (xs.length = la) := ha.1.1
  have LB : Hid (ys.length = lb) := hb.1.1
  have he := eq_run
  clear ha hb
  by_cases hl : la = lb
  · subst hl
    go_enter Tryz.func59, Tryz.ntmps59
    go_wp2
    go_loopw [13] (fun i wr => ∃ k : Nat, k ≤ la ∧ i = .int .i64 k ∧ Hid (∀ j, j < k → xs.getD j zr = ys.getD j zr) ∧ Below w.heap.size w wr) (fun i _ => la - (intOf i).toNat)
    case atStart => exact ⟨0, by omega, rfl, fun j h => by omega, Below.refl _ _⟩
    case round =>
      obtain ⟨k, hk, rfl, hok, hnx⟩ := hrel
      by_cases hlt : k < la
      · have hlt' : (k : Int) < la := by omega
        obtain ⟨b1, o1, h1, l1, t1⟩ := (HA.out.below hnx).row (k := k) hlt
        obtain ⟨b2, o2, h2, l2, t2⟩ := (HB.out.below hnx).row (k := k) hlt
        subst h1 h2
        obtain ⟨c0, c1⟩ := t1 k (by rw [LA.out]; exact hlt)
        obtain ⟨d0, d1⟩ := t2 k (by rw [LB.out]; exact hlt)
        clear t1 t2
        obtain ⟨x, hx⟩ : ∃ x, x = xs.getD k zr := ⟨_, rfl⟩
        obtain ⟨y, hy⟩ : ∃ y, y = ys.getD k zr := ⟨_, rfl⟩
        have HX : Hid (x = xs.getD k zr) := hx
        have HY : Hid (y = ys.getD k zr) := hy
        rw [← hx] at c0 c1
        rw [← hy] at d0 d1
        clear hx hy
        obtain ⟨x1, x2⟩ := x
        obtain ⟨y1, y2⟩ := y
        simp only at c0 c1 d0 d1
        cases hq : rowEq x1 x2 y1 y2 with
        | true =>
          have hok' : Hid (∀ j, j < k + 1 → xs.getD j zr = ys.getD j zr) := fun j hj => by
            rcases Nat.lt_or_ge j k with h | h
            · exact hok.out j h
            · obtain rfl : j = k := by omega
              rw [← HX.out, ← HY.out]; exact rowEq_iff.1 hq
          go_wp2
          go_quiet (fail)
          go_wp2
          go_roundw
          case rel => exact ⟨k + 1, by omega, by go_num, hok', below_drewN hnx _⟩
          case measure => simp [intOf]; omega
        | false =>
          have E : Hid (eqB xs ys = false) := decide_eq_false fun e => by
            have : rowEq x1 x2 y1 y2 = true := rowEq_iff.2 (by rw [HX.out, HY.out, e])
            rw [hq] at this; cases this
          go_wp2
          go_quiet (fail)
          go_wp2
          go_ret
          exact ⟨by rw [E.out]; rfl, below_drewN hnx _⟩
      · have E : Hid (eqB xs ys = true) := decide_eq_true (list_ext (by rw [LA.out, LB.out]) fun j hj => hok.out j (by rw [LA.out] at hj; omega))
        go_wp2
        go_ret
        exact ⟨by rw [E.out]; rfl, hnx⟩
  · have hl' : ¬ (la : Int) = lb := by omega
    have E : Hid (eqB xs ys = false) := decide_eq_false fun e => hl (by rw [← LA.out, ← LB.out, e])
    go_enter Tryz.func59, Tryz.ntmps59
    go_wp2
    go_ret
    exact ⟨by rw [E.out]; rfl, Below.refl _ _⟩
set_option maxHeartbeats 1000000 in
theorem rows_any (a b : Option Addr) (la ca lb cb : Nat) (xs ys : List Row) (w : World) (ha : Bags w a la xs) (hb : Bags w b lb ys) (hla : la ≤ 1000000) (hlb : lb ≤ 1000000) :
    Calls Tryz.prog 20 #[.slice a la ca, .slice b lb cb] w fun e w' => e = .returned (.bool (eqB xs ys)) ∧ Below w.heap.size w w' := by
  have HA : Hid (Bags w a la xs) := ha
  have HB : Hid (Bags w b lb ys) := hb
  have LA : Hid (xs.length = la) := ha.1.1
  have LB : Hid (ys.length = lb) := hb.1.1
  have he := eq_run
  clear ha hb
  by_cases hl : la = lb
  · subst hl
    go_enter Tryz.func20, Tryz.ntmps20
    go_wp2
    go_loopw [5] (fun i wr => ∃ k : Nat, k ≤ la ∧ i = .int .i64 k ∧ Hid (∀ j, j < k → xs.getD j zr = ys.getD j zr) ∧ Below w.heap.size w wr) (fun i _ => la - (intOf i).toNat)
    case atStart => exact ⟨0, by omega, rfl, fun j h => by omega, Below.refl _ _⟩
    case round =>
      obtain ⟨k, hk, rfl, hok, hnx⟩ := hrel
      by_cases hlt : k < la
      · have hlt' : (k : Int) < la := by omega
        obtain ⟨b1, o1, h1, l1, t1⟩ := (HA.out.below hnx).row (k := k) hlt
        obtain ⟨b2, o2, h2, l2, t2⟩ := (HB.out.below hnx).row (k := k) hlt
        subst h1 h2
        obtain ⟨c0, c1⟩ := t1 k (by rw [LA.out]; exact hlt)
        obtain ⟨d0, d1⟩ := t2 k (by rw [LB.out]; exact hlt)
        clear t1 t2
        obtain ⟨x, hx⟩ : ∃ x, x = xs.getD k zr := ⟨_, rfl⟩
        obtain ⟨y, hy⟩ : ∃ y, y = ys.getD k zr := ⟨_, rfl⟩
        have HX : Hid (x = xs.getD k zr) := hx
        have HY : Hid (y = ys.getD k zr) := hy
        rw [← hx] at c0 c1
        rw [← hy] at d0 d1
        clear hx hy
        obtain ⟨x1, x2⟩ := x
        obtain ⟨y1, y2⟩ := y
        simp only at c0 c1 d0 d1
        cases hq : rowEq x1 x2 y1 y2 with
        | true =>
          have hok' : Hid (∀ j, j < k + 1 → xs.getD j zr = ys.getD j zr) := fun j hj => by
            rcases Nat.lt_or_ge j k with h | h
            · exact hok.out j h
            · obtain rfl : j = k := by omega
              rw [← HX.out, ← HY.out]; exact rowEq_iff.1 hq
          go_wp2
          go_quiet (fail)
          go_wp2
          go_roundw
          case rel => exact ⟨k + 1, by omega, by go_num, hok', below_drewN hnx _⟩
          case measure => simp [intOf]; omega
        | false =>
          have E : Hid (eqB xs ys = false) := decide_eq_false fun e => by
            have : rowEq x1 x2 y1 y2 = true := rowEq_iff.2 (by rw [HX.out, HY.out, e])
            rw [hq] at this; cases this
          go_wp2
          go_quiet (fail)
          go_wp2
          go_ret
          exact ⟨by rw [E.out]; rfl, below_drewN hnx _⟩
      · have E : Hid (eqB xs ys = true) := decide_eq_true (list_ext (by rw [LA.out, LB.out]) fun j hj => hok.out j (by rw [LA.out] at hj; omega))
        go_wp2
        go_ret
        exact ⟨by rw [E.out]; rfl, hnx⟩
  · have hl' : ¬ (la : Int) = lb := by omega
    have E : Hid (eqB xs ys = false) := decide_eq_false fun e => hl (by rw [← LA.out, ← LB.out, e])
    go_enter Tryz.func20, Tryz.ntmps20
    go_wp2
    go_ret
    exact ⟨by rw [E.out]; rfl, Below.refl _ _⟩
end Go.Proofs.YtnjpblmplneojaaGreatDoor.Bag
