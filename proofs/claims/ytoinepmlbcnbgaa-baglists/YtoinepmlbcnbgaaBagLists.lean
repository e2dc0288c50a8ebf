/- BagLists holds: for all bags b and numbers l the law returns true, and leaves its arguments as they were. No condition. -/
import Derived.Test.YtoinepmlbcnbgaaBagSmall
import Derived.Test.YtoinepmlbcnbgaaBagLaws
import Derived.Test.YtoinepmlbcnbgaaBagOpen
namespace Go.Proofs.Ytoinepmlbcnbgaa.bagLists
open Go.ChangeShapes Go.WideShapes Go.ChangeAt Go.RowKit Go.Proofs.Ytoinepmlbcnbgaa.Frame Go.Proofs.Ytoinepmlbcnbgaa.Bag
set_option linter.unusedVariables false

theorem own_slice {w : World} {base : Nat} {e : TypeId} {size : Nat} {v : Value} {n : Nat} {xs : List Value} (h : w.ownsRow base e size v n xs) : ∃ a c, v = .slice a n c := by
  rcases h.2 with ⟨h1, h2⟩ | ⟨g, c, cur, h1, _⟩
  · exact ⟨none, 0, by rw [h1, h2]⟩
  · exact ⟨_, c, h1⟩
theorem own_nums {w : World} {base : Nat} {a : Option Addr} {n c : Nat} {l : List Int} (h : w.ownsRow base 3 1 (.slice a n c) n (l.map fun z => Value.int .i64 z)) (hl : ∀ z ∈ l, In64 z) : Nums w a n l := by
  have hn : l.length = n := by have := h.1; simpa using this
  refine ⟨⟨hn, fun i hi => hl _ (by rw [getD_get 0 hi]; exact List.getElem_mem _)⟩, ?_⟩
  rcases h.2 with ⟨_, h0⟩ | ⟨g, c', cur, hv, _⟩
  · exact .inl h0
  · simp only [Value.slice.injEq] at hv
    obtain ⟨rfl, _, rfl⟩ := hv
    refine .inr ⟨g, 0, rfl, fun i hi => ?_⟩
    rw [Nat.zero_add, h.cellAt i (by omega), List.getElem?_map, getD_get 0 (by omega), List.getElem?_eq_getElem (by omega)]
    rfl
/-- how many are not below 0 -/
def nonneg (l : List Int) : Nat := (l.filter fun x => decide (0 ≤ x)).length
theorem nonneg_snoc (l : List Int) (x : Int) : nonneg (l ++ [x]) = nonneg l + if 0 ≤ x then 1 else 0 := by
  unfold nonneg
  rw [List.filter_append, List.length_append]
  by_cases h : 0 ≤ x <;> simp [h]
theorem nonneg_le (l : List Int) : nonneg l ≤ l.length := List.length_filter_le _ _
theorem nums_in {w : World} {a : Option Addr} {n : Nat} {l : List Int} (h : Nums w a n l) : ∀ z ∈ l, In64 z := fun z hz => by
  obtain ⟨i, hi, rfl⟩ := List.getElem_of_mem hz
  have := h.1.2 i hi
  rwa [getD_get 0 hi] at this

set_option maxHeartbeats 4000000 in
set_option maxRecDepth 100000 in
theorem long0 (a0 : Option Addr) (len0 cap0 : Nat) (xs : List Row) (a1 : Option Addr) (len1 cap1 : Nat) (zs : List Int) (w : World) (g0 : Bags w a0 len0 xs) (g1 : Nums w a1 len1 zs) (l0 : 20 < len0) :
    Calls Try.prog 8 #[.slice a0 len0 cap0, .slice a1 len1 cap1] w fun e w' => e = .returned (.bool true) ∧ Below w.heap.size w w' := by
  have hA : Hid (Bags w a0 len0 xs) := g0
  have hL : Hid (Nums w a1 len1 zs) := g1
  clear g0 g1
  have l0' : (20 : Int) < len0 := by omega
  go_enter Try.func8, Try.ntmps8
  go_wp2_with fail
  refine (small_any _).mono ?_
  rintro e w1 ⟨he, hb⟩
  subst he
  have B1 : Hid (Below w.heap.size w w1) := (hb)
  clear hb
  go_wp2
  go_ret
  exact ⟨rfl, B1.out⟩

set_option maxHeartbeats 4000000 in
set_option maxRecDepth 100000 in
theorem long1 (a0 : Option Addr) (len0 cap0 : Nat) (xs : List Row) (a1 : Option Addr) (len1 cap1 : Nat) (zs : List Int) (w : World) (g0 : Bags w a0 len0 xs) (g1 : Nums w a1 len1 zs) (l0 : ¬ 20 < len0) (l1 : 100 < len1) :
    Calls Try.prog 8 #[.slice a0 len0 cap0, .slice a1 len1 cap1] w fun e w' => e = .returned (.bool true) ∧ Below w.heap.size w w' := by
  have hA : Hid (Bags w a0 len0 xs) := g0
  have hL : Hid (Nums w a1 len1 zs) := g1
  clear g0 g1
  have l0' : ¬ (20 : Int) < len0 := by omega
  have l1' : (100 : Int) < len1 := by omega
  go_enter Try.func8, Try.ntmps8
  go_wp2_with fail
  refine (small_any _).mono ?_
  rintro e w1 ⟨he, hb⟩
  subst he
  have B1 : Hid (Below w.heap.size w w1) := (hb)
  clear hb
  go_wp2
  go_ret
  exact ⟨rfl, B1.out⟩

set_option maxHeartbeats 4000000 in
set_option maxRecDepth 100000 in
theorem big (a0 : Option Addr) (len0 cap0 : Nat) (xs : List Row) (a1 : Option Addr) (len1 cap1 : Nat) (zs : List Int) (w : World) (g0 : Bags w a0 len0 xs) (g1 : Nums w a1 len1 zs) (l0 : ¬ 20 < len0) (l1 : ¬ 100 < len1) (t : Int) (T : Hid (totalB xs = t)) (t0 : 1000 < t) :
    Calls Try.prog 8 #[.slice a0 len0 cap0, .slice a1 len1 cap1] w fun e w' => e = .returned (.bool true) ∧ Below w.heap.size w w' := by
  have hA : Hid (Bags w a0 len0 xs) := g0
  have hL : Hid (Nums w a1 len1 zs) := g1
  clear g0 g1
  have l0' : ¬ (20 : Int) < len0 := by omega
  have l1' : ¬ (100 : Int) < len1 := by omega
  go_enter Try.func8, Try.ntmps8
  go_wp2_with fail
  refine (small_any _).mono ?_
  rintro e w1 ⟨he, hb⟩
  subst he
  have B1 : Hid (Below w.heap.size w w1) := (hb)
  clear hb
  go_wp2_with fail
  refine (Total_any _ _ _ xs _ (hA.out.below B1.out) (by omega)).mono ?_
  rintro e w2 ⟨he, hb⟩
  subst he
  rw [T.out]
  have B2 : Hid (Below w.heap.size w w2) := then_ B1.out (hb)
  clear hb
  clear B1
  go_wp2
  go_ret
  exact ⟨rfl, B2.out⟩

set_option maxHeartbeats 4000000 in
set_option maxRecDepth 100000 in
theorem way_wrong (a0 : Option Addr) (len0 cap0 : Nat) (xs : List Row) (a1 : Option Addr) (len1 cap1 : Nat) (zs : List Int) (w : World) (g0 : Bags w a0 len0 xs) (g1 : Nums w a1 len1 zs) (l0 : ¬ 20 < len0) (l1 : ¬ 100 < len1) (t : Int) (T : Hid (totalB xs = t)) (t0 : ¬ 1000 < t) (R0 : Hid (rightB xs = false)) :
    Calls Try.prog 8 #[.slice a0 len0 cap0, .slice a1 len1 cap1] w fun e w' => e = .returned (.bool true) ∧ Below w.heap.size w w' := by
  have hA : Hid (Bags w a0 len0 xs) := g0
  have hL : Hid (Nums w a1 len1 zs) := g1
  clear g0 g1
  have l0' : ¬ (20 : Int) < len0 := by omega
  have l1' : ¬ (100 : Int) < len1 := by omega
  obtain ⟨i0, hi, hz0, hz1, hz2⟩ := info_parts intInfo
  have hml : (1000000 : Nat) ≤ maxLen := by decide
  have HZ : Hid (zs.length = len1) := hL.out.1.1
  go_enter Try.func8, Try.ntmps8
  go_wp2_with fail
  refine (small_any _).mono ?_
  rintro e w1 ⟨he, hb⟩
  subst he
  have B1 : Hid (Below w.heap.size w w1) := (hb)
  clear hb
  go_wp2_with fail
  refine (Total_any _ _ _ xs _ (hA.out.below B1.out) (by omega)).mono ?_
  rintro e w2 ⟨he, hb⟩
  subst he
  rw [T.out]
  have B2 : Hid (Below w.heap.size w w2) := then_ B1.out (hb)
  clear hb
  clear B1
  go_wp2
  go_loopw [6, 7] (fun v i wr => ∃ (j : Nat) (a : Option Addr) (c : Nat), j ≤ len1 ∧ i = .int .i64 ((j : Int) - 1) ∧ v = .slice a (len1 - j) c ∧ Hid (wr.ownsRow w.heap.size 3 1 (.slice a (len1 - j) c) (len1 - j) ((zs.drop j).reverse.map fun z => Value.int .i64 z)) ∧ Below w.heap.size w wr) (fun _ i _ => (intOf i + 1).toNat)
  case atStart => exact ⟨len1, none, 0, by omega, rfl, by simp, (show World.ownsRow _ _ _ _ _ _ _ by rw [Nat.sub_self, List.drop_of_length_le (by rw [HZ.out]; omega)]; exact World.ownsRow_nil _ _ _ _), B2.out⟩
  case round =>
    obtain ⟨j, ba, bc, hj, rfl, rfl, hO, hnx⟩ := hrel
    clear B2
    by_cases hj0 : 0 < j
    · have hjz : (0 : Int) ≤ (j : Int) - 1 := by omega
      have hjl : (j : Int) - 1 < len1 := by omega
      obtain ⟨b, off, hb, hbl, c0⟩ := (hL.out.below hnx).at (k := j - 1) (by omega)
      subst hb
      obtain ⟨m, hm⟩ : ∃ m, m = zs.getD (j - 1) 0 := ⟨_, rfl⟩
      rw [← hm] at c0
      have ST : Hid ((zs.drop (j - 1)).reverse = (zs.drop j).reverse ++ [m]) := (show _ = _ by
        rw [List.drop_eq_getElem_cons (show j - 1 < zs.length by rw [HZ.out]; omega), List.reverse_cons, show j - 1 + 1 = j by omega, hm, getD_get 0 (by rw [HZ.out]; omega)])
      clear hm
      have hws := hnx.size
      go_wp2_with (first
        | (at_builtin; refine wpList_append_own _ rfl _ _ 24 rfl w.heap.size 3 i0 (.int .i64 0) 1 8 Try.underlying24 hi hz0 hz1 hz2 rfl (by decide) _ _ _ rfl (hO.out.alloc _) ⟨wr.heap.size, 0, none⟩ 1 1 [.int .i64 m] rfl rfl (cell_one_new _ _ _) (by simp [Value.oneCell']) (by omega) (by omega) (by simp; omega) ?_; intro v' w1 hown' hgrow hnil)
        | go_in)
      obtain ⟨a', c', rfl⟩ := own_slice hown'
      have N1 : World.ownsRow w1 w.heap.size 3 1 (.slice a' (len1 - (j - 1)) c') (len1 - (j - 1)) ((zs.drop (j - 1)).reverse.map fun z => Value.int .i64 z) := by
        rw [ST.out, List.map_append, show len1 - (j - 1) = len1 - j + 1 by omega]
        exact hown'
      have N2 : Below w.heap.size w w1 := (hnx.alloc hws _).grown hgrow (by simp; omega) (fun k hk => (hO.out.lt k hk).1)
      go_roundw
      case rel => exact ⟨j - 1, a', c', by omega, by go_num, by rw [show len1 - (j - 1) = len1 - j + 1 by omega], N1, N2⟩
      case measure => simp [intOf]; omega
    · obtain rfl : j = 0 := by omega
      have hBk : Hid (Nums wr ba len1 zs.reverse) := own_nums (by have := hO.out; simpa using this) (fun z hz => nums_in hL.out z (List.mem_reverse.1 hz))
      have D0 : Hid (Below w.heap.size w wr) := hnx
      clear hO hnx
      obtain ⟨wz, hwz⟩ : ∃ wz, wz = wr := ⟨_, rfl⟩
      subst hwz
      go_wp2_with fail
      refine (right_any _ _ _ xs _ (hA.out.below D0.out) (by omega)).mono ?_
      rintro e v1 ⟨he, hb⟩
      subst he
      rw [R0.out]
      have D1 : Hid (Below w.heap.size w v1) := then_ D0.out hb
      have hBk : Hid (Nums v1 _ _ _) := hBk.out.below hb
      clear hb
      go_wp2_with fail
      refine (of_ok _ _ _ zs _ (hL.out.below D1.out) (by omega)).mono ?_
      rintro e v5 ⟨pa, pn, pc, os, he, q5, hb⟩
      subst he
      have O : Hid (Has (ofC zs) os) := q5.out.1.1
      have lo := q5.out.1.2
      have hO : Hid (Bags v5 _ _ _) := q5.out.2
      clear q5
      have D5 : Hid (Below w.heap.size w v5) := then_ D1.out hb
      have hBk : Hid (Nums v5 _ _ _) := hBk.out.below hb
      clear hb
      go_wp2
      go_loopw [9, 10] (fun c i wr => ∃ k : Nat, k ≤ len1 ∧ i = .int .i64 k ∧ c = .int .i64 (nonneg (zs.take k) : Nat) ∧ wr = v5) (fun _ i _ => len1 - (intOf i).toNat)
      case atStart => exact ⟨0, by omega, rfl, rfl, rfl⟩
      case round =>
        obtain ⟨k, hk, rfl, rfl, hwk⟩ := hrel
        subst hwk
        by_cases hlt : k < len1
        · have hlt' : (k : Int) < len1 := by omega
          obtain ⟨b, off, hb, hbl, c0⟩ := (hL.out.below D5.out).at (k := k) hlt
          subst hb
          obtain ⟨m, hm⟩ : ∃ m, m = zs.getD k 0 := ⟨_, rfl⟩
          rw [← hm] at c0
          have hkl : k < zs.length := by rw [HZ.out]; exact hlt
          have ST := nonneg_snoc (zs.take k) m
          rw [hm, ← take_snoc_z hkl, ← hm] at ST
          have hle := nonneg_le (zs.take k)
          rw [List.length_take] at hle
          obtain ⟨u, hu⟩ : ∃ u, u = nonneg (zs.take k) := ⟨_, rfl⟩
          rw [← hu] at ST hle ⊢
          have hu6 : u ≤ 100 := by omega
          clear hm hu hle hkl
          by_cases h0 : m < 0
          · have S2 : Hid (nonneg (zs.take (k + 1)) = u) := (show _ = _ by rw [ST, if_neg (by omega)]; rfl)
            clear ST
            go_wp2
            go_roundw
            case rel => exact ⟨k + 1, by omega, by go_num, by rw [S2.out], trivial⟩
            case measure => simp [intOf]; omega
          · have h0' : (0 : Int) ≤ m := by omega
            have S2 : Hid (nonneg (zs.take (k + 1)) = u + 1) := (show _ = _ by rw [ST, if_pos h0'])
            clear ST
            go_wp2
            go_roundw
            case rel => exact ⟨k + 1, by omega, by go_num, by rw [S2.out]; go_num, trivial⟩
            case measure => simp [intOf]; omega
        · have E : nonneg (zs.take k) = nonneg zs := by rw [List.take_of_length_le (by rw [HZ.out]; omega)]
          rw [E]
          go_wp2_with fail
          refine (of_ok _ _ _ zs.reverse _ hBk.out (by omega)).mono ?_
          rintro e v6 ⟨ra, rn, rc, bs, he, q6, hb⟩
          subst he
          have P : Hid (Has (ofC zs.reverse) bs) := q6.out.1.1
          have lp := q6.out.1.2
          have hP : Hid (Bags v6 _ _ _) := q6.out.2
          clear q6
          have D6 : Hid (Below w.heap.size w v6) := then_ D5.out hb
          have hBk : Hid (Nums v6 _ _ _) := hBk.out.below hb
          have hO : Hid (Bags v6 _ _ _) := hO.out.below hb
          clear hb
          go_wp2_with fail
          refine (same_any _ _ _ _ _ _ os bs _ hO.out hP.out (by omega) (by omega)).mono ?_
          rintro e v7 ⟨he, hb⟩
          subst he
          rw [same_of O.out (P.out.of fun m => ofC_perm (List.reverse_perm zs) m)]
          have D7 : Hid (Below w.heap.size w v7) := then_ D6.out hb
          have hBk : Hid (Nums v7 _ _ _) := hBk.out.below hb
          have hO : Hid (Bags v7 _ _ _) := hO.out.below hb
          clear hb
          go_wp2_with fail
          refine (right_any _ _ _ os _ hO.out (by omega)).mono ?_
          rintro e v8 ⟨he, hb⟩
          subst he
          rw [rightB_iff.2 O.out.1]
          have D8 : Hid (Below w.heap.size w v8) := then_ D7.out hb
          have hBk : Hid (Nums v8 _ _ _) := hBk.out.below hb
          have hO : Hid (Bags v8 _ _ _) := hO.out.below hb
          clear hb
          go_wp2_with fail
          refine (Total_any _ _ _ os _ hO.out (by omega)).mono ?_
          rintro e v9 ⟨he, hb⟩
          subst he
          rw [totalB_right O.out.1, of_total O.out (by rw [HZ.out]; omega)]
          rw [show (zs.filter fun x => decide (0 ≤ x)).length = nonneg zs from rfl]
          have D9 : Hid (Below w.heap.size w v9) := then_ D8.out hb
          have hBk : Hid (Nums v9 _ _ _) := hBk.out.below hb
          have hO : Hid (Bags v9 _ _ _) := hO.out.below hb
          clear hb
          go_wp2
          go_ret
          exact ⟨rfl, D9.out⟩

set_option maxHeartbeats 4000000 in
set_option maxRecDepth 100000 in
theorem way_right (a0 : Option Addr) (len0 cap0 : Nat) (xs : List Row) (a1 : Option Addr) (len1 cap1 : Nat) (zs : List Int) (w : World) (g0 : Bags w a0 len0 xs) (g1 : Nums w a1 len1 zs) (l0 : ¬ 20 < len0) (l1 : ¬ 100 < len1) (t : Int) (T : Hid (totalB xs = t)) (t0 : ¬ 1000 < t) (R0 : Hid (rightB xs = true)) (X : Hid (RightP xs)) (Q : Hid (listB xs 2000 = listF xs)) (L6 : Hid ((listF xs).length ≤ 100000)) (QH : Hid (Has (ofC (listF xs)) xs)) :
    Calls Try.prog 8 #[.slice a0 len0 cap0, .slice a1 len1 cap1] w fun e w' => e = .returned (.bool true) ∧ Below w.heap.size w w' := by
  have hA : Hid (Bags w a0 len0 xs) := g0
  have hL : Hid (Nums w a1 len1 zs) := g1
  clear g0 g1
  have l0' : ¬ (20 : Int) < len0 := by omega
  have l1' : ¬ (100 : Int) < len1 := by omega
  obtain ⟨i0, hi, hz0, hz1, hz2⟩ := info_parts intInfo
  have hml : (1000000 : Nat) ≤ maxLen := by decide
  have HZ : Hid (zs.length = len1) := hL.out.1.1
  go_enter Try.func8, Try.ntmps8
  go_wp2_with fail
  refine (small_any _).mono ?_
  rintro e w1 ⟨he, hb⟩
  subst he
  have B1 : Hid (Below w.heap.size w w1) := (hb)
  clear hb
  go_wp2_with fail
  refine (Total_any _ _ _ xs _ (hA.out.below B1.out) (by omega)).mono ?_
  rintro e w2 ⟨he, hb⟩
  subst he
  rw [T.out]
  have B2 : Hid (Below w.heap.size w w2) := then_ B1.out (hb)
  clear hb
  clear B1
  go_wp2
  go_loopw [6, 7] (fun v i wr => ∃ (j : Nat) (a : Option Addr) (c : Nat), j ≤ len1 ∧ i = .int .i64 ((j : Int) - 1) ∧ v = .slice a (len1 - j) c ∧ Hid (wr.ownsRow w.heap.size 3 1 (.slice a (len1 - j) c) (len1 - j) ((zs.drop j).reverse.map fun z => Value.int .i64 z)) ∧ Below w.heap.size w wr) (fun _ i _ => (intOf i + 1).toNat)
  case atStart => exact ⟨len1, none, 0, by omega, rfl, by simp, (show World.ownsRow _ _ _ _ _ _ _ by rw [Nat.sub_self, List.drop_of_length_le (by rw [HZ.out]; omega)]; exact World.ownsRow_nil _ _ _ _), B2.out⟩
  case round =>
    obtain ⟨j, ba, bc, hj, rfl, rfl, hO, hnx⟩ := hrel
    clear B2
    by_cases hj0 : 0 < j
    · have hjz : (0 : Int) ≤ (j : Int) - 1 := by omega
      have hjl : (j : Int) - 1 < len1 := by omega
      obtain ⟨b, off, hb, hbl, c0⟩ := (hL.out.below hnx).at (k := j - 1) (by omega)
      subst hb
      obtain ⟨m, hm⟩ : ∃ m, m = zs.getD (j - 1) 0 := ⟨_, rfl⟩
      rw [← hm] at c0
      have ST : Hid ((zs.drop (j - 1)).reverse = (zs.drop j).reverse ++ [m]) := (show _ = _ by
        rw [List.drop_eq_getElem_cons (show j - 1 < zs.length by rw [HZ.out]; omega), List.reverse_cons, show j - 1 + 1 = j by omega, hm, getD_get 0 (by rw [HZ.out]; omega)])
      clear hm
      have hws := hnx.size
      go_wp2_with (first
        | (at_builtin; refine wpList_append_own _ rfl _ _ 24 rfl w.heap.size 3 i0 (.int .i64 0) 1 8 Try.underlying24 hi hz0 hz1 hz2 rfl (by decide) _ _ _ rfl (hO.out.alloc _) ⟨wr.heap.size, 0, none⟩ 1 1 [.int .i64 m] rfl rfl (cell_one_new _ _ _) (by simp [Value.oneCell']) (by omega) (by omega) (by simp; omega) ?_; intro v' w1 hown' hgrow hnil)
        | go_in)
      obtain ⟨a', c', rfl⟩ := own_slice hown'
      have N1 : World.ownsRow w1 w.heap.size 3 1 (.slice a' (len1 - (j - 1)) c') (len1 - (j - 1)) ((zs.drop (j - 1)).reverse.map fun z => Value.int .i64 z) := by
        rw [ST.out, List.map_append, show len1 - (j - 1) = len1 - j + 1 by omega]
        exact hown'
      have N2 : Below w.heap.size w w1 := (hnx.alloc hws _).grown hgrow (by simp; omega) (fun k hk => (hO.out.lt k hk).1)
      go_roundw
      case rel => exact ⟨j - 1, a', c', by omega, by go_num, by rw [show len1 - (j - 1) = len1 - j + 1 by omega], N1, N2⟩
      case measure => simp [intOf]; omega
    · obtain rfl : j = 0 := by omega
      have hBk : Hid (Nums wr ba len1 zs.reverse) := own_nums (by have := hO.out; simpa using this) (fun z hz => nums_in hL.out z (List.mem_reverse.1 hz))
      have D0 : Hid (Below w.heap.size w wr) := hnx
      clear hO hnx
      obtain ⟨wz, hwz⟩ : ∃ wz, wz = wr := ⟨_, rfl⟩
      subst hwz
      go_wp2_with fail
      refine (right_any _ _ _ xs _ (hA.out.below D0.out) (by omega)).mono ?_
      rintro e v1 ⟨he, hb⟩
      subst he
      rw [R0.out]
      have D1 : Hid (Below w.heap.size w v1) := then_ D0.out hb
      have hBk : Hid (Nums v1 _ _ _) := hBk.out.below hb
      clear hb
      go_wp2_with fail
      refine (list_any _ _ _ xs 2000 _ (hA.out.below D1.out) (by omega) (by decide)).mono ?_
      rintro e v2 ⟨⟨la, ln, lc, he, h2⟩, hb⟩
      subst he
      rw [Q.out] at h2
      have H2 : Hid (Nums v2 la ln (listF xs)) := h2
      have hln : ln ≤ 100000 := by rw [← h2.1.1]; exact L6.out
      clear h2
      have D2 : Hid (Below w.heap.size w v2) := then_ D1.out hb
      have hBk : Hid (Nums v2 _ _ _) := hBk.out.below hb
      clear hb
      go_wp2_with fail
      refine (of_known _ _ _ (listF xs) xs _ H2.out hln QH.out).mono ?_
      rintro e v3 ⟨oa, on, oc, he, h3, hb⟩
      subst he
      have D3 : Hid (Below w.heap.size w v3) := then_ D2.out hb
      have hBk : Hid (Nums v3 _ _ _) := hBk.out.below hb
      clear hb
      go_wp2_with fail
      refine (same_any _ _ _ _ _ _ xs xs _ h3.out (hA.out.below D3.out) (by rw [← h3.out.1.1, hA.out.1.1]; omega) (by omega)).mono ?_
      rintro e v4 ⟨he, hb⟩
      subst he
      rw [same_of (Has.self X.out) (Has.self X.out)]
      have D4 : Hid (Below w.heap.size w v4) := then_ D3.out hb
      have hBk : Hid (Nums v4 _ _ _) := hBk.out.below hb
      clear hb
      go_wp2_with fail
      refine (of_ok _ _ _ zs _ (hL.out.below D4.out) (by omega)).mono ?_
      rintro e v5 ⟨pa, pn, pc, os, he, q5, hb⟩
      subst he
      have O : Hid (Has (ofC zs) os) := q5.out.1.1
      have lo := q5.out.1.2
      have hO : Hid (Bags v5 _ _ _) := q5.out.2
      clear q5
      have D5 : Hid (Below w.heap.size w v5) := then_ D4.out hb
      have hBk : Hid (Nums v5 _ _ _) := hBk.out.below hb
      clear hb
      go_wp2
      go_loopw [9, 10] (fun c i wr => ∃ k : Nat, k ≤ len1 ∧ i = .int .i64 k ∧ c = .int .i64 (nonneg (zs.take k) : Nat) ∧ wr = v5) (fun _ i _ => len1 - (intOf i).toNat)
      case atStart => exact ⟨0, by omega, rfl, rfl, rfl⟩
      case round =>
        obtain ⟨k, hk, rfl, rfl, hwk⟩ := hrel
        subst hwk
        by_cases hlt : k < len1
        · have hlt' : (k : Int) < len1 := by omega
          obtain ⟨b, off, hb, hbl, c0⟩ := (hL.out.below D5.out).at (k := k) hlt
          subst hb
          obtain ⟨m, hm⟩ : ∃ m, m = zs.getD k 0 := ⟨_, rfl⟩
          rw [← hm] at c0
          have hkl : k < zs.length := by rw [HZ.out]; exact hlt
          have ST := nonneg_snoc (zs.take k) m
          rw [hm, ← take_snoc_z hkl, ← hm] at ST
          have hle := nonneg_le (zs.take k)
          rw [List.length_take] at hle
          obtain ⟨u, hu⟩ : ∃ u, u = nonneg (zs.take k) := ⟨_, rfl⟩
          rw [← hu] at ST hle ⊢
          have hu6 : u ≤ 100 := by omega
          clear hm hu hle hkl
          by_cases h0 : m < 0
          · have S2 : Hid (nonneg (zs.take (k + 1)) = u) := (show _ = _ by rw [ST, if_neg (by omega)]; rfl)
            clear ST
            go_wp2
            go_roundw
            case rel => exact ⟨k + 1, by omega, by go_num, by rw [S2.out], trivial⟩
            case measure => simp [intOf]; omega
          · have h0' : (0 : Int) ≤ m := by omega
            have S2 : Hid (nonneg (zs.take (k + 1)) = u + 1) := (show _ = _ by rw [ST, if_pos h0'])
            clear ST
            go_wp2
            go_roundw
            case rel => exact ⟨k + 1, by omega, by go_num, by rw [S2.out]; go_num, trivial⟩
            case measure => simp [intOf]; omega
        · have E : nonneg (zs.take k) = nonneg zs := by rw [List.take_of_length_le (by rw [HZ.out]; omega)]
          rw [E]
          go_wp2_with fail
          refine (of_ok _ _ _ zs.reverse _ hBk.out (by omega)).mono ?_
          rintro e v6 ⟨ra, rn, rc, bs, he, q6, hb⟩
          subst he
          have P : Hid (Has (ofC zs.reverse) bs) := q6.out.1.1
          have lp := q6.out.1.2
          have hP : Hid (Bags v6 _ _ _) := q6.out.2
          clear q6
          have D6 : Hid (Below w.heap.size w v6) := then_ D5.out hb
          have hBk : Hid (Nums v6 _ _ _) := hBk.out.below hb
          have hO : Hid (Bags v6 _ _ _) := hO.out.below hb
          clear hb
          go_wp2_with fail
          refine (same_any _ _ _ _ _ _ os bs _ hO.out hP.out (by omega) (by omega)).mono ?_
          rintro e v7 ⟨he, hb⟩
          subst he
          rw [same_of O.out (P.out.of fun m => ofC_perm (List.reverse_perm zs) m)]
          have D7 : Hid (Below w.heap.size w v7) := then_ D6.out hb
          have hBk : Hid (Nums v7 _ _ _) := hBk.out.below hb
          have hO : Hid (Bags v7 _ _ _) := hO.out.below hb
          clear hb
          go_wp2_with fail
          refine (right_any _ _ _ os _ hO.out (by omega)).mono ?_
          rintro e v8 ⟨he, hb⟩
          subst he
          rw [rightB_iff.2 O.out.1]
          have D8 : Hid (Below w.heap.size w v8) := then_ D7.out hb
          have hBk : Hid (Nums v8 _ _ _) := hBk.out.below hb
          have hO : Hid (Bags v8 _ _ _) := hO.out.below hb
          clear hb
          go_wp2_with fail
          refine (Total_any _ _ _ os _ hO.out (by omega)).mono ?_
          rintro e v9 ⟨he, hb⟩
          subst he
          rw [totalB_right O.out.1, of_total O.out (by rw [HZ.out]; omega)]
          rw [show (zs.filter fun x => decide (0 ≤ x)).length = nonneg zs from rfl]
          have D9 : Hid (Below w.heap.size w v9) := then_ D8.out hb
          have hBk : Hid (Nums v9 _ _ _) := hBk.out.below hb
          have hO : Hid (Bags v9 _ _ _) := hO.out.below hb
          clear hb
          go_wp2
          go_ret
          exact ⟨rfl, D9.out⟩

theorem walk (a0 : Option Addr) (len0 cap0 : Nat) (xs : List Row) (a1 : Option Addr) (len1 cap1 : Nat) (zs : List Int) (w : World) (g0 : Bags w a0 len0 xs) (g1 : Nums w a1 len1 zs) :
    Calls Try.prog 8 #[.slice a0 len0 cap0, .slice a1 len1 cap1] w fun e w' => e = .returned (.bool true) ∧ Below w.heap.size w w' := by
  by_cases l0 : 20 < len0
  · exact long0 a0 len0 cap0 xs a1 len1 cap1 zs w g0 g1 l0
  by_cases l1 : 100 < len1
  · exact long1 a0 len0 cap0 xs a1 len1 cap1 zs w g0 g1 l0 l1
  by_cases t0 : 1000 < totalB xs
  · exact big a0 len0 cap0 xs a1 len1 cap1 zs w g0 g1 l0 l1 _ rfl t0
  cases R0 : rightB xs with
  | false => exact way_wrong a0 len0 cap0 xs a1 len1 cap1 zs w g0 g1 l0 l1 _ rfl t0 R0
  | true =>
    have X := rightB_iff.1 R0
    rw [totalB_right X] at t0
    have hl := listF_length X
    have Q : listB xs 2000 = listF xs := by
      unfold listB
      rw [if_pos ⟨R0, by decide⟩]
      exact List.take_of_length_le (by show _ ≤ 2000; omega)
    exact way_right a0 len0 cap0 xs a1 len1 cap1 zs w g0 g1 l0 l1 _ (totalB_right X) t0 R0 X Q (show (listF xs).length ≤ 100000 by omega) (of_list X fun m => (cntF_range X m).2)

set_option maxRecDepth 100000 in
theorem lifted (os : Os) (started : os.Started) (H : Type) (enc : TypeId × Value → H) :
    ReturnsInHanded {} Try.checked os 8 .any (Rows.bagListsSpec.pre6 enc Try.prog Try.f8 Rows.bagListsRow.domain false) (Rows.bagListsSpec.post enc Try.prog Try.f8 false true false false) := by
  refine returnsInHanded_of_change (C := Try.checked) Frame.own started (by kernel_rfl) Try.func8
    (ChangeSpec.witness6 (enc := enc) (C := Try.checked) false ⟨#[], #[.slice none 0 0, .slice none 0 0], []⟩ 8 (by kernel_rfl) (by kernel_rfl) (by kernel_rfl) (by kernel_rfl)) ?_
  intro W base args ds gs before hval0 hW hcnd _
  have hval : ∀ (j : Nat) t v, Try.f8.params[j]? = some t → args[j]? = some v → Value.okWide Try.prog W .any base t v := hval0
  have hW' := hW
  obtain ⟨p, q, hA0, hV, rfl, hfz, hnd⟩ := hW
  have hA : DataW.TrodAll enc Try.prog W 0 (fun _ => true) true Try.f8.params.toList args.toList ds p := hA0
  rw [Try.params8] at hA hval
  obtain ⟨v0, vs0, d0, ds0, p0, q0, hargs, rfl, rfl, h0, r0⟩ := trodAll_cons hA
  obtain ⟨v1, vs1, d1, ds1, p1, q1, rfl, rfl, rfl, h1, r1⟩ := trodAll_cons r0
  obtain ⟨rfl, rfl, rfl⟩ := trodAll_nil r1
  obtain rfl : args = #[v0, v1] := by cases args; simp_all
  obtain ⟨rfl, rfl⟩ := trodVars_none hV
  obtain ⟨a0, len0, cap0, rfl⟩ := okWide_slice Try.underlying23 (hval 0 23 v0 rfl rfl)
  have k0 := h0
  have lt0 : ∀ x ∈ p0, x.block < W.heap.size := by obtain ⟨m, hm⟩ := k0; exact DataW.trod_lt m _ _ _ hm
  obtain ⟨fu0, hf0⟩ := h0
  obtain ⟨z0, w0⟩ := Bag.open_bags hf0
  obtain ⟨a1, len1, cap1, rfl⟩ := okWide_slice Try.underlying24 (hval 1 24 v1 rfl rfl)
  have k1 := h1
  have lt1 : ∀ x ∈ p1, x.block < W.heap.size := by obtain ⟨m, hm⟩ := k1; exact DataW.trod_lt m _ _ _ hm
  obtain ⟨fu1, hf1⟩ := h1
  obtain ⟨z1, w1⟩ := Bag.open_nums hf1
  clear hA0 hval0
  refine (walk a0 len0 cap0 z0 a1 len1 cap1 z1 W w0 w1).mono fun e W' ⟨he, bel⟩ => ?_
  subst he
  exact ⟨_, rfl, _, _, _, [], _, [], hW', trodAll_mk1 (shut_bool Try.underlying4 _), (trodAll_cons_mk (Below.trod Frame.laidOut (by kernel_rfl) (of_decide_eq_true (by kernel_rfl)) k0 bel lt0) (trodAll_cons_mk (Below.trod Frame.laidOut (by kernel_rfl) (of_decide_eq_true (by kernel_rfl)) k1 bel lt1) trodAll_mk0)), rfl, bel.frame _, fun h => by cases h⟩

theorem over : Rows.bagListsRow.holds Try.pinned (OpenSpec.ofChange Rows.bagListsSpec) :=
  OpenClaim.holds_of_wide 8 Try.f8 rfl rfl rfl rfl rfl rfl rfl ⟨rfl, rfl, rfl, rfl, rfl⟩ rfl rfl rfl rfl rfl (by kernel_rfl) Try.func8 (by kernel_rfl)
    (of_decide_eq_true (by kernel_rfl)) (by unfold Func.isWrapper; first | (rw [if_pos (by decide +kernel)]; kernel_rfl) | (rw [if_neg (by decide +kernel)]; exact ⟨rfl, rfl⟩))
    (fun os started H enc _ => lifted os started H enc)

theorem proved : Rows.BagListsSaid := over
end Go.Proofs.Ytoinepmlbcnbgaa.bagLists
