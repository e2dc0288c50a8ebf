/- Numbers side by side (the document's own Ints), and calls whose answers are known: contracts, over the turned program. -/
import Derived.Test.YtoinepmlbcnbgaaBagList
import Derived.Test.YtoinepmlbcnbgaaBagCompare
namespace Go.Proofs.Ytoinepmlbcnbgaa.Bag
open Go.RowKit Go.Maps Go.Proofs.Ytoinepmlbcnbgaa.Frame
set_option linter.unusedVariables false

theorem list_ext_z {xs ys : List Int} (hl : xs.length = ys.length) (h : ∀ j, j < xs.length → xs.getD j 0 = ys.getD j 0) : xs = ys := by
  refine List.ext_getElem hl fun j h1 h2 => ?_
  have := h j h1
  rwa [getD_get 0 h1, getD_get 0 h2] at this
def eqI (xs ys : List Int) : Bool := decide (xs = ys)

set_option maxHeartbeats 1000000 in
theorem ints_any (a b : Option Addr) (la ca lb cb : Nat) (xs ys : List Int) (w : World) (ha : Nums w a la xs) (hb : Nums w b lb ys) (hla : la ≤ 1000000) (hlb : lb ≤ 1000000) :
    Calls Try.prog 19 #[.slice a la ca, .slice b lb cb] w fun e w' => e = .returned (.bool (eqI xs ys)) ∧ Below w.heap.size w w' := by
  have HA : Hid (Nums w a la xs) := ha
  have HB : Hid (Nums w b lb ys) := hb
  have LA : Hid (xs.length = la) := ha.1.1
  have LB : Hid (ys.length = lb) := hb.1.1
  clear ha hb
  by_cases hl : la = lb
  · subst hl
    go_enter Try.func19, Try.ntmps19
    go_wp2
    go_loopw [5] (fun i wr => ∃ k : Nat, k ≤ la ∧ i = .int .i64 k ∧ Hid (∀ j, j < k → xs.getD j 0 = ys.getD j 0) ∧ Below w.heap.size w wr) (fun i _ => la - (intOf i).toNat)
    case atStart => exact ⟨0, by omega, rfl, fun j h => by omega, Below.refl _ _⟩
    case round =>
      obtain ⟨k, hk, rfl, hok, hnx⟩ := hrel
      by_cases hlt : k < la
      · have hlt' : (k : Int) < la := by omega
        obtain ⟨b1, o1, h1, l1, c0⟩ := (HA.out.below hnx).at (k := k) hlt
        obtain ⟨b2, o2, h2, l2, d0⟩ := (HB.out.below hnx).at (k := k) hlt
        subst h1 h2
        obtain ⟨x, hx⟩ : ∃ x, x = xs.getD k 0 := ⟨_, rfl⟩
        obtain ⟨y, hy⟩ : ∃ y, y = ys.getD k 0 := ⟨_, rfl⟩
        have HX : Hid (x = xs.getD k 0) := hx
        have HY : Hid (y = ys.getD k 0) := hy
        rw [← hx] at c0
        rw [← hy] at d0
        clear hx hy
        cases hq : (x == y) with
        | true =>
          have hok' : Hid (∀ j, j < k + 1 → xs.getD j 0 = ys.getD j 0) := fun j hj => by
            rcases Nat.lt_or_ge j k with h | h
            · exact hok.out j h
            · obtain rfl : j = k := by omega
              rw [← HX.out, ← HY.out]; exact eq_of_beq hq
          go_wp2
          go_quiet (fail)
          go_wp2
          go_roundw
          case rel => exact ⟨k + 1, by omega, by go_num, hok', below_drewN hnx _⟩
          case measure => simp [intOf]; omega
        | false =>
          have E : Hid (eqI xs ys = false) := decide_eq_false fun e => by
            have : (x == y) = true := beq_iff_eq.2 (by rw [HX.out, HY.out, e])
            rw [hq] at this; cases this
          go_wp2
          go_quiet (fail)
          go_wp2
          go_ret
          exact ⟨by rw [E.out]; rfl, below_drewN hnx _⟩
      · have E : Hid (eqI xs ys = true) := decide_eq_true (list_ext_z (by rw [LA.out, LB.out]) fun j hj => hok.out j (by rw [LA.out] at hj; omega))
        go_wp2
        go_ret
        exact ⟨by rw [E.out]; rfl, hnx⟩
  · have hl' : ¬ (la : Int) = lb := by omega
    have E : Hid (eqI xs ys = false) := decide_eq_false fun e => hl (by rw [← LA.out, ← LB.out, e])
    go_enter Try.func19, Try.ntmps19
    go_wp2
    go_ret
    exact ⟨by rw [E.out]; rfl, Below.refl _ _⟩

/-- numbers that are laid -/
theorem nums_new (w : World) (zs : List Int) (cs : Array Value) (t : TypeId) (hc : cs = (zs.map fun z => Value.int .i64 z).toArray) (h : ∀ z ∈ zs, In64 z) : Nums (w.alloc (.cells cs t)) (some ⟨w.heap.size, 0, none⟩) zs.length zs := by
  subst hc
  refine ⟨⟨rfl, fun i hi => h _ (by rw [getD_get 0 hi]; exact List.getElem_mem _)⟩, .inr ⟨w.heap.size, 0, rfl, fun i hi => ?_⟩⟩
  rw [Nat.zero_add, getD_get 0 hi]
  simp [hi]
/-- rows that are laid -/
theorem bags_new (w : World) (rs : List Row) (cs : Array Value) (t : TypeId) (hc : cs = (cellsF rs).toArray) (h : Wf rs) : Bags (w.alloc (.cells cs t)) (some ⟨w.heap.size, 0, none⟩) rs.length rs := by
  subst hc
  refine ⟨⟨rfl, h⟩, .inr ⟨w.heap.size, 0, rfl, fun i hi => ?_⟩⟩
  obtain ⟨e0, e1⟩ := cellsF_at rs i hi
  rw [Nat.zero_add]
  constructor
  · simpa using e0
  · simpa using e1

/-- a bag that is known -/
def Kn (w : World) (a : Option Addr) (len : Nat) (rs : List Row) : Prop := Bags w a len rs
theorem Answer.known {w w' : World} {n : Nat} {c : Int → Int} {a : Option Addr} {len cap : Nat} {rs : List Row} (h : Answer w w' n c a len cap) (hr : Has c rs) : Bags w' a len rs := by
  obtain ⟨rs', h1, h2⟩ := h
  rw [hr.uniq h1.1]
  exact h2.bags
theorem of_known (a : Option Addr) (len cap : Nat) (zs : List Int) (rs : List Row) (w : World) (h : Nums w a len zs) (hl : len ≤ 100000) (hr : Has (ofC zs) rs) :
    Calls Try.prog 17 #[.slice a len cap] w fun e w' => ∃ a len' cap, e = .returned (.slice a len' cap) ∧ Hid (Bags w' a len' rs) ∧ Below w.heap.size w w' := by
  refine (of_any a len cap zs w h hl).mono ?_
  rintro e w' ⟨⟨a, l, c, he, hA⟩, hb⟩
  exact ⟨a, l, c, he, hA.known hr, hb⟩
theorem sum_known (a b : Option Addr) (la ca lb cb : Nat) (xs ys rs : List Row) (w : World) (ha : Bags w a la xs) (hb : Bags w b lb ys) (hla : la ≤ 100000) (hlb : lb ≤ 100000) (hx : RightP xs) (hy : RightP ys) (hf : fitsB xs ys = true) (hr : Has (sumC xs ys) rs) :
    Calls Try.prog 22 #[.slice a la ca, .slice b lb cb] w fun e w' => ∃ a len cap, e = .returned (.tuple #[.slice a len cap, .int .i64 0]) ∧ Hid (Bags w' a len rs) ∧ Below w.heap.size w w' := by
  refine (sum_right a b la ca lb cb xs ys w ha hb hla hlb hx hy).mono ?_
  rintro e w' ⟨h | ⟨_, a, l, c, he, hA⟩, hb⟩
  · rw [hf] at h; cases h.1
  · exact ⟨a, l, c, he, hA.known hr, hb⟩
theorem sum_full (a b : Option Addr) (la ca lb cb : Nat) (xs ys : List Row) (w : World) (ha : Bags w a la xs) (hb : Bags w b lb ys) (hla : la ≤ 100000) (hlb : lb ≤ 100000) (hx : RightP xs) (hy : RightP ys) (hf : fitsB xs ys = false) :
    Calls Try.prog 22 #[.slice a la ca, .slice b lb cb] w fun e w' => e = .returned (.tuple #[.slice none 0 0, .int .i64 2]) ∧ Below w.heap.size w w' := by
  refine (sum_right a b la ca lb cb xs ys w ha hb hla hlb hx hy).mono ?_
  rintro e w' ⟨h | ⟨h, _⟩, hb⟩
  · exact ⟨h.2, hb⟩
  · rw [hf] at h; cases h
theorem less_known (a b : Option Addr) (la ca lb cb : Nat) (xs ys rs : List Row) (w : World) (ha : Bags w a la xs) (hb : Bags w b lb ys) (hla : la ≤ 100000) (hlb : lb ≤ 100000) (hx : RightP xs) (hy : RightP ys) (hf : coversB xs ys = true) (hr : Has (lessC xs ys) rs) :
    Calls Try.prog 24 #[.slice a la ca, .slice b lb cb] w fun e w' => ∃ a len cap, e = .returned (.tuple #[.slice a len cap, .int .i64 0]) ∧ Hid (Bags w' a len rs) ∧ Below w.heap.size w w' := by
  refine (less_right a b la ca lb cb xs ys w ha hb hla hlb hx hy).mono ?_
  rintro e w' ⟨h | ⟨_, a, l, c, he, hA⟩, hb⟩
  · rw [hf] at h; cases h.1
  · exact ⟨a, l, c, he, hA.known hr, hb⟩
theorem less_token (a b : Option Addr) (la ca lb cb : Nat) (xs ys : List Row) (w : World) (ha : Bags w a la xs) (hb : Bags w b lb ys) (hla : la ≤ 100000) (hlb : lb ≤ 100000) (hx : RightP xs) (hy : RightP ys) (hf : coversB xs ys = false) :
    Calls Try.prog 24 #[.slice a la ca, .slice b lb cb] w fun e w' => e = .returned (.tuple #[.slice none 0 0, .int .i64 10]) ∧ Below w.heap.size w w' := by
  refine (less_right a b la ca lb cb xs ys w ha hb hla hlb hx hy).mono ?_
  rintro e w' ⟨h | ⟨h, _⟩, hb⟩
  · exact ⟨h.2, hb⟩
  · rw [hf] at h; cases h
theorem most_known (a b : Option Addr) (la ca lb cb : Nat) (xs ys rs : List Row) (w : World) (ha : Bags w a la xs) (hb : Bags w b lb ys) (hla : la ≤ 100000) (hlb : lb ≤ 100000) (hx : RightP xs) (hy : RightP ys) (hr : Has (mostC xs ys) rs) :
    Calls Try.prog 26 #[.slice a la ca, .slice b lb cb] w fun e w' => ∃ a len cap, e = .returned (.slice a len cap) ∧ Hid (Bags w' a len rs) ∧ Below w.heap.size w w' := by
  refine (most_right a b la ca lb cb xs ys w ha hb hla hlb hx hy).mono ?_
  rintro e w' ⟨⟨a, l, c, he, hA⟩, hb⟩
  exact ⟨a, l, c, he, hA.known hr, hb⟩
theorem Answer.bag {w w' : World} {n : Nat} {c : Int → Int} {a : Option Addr} {len cap : Nat} (h : Answer w w' n c a len cap) : ∃ rs, (Has c rs ∧ len ≤ n) ∧ Bags w' a len rs := by
  obtain ⟨rs, h1, h2⟩ := h
  exact ⟨rs, h1, h2.bags⟩
theorem of_ok (a : Option Addr) (len cap : Nat) (zs : List Int) (w : World) (h : Nums w a len zs) (hl : len ≤ 100000) :
    Calls Try.prog 17 #[.slice a len cap] w fun e w' => ∃ a len' cap rs, e = .returned (.slice a len' cap) ∧ Hid ((Has (ofC zs) rs ∧ len' ≤ len) ∧ Bags w' a len' rs) ∧ Below w.heap.size w w' := by
  refine (of_any a len cap zs w h hl).mono ?_
  rintro e w' ⟨⟨a, l, c, he, hA⟩, hb⟩
  obtain ⟨rs, hrs⟩ := hA.bag
  exact ⟨a, l, c, rs, he, hrs, hb⟩
theorem sum_ok (a b : Option Addr) (la ca lb cb : Nat) (xs ys : List Row) (w : World) (ha : Bags w a la xs) (hb : Bags w b lb ys) (hla : la ≤ 100000) (hlb : lb ≤ 100000) (hx : RightP xs) (hy : RightP ys) (hf : fitsB xs ys = true) :
    Calls Try.prog 22 #[.slice a la ca, .slice b lb cb] w fun e w' => ∃ a len cap rs, e = .returned (.tuple #[.slice a len cap, .int .i64 0]) ∧ Hid ((Has (sumC xs ys) rs ∧ len ≤ la + lb) ∧ Bags w' a len rs) ∧ Below w.heap.size w w' := by
  refine (sum_right a b la ca lb cb xs ys w ha hb hla hlb hx hy).mono ?_
  rintro e w' ⟨h | ⟨_, a, l, c, he, hA⟩, hb⟩
  · rw [hf] at h; cases h.1
  · obtain ⟨rs, hrs⟩ := hA.bag
    exact ⟨a, l, c, rs, he, hrs, hb⟩
theorem less_ok (a b : Option Addr) (la ca lb cb : Nat) (xs ys : List Row) (w : World) (ha : Bags w a la xs) (hb : Bags w b lb ys) (hla : la ≤ 100000) (hlb : lb ≤ 100000) (hx : RightP xs) (hy : RightP ys) (hf : coversB xs ys = true) :
    Calls Try.prog 24 #[.slice a la ca, .slice b lb cb] w fun e w' => ∃ a len cap rs, e = .returned (.tuple #[.slice a len cap, .int .i64 0]) ∧ Hid ((Has (lessC xs ys) rs ∧ len ≤ la + lb) ∧ Bags w' a len rs) ∧ Below w.heap.size w w' := by
  refine (less_right a b la ca lb cb xs ys w ha hb hla hlb hx hy).mono ?_
  rintro e w' ⟨h | ⟨_, a, l, c, he, hA⟩, hb⟩
  · rw [hf] at h; cases h.1
  · obtain ⟨rs, hrs⟩ := hA.bag
    exact ⟨a, l, c, rs, he, hrs, hb⟩
theorem most_ok (a b : Option Addr) (la ca lb cb : Nat) (xs ys : List Row) (w : World) (ha : Bags w a la xs) (hb : Bags w b lb ys) (hla : la ≤ 100000) (hlb : lb ≤ 100000) (hx : RightP xs) (hy : RightP ys) :
    Calls Try.prog 26 #[.slice a la ca, .slice b lb cb] w fun e w' => ∃ a len cap rs, e = .returned (.slice a len cap) ∧ Hid ((Has (mostC xs ys) rs ∧ len ≤ la + lb) ∧ Bags w' a len rs) ∧ Below w.heap.size w w' := by
  refine (most_right a b la ca lb cb xs ys w ha hb hla hlb hx hy).mono ?_
  rintro e w' ⟨⟨a, l, c, he, hA⟩, hb⟩
  obtain ⟨rs, hrs⟩ := hA.bag
  exact ⟨a, l, c, rs, he, hrs, hb⟩
end Go.Proofs.Ytoinepmlbcnbgaa.Bag
