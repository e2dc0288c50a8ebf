/- Sum, Less and Most of both sides in one form; and rows that are written into: over the turned program. -/
import Derived.Test.YtoinepmlbcnbgaaBagRCompare
import Derived.Test.YtoinepmlbcnbgaaBagKnown
import Derived.Deep.OwnRows
namespace Go.Proofs.Ytoinepmlbcnbgaa.Bag
open Go.RowKit Go.Maps Go.Proofs.Ytoinepmlbcnbgaa.Frame
set_option linter.unusedVariables false

def bothB (xs ys : List Row) : Bool := rightB xs && rightB ys
/-- Sum's number, and its rows -/
def sumE (xs ys : List Row) : Int := if bothB xs ys then (if fitsB xs ys then 0 else 2) else 1
def SumIs (xs ys rs : List Row) : Prop := if bothB xs ys ∧ fitsB xs ys then Has (sumC xs ys) rs else rs = []
def lessE (xs ys : List Row) : Int := if bothB xs ys then (if coversB xs ys then 0 else 10) else 1
def LessIs (xs ys rs : List Row) : Prop := if bothB xs ys ∧ coversB xs ys then Has (lessC xs ys) rs else rs = []
def MostIs (xs ys rs : List Row) : Prop := if bothB xs ys then Has (mostC xs ys) rs else rs = []
theorem SumIs.uniq {xs ys rs ts : List Row} (h : SumIs xs ys rs) (k : SumIs xs ys ts) : rs = ts := by
  unfold SumIs at h k
  split at h
  · rename_i hc; rw [if_pos hc] at k; exact h.uniq k
  · rename_i hc; rw [if_neg hc] at k; rw [h, k]
theorem LessIs.uniq {xs ys rs ts : List Row} (h : LessIs xs ys rs) (k : LessIs xs ys ts) : rs = ts := by
  unfold LessIs at h k
  split at h
  · rename_i hc; rw [if_pos hc] at k; exact h.uniq k
  · rename_i hc; rw [if_neg hc] at k; rw [h, k]
theorem MostIs.uniq {xs ys rs ts : List Row} (h : MostIs xs ys rs) (k : MostIs xs ys ts) : rs = ts := by
  unfold MostIs at h k
  split at h
  · rename_i hc; rw [if_pos hc] at k; exact h.uniq k
  · rename_i hc; rw [if_neg hc] at k; rw [h, k]
theorem own_nil (w : World) (base : Nat) : Own w base none 0 0 [] := ⟨⟨rfl, fun i hi => by cases hi⟩, World.ownsRow_nil _ _ _ _⟩
theorem bags_nil (w : World) : Bags w none 0 [] := ⟨⟨rfl, fun i hi => by cases hi⟩, .inl rfl⟩

theorem sum_u (a b : Option Addr) (la ca lb cb : Nat) (xs ys : List Row) (w : World) (ha : Bags w a la xs) (hb : Bags w b lb ys) (hla : la ≤ 10000) (hlb : lb ≤ 10000) :
    Calls Try.prog 22 #[.slice a la ca, .slice b lb cb] w fun e w' => ∃ sa sl sc rs, e = .returned (.tuple #[.slice sa sl sc, .int .i64 (sumE xs ys)]) ∧ Hid ((SumIs xs ys rs ∧ sl ≤ la + lb) ∧ Own w' w.heap.size sa sl sc rs) ∧ Below w.heap.size w w' := by
  cases hr : bothB xs ys with
  | false =>
    refine (sum_wrong a b la ca lb cb xs ys w ha hb (by omega) (by omega) hr).mono ?_
    rintro e w' ⟨he, hb⟩
    exact ⟨none, 0, 0, [], by rw [he]; unfold sumE; rw [hr]; rfl, ⟨⟨by unfold SumIs; rw [if_neg (fun h => by rw [hr] at h; cases h.1)], by omega⟩, own_nil _ _⟩, hb⟩
  | true =>
    have hxy := Bool.and_eq_true_iff.1 hr
    refine (sum_right a b la ca lb cb xs ys w ha hb (by omega) (by omega) (rightB_iff.1 hxy.1) (rightB_iff.1 hxy.2)).mono ?_
    rintro e w' ⟨⟨hf, he⟩ | ⟨hf, sa, sl, sc, he, rs, h1, h2⟩, hb⟩
    · exact ⟨none, 0, 0, [], by rw [he]; unfold sumE; rw [hr, hf]; rfl, ⟨⟨by unfold SumIs; rw [if_neg (fun h => by rw [hf] at h; cases h.2)], by omega⟩, own_nil _ _⟩, hb⟩
    · exact ⟨sa, sl, sc, rs, by rw [he]; unfold sumE; rw [hr, hf]; rfl, ⟨⟨by unfold SumIs; rw [if_pos ⟨hr, hf⟩]; exact h1.1, h1.2⟩, h2⟩, hb⟩
theorem rsum_u (a b : Option Addr) (la ca lb cb : Nat) (xs ys : List Row) (w : World) (ha : Bags w a la xs) (hb : Bags w b lb ys) (hla : la ≤ 10000) (hlb : lb ≤ 10000) :
    Calls Try.prog 23 #[.slice a la ca, .slice b lb cb] w fun e w' => ∃ sa sl sc rs, e = .returned (.tuple #[.slice sa sl sc, .int .i64 (sumE xs ys)]) ∧ Hid ((SumIs xs ys rs ∧ sl ≤ la + lb) ∧ Bags w' sa sl rs) ∧ Below w.heap.size w w' := by
  cases hr : bothB xs ys with
  | false =>
    refine (rsum_wrong a b la ca lb cb xs ys w ha hb hla hlb hr).mono ?_
    rintro e w' ⟨he, hb⟩
    exact ⟨none, 0, 0, [], by rw [he]; unfold sumE; rw [hr]; rfl, ⟨⟨by unfold SumIs; rw [if_neg (fun h => by rw [hr] at h; cases h.1)], by omega⟩, bags_nil _⟩, hb⟩
  | true =>
    have hxy := Bool.and_eq_true_iff.1 hr
    refine (rsum_right a b la ca lb cb xs ys w ha hb hla hlb (rightB_iff.1 hxy.1) (rightB_iff.1 hxy.2)).mono ?_
    rintro e w' ⟨⟨hf, he⟩ | ⟨hf, sa, sl, sc, rs, he, h1, h2⟩, hb⟩
    · exact ⟨none, 0, 0, [], by rw [he]; unfold sumE; rw [hr, hf]; rfl, ⟨⟨by unfold SumIs; rw [if_neg (fun h => by rw [hf] at h; cases h.2)], by omega⟩, bags_nil _⟩, hb⟩
    · exact ⟨sa, sl, sc, rs, by rw [he]; unfold sumE; rw [hr, hf]; rfl, ⟨⟨by unfold SumIs; rw [if_pos ⟨hr, hf⟩]; exact h1.1, h1.2⟩, h2⟩, hb⟩
theorem less_u (a b : Option Addr) (la ca lb cb : Nat) (xs ys : List Row) (w : World) (ha : Bags w a la xs) (hb : Bags w b lb ys) (hla : la ≤ 10000) (hlb : lb ≤ 10000) :
    Calls Try.prog 24 #[.slice a la ca, .slice b lb cb] w fun e w' => ∃ sa sl sc rs, e = .returned (.tuple #[.slice sa sl sc, .int .i64 (lessE xs ys)]) ∧ Hid ((LessIs xs ys rs ∧ sl ≤ la + lb) ∧ Own w' w.heap.size sa sl sc rs) ∧ Below w.heap.size w w' := by
  cases hr : bothB xs ys with
  | false =>
    refine (less_wrong a b la ca lb cb xs ys w ha hb (by omega) (by omega) hr).mono ?_
    rintro e w' ⟨he, hb⟩
    exact ⟨none, 0, 0, [], by rw [he]; unfold lessE; rw [hr]; rfl, ⟨⟨by unfold LessIs; rw [if_neg (fun h => by rw [hr] at h; cases h.1)], by omega⟩, own_nil _ _⟩, hb⟩
  | true =>
    have hxy := Bool.and_eq_true_iff.1 hr
    refine (less_right a b la ca lb cb xs ys w ha hb (by omega) (by omega) (rightB_iff.1 hxy.1) (rightB_iff.1 hxy.2)).mono ?_
    rintro e w' ⟨⟨hf, he⟩ | ⟨hf, sa, sl, sc, he, rs, h1, h2⟩, hb⟩
    · exact ⟨none, 0, 0, [], by rw [he]; unfold lessE; rw [hr, hf]; rfl, ⟨⟨by unfold LessIs; rw [if_neg (fun h => by rw [hf] at h; cases h.2)], by omega⟩, own_nil _ _⟩, hb⟩
    · exact ⟨sa, sl, sc, rs, by rw [he]; unfold lessE; rw [hr, hf]; rfl, ⟨⟨by unfold LessIs; rw [if_pos ⟨hr, hf⟩]; exact h1.1, h1.2⟩, h2⟩, hb⟩
theorem rless_u (a b : Option Addr) (la ca lb cb : Nat) (xs ys : List Row) (w : World) (ha : Bags w a la xs) (hb : Bags w b lb ys) (hla : la ≤ 10000) (hlb : lb ≤ 10000) :
    Calls Try.prog 25 #[.slice a la ca, .slice b lb cb] w fun e w' => ∃ sa sl sc rs, e = .returned (.tuple #[.slice sa sl sc, .int .i64 (lessE xs ys)]) ∧ Hid ((LessIs xs ys rs ∧ sl ≤ la + lb) ∧ Bags w' sa sl rs) ∧ Below w.heap.size w w' := by
  cases hr : bothB xs ys with
  | false =>
    refine (rless_wrong a b la ca lb cb xs ys w ha hb hla hlb hr).mono ?_
    rintro e w' ⟨he, hb⟩
    exact ⟨none, 0, 0, [], by rw [he]; unfold lessE; rw [hr]; rfl, ⟨⟨by unfold LessIs; rw [if_neg (fun h => by rw [hr] at h; cases h.1)], by omega⟩, bags_nil _⟩, hb⟩
  | true =>
    have hxy := Bool.and_eq_true_iff.1 hr
    cases hf : coversB xs ys with
    | false =>
      refine (rless_token a b la ca lb cb xs ys w ha hb hla hlb (rightB_iff.1 hxy.1) (rightB_iff.1 hxy.2) hf).mono ?_
      rintro e w' ⟨he, hb⟩
      exact ⟨none, 0, 0, [], by rw [he]; unfold lessE; rw [hr, hf]; rfl, ⟨⟨by unfold LessIs; rw [if_neg (fun h => by rw [hf] at h; cases h.2)], by omega⟩, bags_nil _⟩, hb⟩
    | true =>
      refine (rless_ok a b la ca lb cb xs ys w ha hb hla hlb (rightB_iff.1 hxy.1) (rightB_iff.1 hxy.2) hf).mono ?_
      rintro e w' ⟨⟨h, _⟩ | ⟨_, sa, sl, sc, rs, he, h1, h2⟩, hb⟩
      · cases h
      · exact ⟨sa, sl, sc, rs, by rw [he]; unfold lessE; rw [hr, hf]; rfl, ⟨⟨by unfold LessIs; rw [if_pos ⟨hr, hf⟩]; exact h1.1, h1.2⟩, h2⟩, hb⟩
theorem most_u (a b : Option Addr) (la ca lb cb : Nat) (xs ys : List Row) (w : World) (ha : Bags w a la xs) (hb : Bags w b lb ys) (hla : la ≤ 10000) (hlb : lb ≤ 10000) :
    Calls Try.prog 26 #[.slice a la ca, .slice b lb cb] w fun e w' => ∃ sa sl sc rs, e = .returned (.slice sa sl sc) ∧ Hid ((MostIs xs ys rs ∧ sl ≤ la + lb) ∧ Own w' w.heap.size sa sl sc rs) ∧ Below w.heap.size w w' := by
  cases hr : bothB xs ys with
  | false =>
    refine (most_wrong a b la ca lb cb xs ys w ha hb (by omega) (by omega) hr).mono ?_
    rintro e w' ⟨he, hb⟩
    exact ⟨none, 0, 0, [], he, ⟨⟨by unfold MostIs; rw [if_neg (by rw [hr]; simp)], by omega⟩, own_nil _ _⟩, hb⟩
  | true =>
    have hxy := Bool.and_eq_true_iff.1 hr
    refine (most_right a b la ca lb cb xs ys w ha hb (by omega) (by omega) (rightB_iff.1 hxy.1) (rightB_iff.1 hxy.2)).mono ?_
    rintro e w' ⟨⟨sa, sl, sc, he, rs, h1, h2⟩, hb⟩
    exact ⟨sa, sl, sc, rs, he, ⟨⟨by unfold MostIs; rw [if_pos hr]; exact h1.1, h1.2⟩, h2⟩, hb⟩
theorem rmost_u (a b : Option Addr) (la ca lb cb : Nat) (xs ys : List Row) (w : World) (ha : Bags w a la xs) (hb : Bags w b lb ys) (hla : la ≤ 10000) (hlb : lb ≤ 10000) :
    Calls Try.prog 27 #[.slice a la ca, .slice b lb cb] w fun e w' => ∃ sa sl sc rs, e = .returned (.slice sa sl sc) ∧ Hid ((MostIs xs ys rs ∧ sl ≤ la + lb) ∧ Bags w' sa sl rs) ∧ Below w.heap.size w w' := by
  cases hr : bothB xs ys with
  | false =>
    refine (rmost_wrong a b la ca lb cb xs ys w ha hb hla hlb hr).mono ?_
    rintro e w' ⟨he, hb⟩
    exact ⟨none, 0, 0, [], he, ⟨⟨by unfold MostIs; rw [if_neg (by rw [hr]; simp)], by omega⟩, bags_nil _⟩, hb⟩
  | true =>
    have hxy := Bool.and_eq_true_iff.1 hr
    refine (rmost_right a b la ca lb cb xs ys w ha hb hla hlb (rightB_iff.1 hxy.1) (rightB_iff.1 hxy.2)).mono ?_
    rintro e w' ⟨rs, hH, ⟨⟨sa, sl, sc, he, h2, h1⟩, hb⟩⟩
    exact ⟨sa, sl, sc, rs, he, ⟨⟨by unfold MostIs; rw [if_pos hr]; exact hH, h1⟩, h2⟩, hb⟩

/-- rows that may be written: none, or a block of the call's own from 'lo' on, ahead of 'hi' -/
def Mine (wr : World) (a : Option Addr) (len lo hi : Nat) : Prop :=
  len = 0 ∨ ∃ g N f, a = some ⟨g, 0, none⟩ ∧ (lo ≤ g ∧ g < hi) ∧ len * 2 ≤ N ∧ wr.rowIs g 39 N f
theorem Own.mine {w : World} {base : Nat} {a : Option Addr} {len cap : Nat} {rs : List Row} (h : Own w base a len cap rs) : Mine w a len base w.heap.size := by
  rcases h.2.2 with ⟨_, h0⟩ | ⟨g, c, cur, hv, h1, h2, h3, h4, h5, h6⟩
  · exact .inl h0
  · simp only [Value.slice.injEq] at hv
    obtain ⟨rfl, _, rfl⟩ := hv
    refine .inr ⟨g, cur.size, fun j => cur.getD j undef, rfl, ⟨h1, (Array.getElem?_eq_some_iff.1 h2).1⟩, by rw [h5]; omega, cur, h2, rfl, fun i hi => ?_⟩
    simp [hi]
theorem Mine.below {w w' : World} {a : Option Addr} {len lo hi : Nat} (h : Mine w a len lo hi) (hb : Below w.heap.size w w') : Mine w' a len lo hi := by
  rcases h with h0 | ⟨g, N, f, ha, hg, hN, hr⟩
  · exact .inl h0
  · exact .inr ⟨g, N, f, ha, hg, hN, hr.of_block (hb.block g hr.lt)⟩
/-- what is written from a block 'lo' on -/
theorem grown_setCell (w : World) (a : Addr) (u : Value) : w.grownBy (w.setCell a u) (some a.block) :=
  ⟨rfl, rfl, rfl, by simp, fun k _ hk => Below.heap_setCell w a u k (fun e => hk (by rw [e]))⟩
theorem Mine.at {wr : World} {a : Option Addr} {len lo hi k : Nat} (h : Mine wr a len lo hi) (hk : k < len) : ∃ g, a = some ⟨g, 0, none⟩ ∧ (lo ≤ g ∧ g < hi) ∧ g < wr.heap.size ∧ (∃ v, wr.cell? ⟨g, k * 2, none⟩ = some v) ∧ wr.frozen? ⟨g, k * 2, none⟩ = false ∧
    ∀ u, Mine (wr.setCell ⟨g, k * 2, none⟩ u) a len lo hi := by
  rcases h with h0 | ⟨g, N, f, ha, hg, hN, hr⟩
  · omega
  · exact ⟨g, ha, hg, hr.lt, ⟨_, hr.cell (by omega)⟩, hr.frozen _, fun u => .inr ⟨g, N, _, ha, hg, hN, hr.set (k * 2) u⟩⟩
theorem Mine.other {wr : World} {a : Option Addr} {len lo hi : Nat} (h : Mine wr a len lo hi) {p : Addr} (hp : p.block < lo ∨ hi ≤ p.block) (u : Value) : Mine (wr.setCell p u) a len lo hi := by
  rcases h with h0 | ⟨g, N, f, ha, hg, hN, hr⟩
  · exact .inl h0
  · exact .inr ⟨g, N, f, ha, hg, hN, hr.setOther (by omega) u⟩
end Go.Proofs.Ytoinepmlbcnbgaa.Bag
