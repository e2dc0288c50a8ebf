/- Contracts and plain mathematics, together: BagList, BagKnown, BagReck. -/
import Derived.Test.YtnjpblmplneojaaGreatDoorMaN
import Derived.Test.YtnjpblmplneojaaGreatDoorRows2
import Derived.Test.YtnjpblmplneojaaGreatDoorMaK
import Derived.Test.YtnjpblmplneojaaGreatDoorMaP
import Derived.Deep.OwnRows
/- List of package bag: a contract of the call, over the turned program. -/
namespace Go.Proofs.YtnjpblmplneojaaGreatDoor.Bag
open Go.RowKit Go.Maps Go.Proofs.YtnjpblmplneojaaGreatDoor.Frame
set_option linter.unusedVariables false

/-- what is told after k rows -/
def toldF (rs : List Row) (q k : Nat) : List Int := (listF (rs.take k)).take q

theorem toldF_step {rs : List Row} {q k : Nat} (h : k < rs.length) : toldF rs q (k + 1) = toldF rs q k ++ List.replicate (min (rs.getD k zr).2.toNat (q - (toldF rs q k).length)) (rs.getD k zr).1 := by
  unfold toldF
  rw [take_snoc h, listF_snoc, List.take_append, List.take_replicate, List.length_take]
  congr 2
  omega

theorem toldF_end {rs : List Row} {q k : Nat} (h : rs.length ≤ k) : toldF rs q k = (listF rs).take q := by unfold toldF; rw [List.take_of_length_le h]

theorem listF_take_le (rs : List Row) (k : Nat) : (listF (rs.take k)).length ≤ (listF rs).length := by
  induction rs generalizing k with
  | nil => simp
  | cons r b ih =>
    cases k with
    | zero => simp [listF]
    | succ k => have := ih k; simp only [List.take_succ_cons, listF, List.length_append, List.length_replicate]; omega

theorem toldF_length (rs : List Row) (q k : Nat) : (toldF rs q k).length ≤ min q (listF rs).length := by
  unfold toldF
  have := listF_take_le rs k
  rw [List.length_take]
  omega

def LOwn (w : World) (g N : Nat) (l : List Int) (wr : World) : Prop :=
  wr.ownsRow w.heap.size 3 1 (.slice (some ⟨g, 0, none⟩) l.length N) l.length (l.map fun z => Value.int .i64 z) ∧ Below w.heap.size w wr

theorem LOwn.nums {w wr : World} {g N : Nat} {l : List Int} (h : LOwn w g N l wr) (hl : ∀ i, i < l.length → In64 (l.getD i 0)) : Nums wr (some ⟨g, 0, none⟩) l.length l := by
  refine ⟨⟨rfl, hl⟩, .inr ⟨g, 0, rfl, fun i hi => ?_⟩⟩
  rw [Nat.zero_add, h.1.cellAt i (by omega), List.getElem?_map, getD_get 0 hi, List.getElem?_eq_getElem hi]
  rfl

theorem LOwn.gt {w wr : World} {g N : Nat} {l : List Int} (h : LOwn w g N l wr) : w.heap.size ≤ g ∧ g < wr.heap.size := h.1.lt g rfl

theorem LOwn.next {w wr w1 : World} {g N : Nat} {l : List Int} {m : Int} {o : Obj} (h : LOwn w g N l wr) (hr : w1.ownsRow w.heap.size 3 1 (.slice (some ⟨g, 0, none⟩) (l.length + 1) N) (l.length + 1) ((l.map fun z => Value.int .i64 z) ++ [.int .i64 m])) (hg : (wr.alloc o).grownBy w1 (some g)) : LOwn w g N (l ++ [m]) w1 := by
  have hlt := h.gt
  refine ⟨by simpa using hr, (h.2.alloc h.2.size o).grown hg (by simp; have := h.2.size; omega) (fun i hi => by cases hi; exact hlt.1)⟩

theorem LOwn.alloc {w wr : World} {g N : Nat} {l : List Int} (h : LOwn w g N l wr) (o : Obj) : LOwn w g N l (wr.alloc o) := ⟨h.1.alloc o, h.2.alloc h.2.size o⟩

/-- List -/
def listB (rs : List Row) (q : Int) : List Int := if rightB rs ∧ 1 ≤ q then (listF rs).take q.toNat else []
end Go.Proofs.YtnjpblmplneojaaGreatDoor.Bag
/- Numbers side by side (the document's own Ints), and calls whose answers are known: contracts, over the turned program. -/
namespace Go.Proofs.YtnjpblmplneojaaGreatDoor.Bag
open Go.RowKit Go.Maps Go.Proofs.YtnjpblmplneojaaGreatDoor.Frame
set_option linter.unusedVariables false

theorem list_ext_z {xs ys : List Int} (hl : xs.length = ys.length) (h : ∀ j, j < xs.length → xs.getD j 0 = ys.getD j 0) : xs = ys := by
  refine List.ext_getElem hl fun j h1 h2 => ?_
  have := h j h1
  rwa [getD_get 0 h1, getD_get 0 h2] at this

def eqI (xs ys : List Int) : Bool := decide (xs = ys)

/-- numbers that are laid -/
theorem nums_new (w : World) (zs : List Int) (cs : Array Value) (t : TypeId) (hc : cs = (zs.map fun z => Value.int .i64 z).toArray) (h : ∀ z ∈ zs, In64 z) : Nums (w.alloc (.cells cs t)) (some ⟨w.heap.size, 0, none⟩) zs.length zs := by
  subst hc
  refine ⟨⟨rfl, fun i hi => h _ (by rw [getD_get 0 hi]; exact List.getElem_mem _)⟩, .inr ⟨w.heap.size, 0, rfl, fun i hi => ?_⟩⟩
  rw [Nat.zero_add, getD_get 0 hi]
  simp [hi]

/-- rows that are laid -/
theorem bags_new (w : World) (rs : List Row) (cs : Array Value) (t : TypeId) (hc : cs = (cellsF rs).toArray) (h : Wf rs) : Bags (w.alloc (.cells cs t)) (some ⟨w.heap.size, 0, none⟩) rs.length rs := by
  subst hc
  refine ⟨⟨rfl, h⟩, .inr ⟨w.heap.size, 0, rfl, fun i hi => ?_⟩⟩
  obtain ⟨e0, e1⟩ := cellsF_at rs i hi
  rw [Nat.zero_add]
  constructor
  · simpa using e0
  · simpa using e1

/-- a bag that is known -/
def Kn (w : World) (a : Option Addr) (len : Nat) (rs : List Row) : Prop := Bags w a len rs

theorem Answer.known {w w' : World} {n : Nat} {c : Int → Int} {a : Option Addr} {len cap : Nat} {rs : List Row} (h : Answer w w' n c a len cap) (hr : Has c rs) : Bags w' a len rs := by
  obtain ⟨rs', h1, h2⟩ := h
  rw [hr.uniq h1.1]
  exact h2.bags

theorem of_known (a : Option Addr) (len cap : Nat) (zs : List Int) (rs : List Row) (w : World) (h : Nums w a len zs) (hl : len ≤ 100000) (hr : Has (ofC zs) rs) :
    Calls Tryz.prog 27 #[.slice a len cap] w fun e w' => ∃ a len' cap, e = .returned (.slice a len' cap) ∧ Hid (Bags w' a len' rs) ∧ Below w.heap.size w w' := by
  refine (of_any a len cap zs w h hl).mono ?_
  rintro e w' ⟨⟨a, l, c, he, hA⟩, hb⟩
  exact ⟨a, l, c, he, hA.known hr, hb⟩

theorem sum_known (a b : Option Addr) (la ca lb cb : Nat) (xs ys rs : List Row) (w : World) (ha : Bags w a la xs) (hb : Bags w b lb ys) (hla : la ≤ 100000) (hlb : lb ≤ 100000) (hx : RightP xs) (hy : RightP ys) (hf : fitsB xs ys = true) (hr : Has (sumC xs ys) rs) :
    Calls Tryz.prog 26 #[.slice a la ca, .slice b lb cb] w fun e w' => ∃ a len cap, e = .returned (.tuple #[.slice a len cap, .int .i64 0]) ∧ Hid (Bags w' a len rs) ∧ Below w.heap.size w w' := by
  refine (sum_right a b la ca lb cb xs ys w ha hb hla hlb hx hy).mono ?_
  rintro e w' ⟨h | ⟨_, a, l, c, he, hA⟩, hb⟩
  · rw [hf] at h; cases h.1
  · exact ⟨a, l, c, he, hA.known hr, hb⟩

theorem sum_full (a b : Option Addr) (la ca lb cb : Nat) (xs ys : List Row) (w : World) (ha : Bags w a la xs) (hb : Bags w b lb ys) (hla : la ≤ 100000) (hlb : lb ≤ 100000) (hx : RightP xs) (hy : RightP ys) (hf : fitsB xs ys = false) :
    Calls Tryz.prog 26 #[.slice a la ca, .slice b lb cb] w fun e w' => e = .returned (.tuple #[.slice none 0 0, .int .i64 2]) ∧ Below w.heap.size w w' := by
  refine (sum_right a b la ca lb cb xs ys w ha hb hla hlb hx hy).mono ?_
  rintro e w' ⟨h | ⟨h, _⟩, hb⟩
  · exact ⟨h.2, hb⟩
  · rw [hf] at h; cases h

theorem Answer.bag {w w' : World} {n : Nat} {c : Int → Int} {a : Option Addr} {len cap : Nat} (h : Answer w w' n c a len cap) : ∃ rs, (Has c rs ∧ len ≤ n) ∧ Bags w' a len rs := by
  obtain ⟨rs, h1, h2⟩ := h
  exact ⟨rs, h1, h2.bags⟩

theorem of_ok (a : Option Addr) (len cap : Nat) (zs : List Int) (w : World) (h : Nums w a len zs) (hl : len ≤ 100000) :
    Calls Tryz.prog 27 #[.slice a len cap] w fun e w' => ∃ a len' cap rs, e = .returned (.slice a len' cap) ∧ Hid ((Has (ofC zs) rs ∧ len' ≤ len) ∧ Bags w' a len' rs) ∧ Below w.heap.size w w' := by
  refine (of_any a len cap zs w h hl).mono ?_
  rintro e w' ⟨⟨a, l, c, he, hA⟩, hb⟩
  obtain ⟨rs, hrs⟩ := hA.bag
  exact ⟨a, l, c, rs, he, hrs, hb⟩

theorem sum_ok (a b : Option Addr) (la ca lb cb : Nat) (xs ys : List Row) (w : World) (ha : Bags w a la xs) (hb : Bags w b lb ys) (hla : la ≤ 100000) (hlb : lb ≤ 100000) (hx : RightP xs) (hy : RightP ys) (hf : fitsB xs ys = true) :
    Calls Tryz.prog 26 #[.slice a la ca, .slice b lb cb] w fun e w' => ∃ a len cap rs, e = .returned (.tuple #[.slice a len cap, .int .i64 0]) ∧ Hid ((Has (sumC xs ys) rs ∧ len ≤ la + lb) ∧ Bags w' a len rs) ∧ Below w.heap.size w w' := by
  refine (sum_right a b la ca lb cb xs ys w ha hb hla hlb hx hy).mono ?_
  rintro e w' ⟨h | ⟨_, a, l, c, he, hA⟩, hb⟩
  · rw [hf] at h; cases h.1
  · obtain ⟨rs, hrs⟩ := hA.bag
    exact ⟨a, l, c, rs, he, hrs, hb⟩
end Go.Proofs.YtnjpblmplneojaaGreatDoor.Bag
/- Sum, Less and Most of both sides in one form; and rows that are written into: over the turned program. -/
namespace Go.Proofs.YtnjpblmplneojaaGreatDoor.Bag
open Go.RowKit Go.Maps Go.Proofs.YtnjpblmplneojaaGreatDoor.Frame
set_option linter.unusedVariables false

def bothB (xs ys : List Row) : Bool := rightB xs && rightB ys

/-- Sum's number, and its rows -/
def sumE (xs ys : List Row) : Int := if bothB xs ys then (if fitsB xs ys then 0 else 2) else 1

def SumIs (xs ys rs : List Row) : Prop := if bothB xs ys ∧ fitsB xs ys then Has (sumC xs ys) rs else rs = []

def lessE (xs ys : List Row) : Int := if bothB xs ys then (if coversB xs ys then 0 else 10) else 1

def LessIs (xs ys rs : List Row) : Prop := if bothB xs ys ∧ coversB xs ys then Has (lessC xs ys) rs else rs = []

def MostIs (xs ys rs : List Row) : Prop := if bothB xs ys then Has (mostC xs ys) rs else rs = []

theorem SumIs.uniq {xs ys rs ts : List Row} (h : SumIs xs ys rs) (k : SumIs xs ys ts) : rs = ts := by
  unfold SumIs at h k
  split at h
  · rename_i hc; rw [if_pos hc] at k; exact h.uniq k
  · rename_i hc; rw [if_neg hc] at k; rw [h, k]

theorem LessIs.uniq {xs ys rs ts : List Row} (h : LessIs xs ys rs) (k : LessIs xs ys ts) : rs = ts := by
  unfold LessIs at h k
  split at h
  · rename_i hc; rw [if_pos hc] at k; exact h.uniq k
  · rename_i hc; rw [if_neg hc] at k; rw [h, k]

theorem MostIs.uniq {xs ys rs ts : List Row} (h : MostIs xs ys rs) (k : MostIs xs ys ts) : rs = ts := by
  unfold MostIs at h k
  split at h
  · rename_i hc; rw [if_pos hc] at k; exact h.uniq k
  · rename_i hc; rw [if_neg hc] at k; rw [h, k]

theorem own_nil (w : World) (base : Nat) : Own w base none 0 0 [] := ⟨⟨rfl, fun i hi => by cases hi⟩, World.ownsRow_nil _ _ _ _⟩

theorem bags_nil (w : World) : Bags w none 0 [] := ⟨⟨rfl, fun i hi => by cases hi⟩, .inl rfl⟩

theorem sum_u (a b : Option Addr) (la ca lb cb : Nat) (xs ys : List Row) (w : World) (ha : Bags w a la xs) (hb : Bags w b lb ys) (hla : la ≤ 10000) (hlb : lb ≤ 10000) :
    Calls Tryz.prog 26 #[.slice a la ca, .slice b lb cb] w fun e w' => ∃ sa sl sc rs, e = .returned (.tuple #[.slice sa sl sc, .int .i64 (sumE xs ys)]) ∧ Hid ((SumIs xs ys rs ∧ sl ≤ la + lb) ∧ Own w' w.heap.size sa sl sc rs) ∧ Below w.heap.size w w' := by
  cases hr : bothB xs ys with
  | false =>
    refine (sum_wrong a b la ca lb cb xs ys w ha hb (by omega) (by omega) hr).mono ?_
    rintro e w' ⟨he, hb⟩
    exact ⟨none, 0, 0, [], by rw [he]; unfold sumE; rw [hr]; rfl, ⟨⟨by unfold SumIs; rw [if_neg (fun h => by rw [hr] at h; cases h.1)], by omega⟩, own_nil _ _⟩, hb⟩
  | true =>
    have hxy := Bool.and_eq_true_iff.1 hr
    refine (sum_right a b la ca lb cb xs ys w ha hb (by omega) (by omega) (rightB_iff.1 hxy.1) (rightB_iff.1 hxy.2)).mono ?_
    rintro e w' ⟨⟨hf, he⟩ | ⟨hf, sa, sl, sc, he, rs, h1, h2⟩, hb⟩
    · exact ⟨none, 0, 0, [], by rw [he]; unfold sumE; rw [hr, hf]; rfl, ⟨⟨by unfold SumIs; rw [if_neg (fun h => by rw [hf] at h; cases h.2)], by omega⟩, own_nil _ _⟩, hb⟩
    · exact ⟨sa, sl, sc, rs, by rw [he]; unfold sumE; rw [hr, hf]; rfl, ⟨⟨by unfold SumIs; rw [if_pos ⟨hr, hf⟩]; exact h1.1, h1.2⟩, h2⟩, hb⟩

theorem rmost_u (a b : Option Addr) (la ca lb cb : Nat) (xs ys : List Row) (w : World) (ha : Bags w a la xs) (hb : Bags w b lb ys) (hla : la ≤ 10000) (hlb : lb ≤ 10000) :
    Calls Tryz.prog 63 #[.slice a la ca, .slice b lb cb] w fun e w' => ∃ sa sl sc rs, e = .returned (.slice sa sl sc) ∧ Hid ((MostIs xs ys rs ∧ sl ≤ la + lb) ∧ Bags w' sa sl rs) ∧ Below w.heap.size w w' := by
  cases hr : bothB xs ys with
  | false =>
    refine (rmost_wrong a b la ca lb cb xs ys w ha hb hla hlb hr).mono ?_
    rintro e w' ⟨he, hb⟩
    exact ⟨none, 0, 0, [], he, ⟨⟨by unfold MostIs; rw [if_neg (by rw [hr]; simp)], by omega⟩, bags_nil _⟩, hb⟩
  | true =>
    have hxy := Bool.and_eq_true_iff.1 hr
    refine (rmost_right a b la ca lb cb xs ys w ha hb hla hlb (rightB_iff.1 hxy.1) (rightB_iff.1 hxy.2)).mono ?_
    rintro e w' ⟨rs, hH, ⟨⟨sa, sl, sc, he, h2, h1⟩, hb⟩⟩
    exact ⟨sa, sl, sc, rs, he, ⟨⟨by unfold MostIs; rw [if_pos hr]; exact hH, h1⟩, h2⟩, hb⟩

/-- rows that may be written: none, or a block of the call's own from 'lo' on, ahead of 'hi' -/
def Mine (wr : World) (a : Option Addr) (len lo hi : Nat) : Prop :=
  len = 0 ∨ ∃ g N f, a = some ⟨g, 0, none⟩ ∧ (lo ≤ g ∧ g < hi) ∧ len * 2 ≤ N ∧ wr.rowIs g 56 N f

theorem Own.mine {w : World} {base : Nat} {a : Option Addr} {len cap : Nat} {rs : List Row} (h : Own w base a len cap rs) : Mine w a len base w.heap.size := by
  rcases h.2.2 with ⟨_, h0⟩ | ⟨g, c, cur, hv, h1, h2, h3, h4, h5, h6⟩
  · exact .inl h0
  · simp only [Value.slice.injEq] at hv
    obtain ⟨rfl, _, rfl⟩ := hv
    refine .inr ⟨g, cur.size, fun j => cur.getD j undef, rfl, ⟨h1, (Array.getElem?_eq_some_iff.1 h2).1⟩, by rw [h5]; omega, cur, h2, rfl, fun i hi => ?_⟩
    simp [hi]

theorem Mine.below {w w' : World} {a : Option Addr} {len lo hi : Nat} (h : Mine w a len lo hi) (hb : Below w.heap.size w w') : Mine w' a len lo hi := by
  rcases h with h0 | ⟨g, N, f, ha, hg, hN, hr⟩
  · exact .inl h0
  · exact .inr ⟨g, N, f, ha, hg, hN, hr.of_block (hb.block g hr.lt)⟩

/-- what is written from a block 'lo' on -/
theorem grown_setCell (w : World) (a : Addr) (u : Value) : w.grownBy (w.setCell a u) (some a.block) :=
  ⟨rfl, rfl, rfl, by simp, fun k _ hk => Below.heap_setCell w a u k (fun e => hk (by rw [e]))⟩

theorem Mine.at {wr : World} {a : Option Addr} {len lo hi k : Nat} (h : Mine wr a len lo hi) (hk : k < len) : ∃ g, a = some ⟨g, 0, none⟩ ∧ (lo ≤ g ∧ g < hi) ∧ g < wr.heap.size ∧ (∃ v, wr.cell? ⟨g, k * 2, none⟩ = some v) ∧ wr.frozen? ⟨g, k * 2, none⟩ = false ∧
    ∀ u, Mine (wr.setCell ⟨g, k * 2, none⟩ u) a len lo hi := by
  rcases h with h0 | ⟨g, N, f, ha, hg, hN, hr⟩
  · omega
  · exact ⟨g, ha, hg, hr.lt, ⟨_, hr.cell (by omega)⟩, hr.frozen _, fun u => .inr ⟨g, N, _, ha, hg, hN, hr.set (k * 2) u⟩⟩

theorem Mine.other {wr : World} {a : Option Addr} {len lo hi : Nat} (h : Mine wr a len lo hi) {p : Addr} (hp : p.block < lo ∨ hi ≤ p.block) (u : Value) : Mine (wr.setCell p u) a len lo hi := by
  rcases h with h0 | ⟨g, N, f, ha, hg, hN, hr⟩
  · exact .inl h0
  · exact .inr ⟨g, N, f, ha, hg, hN, hr.setOther (by omega) u⟩
end Go.Proofs.YtnjpblmplneojaaGreatDoor.Bag
