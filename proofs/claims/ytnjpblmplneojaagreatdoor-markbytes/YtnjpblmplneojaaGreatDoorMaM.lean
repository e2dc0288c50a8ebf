/- Contracts and plain mathematics, together: BagCells, BagKeys, BagMap, BagBag, BagHeld. -/
import Derived.Test.YtnjpblmplneojaaGreatDoorBagMem
import Derived.Maps.AppendAt
import Derived.Test.YtnjpblmplneojaaGreatDoorShelfK
import Derived.Test.YtnjpblmplneojaaGreatDoorBagPlain
import Derived.Test.YtnjpblmplneojaaGreatDoorFrame
import Derived.Maps.OwnSet
import Derived.Maps.OwnOps
import Derived.Maps.Range
import Derived.OwnWalk
import Derived.Test.YtnjpblmplneojaaGreatDoorMaJ
/- Rows of the call's own, and their cells. -/
namespace Go.Proofs.YtnjpblmplneojaaGreatDoor.Bag
open Go.RowKit Go.Maps Go.Proofs.YtnjpblmplneojaaGreatDoor.Frame
set_option linter.unusedVariables false

/-- the rows' cells, in their order -/
def cellsF : List Row → List Value
  | [] => []
  | r :: b => .int .i64 r.1 :: .int .i64 r.2 :: cellsF b
theorem cellsF_length : ∀ b, (cellsF b).length = b.length * 2
  | [] => rfl
  | r :: b => by simp only [cellsF, List.length_cons, cellsF_length b]; omega
theorem cellsF_snoc : ∀ (b : List Row) (r : Row), cellsF (b ++ [r]) = cellsF b ++ [.int .i64 r.1, .int .i64 r.2]
  | [], r => rfl
  | s :: b, r => by simp only [List.cons_append, cellsF, cellsF_snoc b r]
theorem cellsF_at : ∀ (b : List Row) (i : Nat), i < b.length → (cellsF b)[i * 2]? = some (.int .i64 (b.getD i zr).1) ∧ (cellsF b)[i * 2 + 1]? = some (.int .i64 (b.getD i zr).2)
  | r :: b, 0, _ => ⟨rfl, rfl⟩
  | r :: b, i + 1, h => by
    have := cellsF_at b i (by simpa using h)
    rw [show (i + 1) * 2 = i * 2 + 1 + 1 by omega]
    simpa [cellsF] using this

/-- a bag of the call's own: in memory from 'base' on -/
def Own (w : World) (base : Nat) (a : Option Addr) (len cap : Nat) (rs : List Row) : Prop :=
  (rs.length = len ∧ Wf rs) ∧ w.ownsRow base 56 2 (.slice a len cap) len (cellsF rs)
theorem Own.bags {w : World} {base : Nat} {a : Option Addr} {len cap : Nat} {rs : List Row} (h : Own w base a len cap rs) : Bags w a len rs := by
  refine ⟨h.1, ?_⟩
  rcases h.2.2 with ⟨h1, h0⟩ | ⟨g, c, cur, hv, _⟩
  · exact .inl h0
  · simp only [Value.slice.injEq] at hv
    obtain ⟨rfl, _, rfl⟩ := hv
    refine .inr ⟨g, 0, rfl, fun i hi => ?_⟩
    obtain ⟨e0, e1⟩ := cellsF_at rs i hi
    have hil : i < len := by rw [← h.1.1]; exact hi
    rw [Nat.zero_add]
    exact ⟨(h.2.cellAt (i * 2) (by omega)).trans e0, (h.2.cellAt (i * 2 + 1) (by omega)).trans e1⟩
theorem Own.below {w w' : World} {base : Nat} {a : Option Addr} {len cap : Nat} {rs : List Row} (h : Own w base a len cap rs) (hb : Below w.heap.size w w') : Own w' base a len cap rs := by
  refine ⟨h.1, h.2.1, ?_⟩
  rcases h.2.2 with h0 | ⟨g, c, cur, hv, h1, h2, h3⟩
  · exact .inl h0
  · exact .inr ⟨g, c, cur, hv, h1, (hb.block g (Array.getElem?_eq_some_iff.1 h2).1).trans h2, h3⟩
theorem Own.mono {w : World} {base base' : Nat} {a : Option Addr} {len cap : Nat} {rs : List Row} (h : Own w base a len cap rs) (hb : base' ≤ base) : Own w base' a len cap rs := by
  refine ⟨h.1, h.2.1, ?_⟩
  rcases h.2.2 with h0 | ⟨g, c, cur, hv, h1, h2⟩
  · exact .inl h0
  · exact .inr ⟨g, c, cur, hv, by omega, h2⟩

theorem cells_two (w : World) (x y : Value) (t : TypeId) : ∀ j u, [x, y][j]? = some u → (w.alloc (.cells #[x, y] t)).cell? ((⟨w.heap.size, 0, none⟩ : Addr).add j) = some u := by
  intro j u h
  match j, h with
  | 0, h => simp at h; subst h; simp [Addr.add]
  | 1, h => simp at h; subst h; simp [Addr.add]
  | j + 2, h => simp at h
end Go.Proofs.YtnjpblmplneojaaGreatDoor.Bag
/- The keys of a map of counts, sorted by the library: contracts of the two calls, over the turned program. -/
namespace Go.Proofs.YtnjpblmplneojaaGreatDoor.Bag
open Go.RowKit Go.Maps Go.Sort Go.Shelf
set_option linter.unusedVariables false

theorem sortsA (m : Nat) : AnyZI.SortsIn Tryz.prog Tryz.sortedA_ren Fence.wide m :=
  ⟨fun blk off cap ss W hH hblk hsz => callsIn_wide.2 (AnyM.slices_Sort_int Tryz.sortA blk off cap ss W hH hblk hsz),
   fun p cap W => callsIn_wide.2 (AnyM.slices_Sort_int_none Tryz.sortA p cap W)⟩

theorem keys_call (b : Nat) (w : World) : Calls Tryz.prog 69 #[.map (some b)] w fun e w' => e = .returned (.func (.func 83) #[] #[.pointer (some ⟨w.heap.size, 0, none⟩)]) ∧ w' = w.alloc (.cells #[.map (some b)] 72) :=
  (callsIn_wide (n := 5)).1 (AnyZI.keys_in Tryz.keysA Fence.wide 5 trivial rfl (some b) w)

theorem sorted_call {H : Type} (b nn : Nat) (D0 : DataW H) (R : Value → Option (DataW H × List MemPlace)) (w : World) (hown : w.ownsMap Tryz.prog 3 R b nn D0) (hmax : Maps.size D0 ≤ 1000000) :
    Calls Tryz.prog 68 #[.func (.func 83) #[] #[.pointer (some ⟨w.heap.size, 0, none⟩)]] (w.alloc (.cells #[.map (some b)] 72)) fun e w' => ∃ (v : Value) (ss : List Int), e = .returned v ∧ ss.Perm (intKeys D0) ∧
      w'.ownsRow w.heap.size 3 1 v ss.length ((ss.mergeSort (fun x y => decide (x ≤ y))).map encZ) ∧ Below w.heap.size w w' := by
  have hbl := hown.lt
  have hml : (1000000 : Nat) ≤ maxLen := by decide
  have hseq : SeqGives Fence.wide 2 Tryz.prog 83 #[.pointer (some ⟨w.heap.size, 0, none⟩)] encZ (fun ss => ss.Perm (intKeys D0)) (Maps.size D0) (w.alloc (.cells #[.map (some b)] 72)) :=
    AnyZI.keys_gives (ρ := Tryz.keysA_ren) { Tryz.keysA with } Fence.wide _ trivial rfl (by omega) w.heap.size b nn D0 _ (by simp) (by simp) (by
      obtain ⟨es, clock, hb, Ft, hs, hD⟩ := hown
      exact ⟨es, clock, (Below.heap_alloc _ _ b hbl).trans hb, Ft, hs, hD⟩)
  have cS := AnyZI.sorted_in Tryz.sortedA Fence.wide 5 trivial trivial trivial trivial rfl (by omega) (sortsA _) (enters_of Tryz.func82 (by kernel_rfl) rfl) 83 #[.pointer (some ⟨w.heap.size, 0, none⟩)] trivial (enters_of Tryz.func83 (by kernel_rfl) rfl) _ _ (by omega) (by omega) _ hseq
  change CallsIn _ _ Tryz.prog 68 _ _ _ at cS
  refine ((callsIn_wide (n := 5)).1 cS).mono ?_
  rintro e w' ⟨v, ss, rfl, hS, hrow, hnil, hb⟩
  exact ⟨v, ss, rfl, hS, ownsRow_base_a hrow (by simp), ((Below.refl _ w).alloc (Nat.le_refl _) _).trans (hb.mono (by simp))⟩
end Go.Proofs.YtnjpblmplneojaaGreatDoor.Bag
/- Counts in a map: what is held, and how it is told: contracts of the calls, over the turned program. -/
namespace Go.Proofs.YtnjpblmplneojaaGreatDoor.Bag
open Go.RowKit Go.Maps Go.Proofs.YtnjpblmplneojaaGreatDoor.Frame
set_option linter.unusedVariables false

theorem law : Keyed Tryz.prog 3 := int_keyed Tryz.underlying3
theorem zeroI (w : World) : (zeroValue 3).run Tryz.prog w = .ok (.int .i64 0) w := by kernel_rfl
theorem infoRow : (Tryz.prog.info? 56).map (fun i => (i.zero, i.size, i.bytes)) = some (some (.agg #[.int .i64 0, .int .i64 0]), 2, 16) := by kernel_rfl
theorem wf_of {n : Int} (h : In64 n) : (Lit.int .i64 n).wf = true := WalkArith.wf_i64 h
theorem key_of {n : Int} (h : In64 n) : keyOf Tryz.prog 3 (.int .i64 n) = some (.int .i64 n) := keyOf_int_mk Tryz.underlying3 (wf_of h)

/-- a map in memory: which keys it has, and what it holds at each -/
def Mp (w : World) (B n : Nat) (h : Int → Bool) (c : Int → Int) : Prop :=
  (∃ D : DataW Unit, w.ownsMap Tryz.prog 3 (plainElem Tryz.prog 3) B n D ∧ ∀ m, In64 m → Maps.has D (.int .i64 m) = h m ∧ D.atKey (.int .i64 m) (.lit (.int .i64 0)) = .lit (.int .i64 (c m))) ∧ ∀ m, ¬ In64 m → h m = false ∧ c m = 0
/-- a map of counts: what is not nought has a key -/
def Cnts (w : World) (B n : Nat) (c : Int → Int) : Prop := Mp w B n (fun m => c m != 0) c

theorem Mp.congr {w : World} {B n : Nat} {h h' : Int → Bool} {c c' : Int → Int} (k : Mp w B n h c) (e1 : ∀ m, h m = h' m) (e2 : ∀ m, c m = c' m) : Mp w B n h' c' := by
  obtain rfl : h = h' := funext e1
  obtain rfl : c = c' := funext e2
  exact k
theorem Cnts.congr {w : World} {B n : Nat} {c c' : Int → Int} (k : Cnts w B n c) (e : ∀ m, c m = c' m) : Cnts w B n c' := Mp.congr k (fun m => by rw [e]) e
theorem Mp.lt {w : World} {B n : Nat} {h : Int → Bool} {c : Int → Int} (k : Mp w B n h c) : B < w.heap.size := by obtain ⟨⟨D, hD, _⟩, _⟩ := k; exact hD.lt
theorem Mp.mono {w : World} {B n n' : Nat} {h : Int → Bool} {c : Int → Int} (k : Mp w B n h c) (hn : n ≤ n') : Mp w B n' h c := by obtain ⟨⟨D, hD, r⟩, r2⟩ := k; exact ⟨⟨D, hD.mono hn, r⟩, r2⟩
theorem Mp.kept {w w' : World} {B n : Nat} {h : Int → Bool} {c : Int → Int} {row : Option Nat} (k : Mp w B n h c) (hg : w.grownBy w' row) (hne : some B ≠ row) : Mp w' B n h c := by
  obtain ⟨⟨D, hD, r⟩, r2⟩ := k; exact ⟨⟨D, hD.kept hg hne, r⟩, r2⟩
theorem Mp.below {w w' : World} {B n : Nat} {h : Int → Bool} {c : Int → Int} (k : Mp w B n h c) (hb : Below w.heap.size w w') : Mp w' B n h c := by
  have hl := k.lt
  obtain ⟨⟨D, hD, r⟩, r2⟩ := k
  obtain ⟨es, clock, hx, Ft, hs, hDD⟩ := hD
  exact ⟨⟨D, ⟨es, clock, (hb.block B hl).trans hx, Ft, hs, hDD⟩, r⟩, r2⟩
theorem Mp.alloc {w : World} {B n : Nat} {h : Int → Bool} {c : Int → Int} (k : Mp w B n h c) (o : Obj) : Mp (w.alloc o) B n h c := k.kept (World.grownBy_alloc w o none) (by simp)
theorem Mp.drewN {w : World} {B n : Nat} {h : Int → Bool} {c : Int → Int} (k : Mp w B n h c) (q : Nat) : Mp (w.drewN q) B n h c := k.below (below_drewN (Below.refl _ _) q)
theorem Cnts.made (w : World) : Cnts (w.alloc (.map #[] 0)) w.heap.size 0 (fun _ => 0) :=
  ⟨⟨.map [], World.ownsMap_made _ _ _ _, fun m _ => ⟨rfl, rfl⟩⟩, fun m _ => ⟨rfl, rfl⟩⟩

/-- 'm[k]', at the operation -/
theorem wp_look {ops : Array Oper} {rest : List Oper} {o : Oper} {a : Act} {Q : Exit → Act → World → Prop} (w : World) (hg : o.guard = none) (m x : Operand) (hop : o.op = Op.lookup 72 m x false)
    (B n : Nat) (h : Int → Bool) (c : Int → Int) (hm : a.eval m = .map (some B)) (k : Mp w B n h c) (y : Int) (hx : a.eval x = .int .i64 y) (hy : In64 y)
    (hK : wpList Tryz.prog ops Q rest (a.put o.dst (.int .i64 (c y))) w) : wpList Tryz.prog ops Q (o :: rest) a w := by
  obtain ⟨⟨D, hD, r⟩, r2⟩ := k
  refine wpList_lookup_own_int w hg m x 72 hop 3 3 .i64 law Tryz.underlying72 Tryz.underlying3 (zeroI _) B n D hm hD _ _ hx (key_of hy) ?_
  intro z hz _
  have := (r y hy).2
  rw [hz] at this
  simp only [DataW.lit.injEq, Lit.int.injEq, true_and] at this
  rw [this]
  exact hK
/-- 'm[k] = v', at the operation -/
theorem wp_put {ops : Array Oper} {rest : List Oper} {o : Oper} {a : Act} {Q : Exit → Act → World → Prop} (w : World) (hg : o.guard = none) (m x v : Operand) (hop : o.op = Op.mapUpdate 72 m x v)
    (B n : Nat) (h : Int → Bool) (c : Int → Int) (hm : a.eval m = .map (some B)) (k : Mp w B n h c) (hn : n ≤ 3000000) (y z : Int) (hx : a.eval x = .int .i64 y) (hy : In64 y) (hv : a.eval v = .int .i64 z) (hz : In64 z)
    (hK : ∀ w', Mp w' B (n + 1) (fun i => i == y || h i) (setC c y z) → w.grownBy w' (some B) → wpList Tryz.prog ops Q rest (a.put o.dst undef) w') : wpList Tryz.prog ops Q (o :: rest) a w := by
  obtain ⟨⟨D, hD, r⟩, r2⟩ := k
  have hml : (3000000 : Nat) < maxLen := by decide
  refine wpList_mapUpdate_own w hg m x v 72 hop 3 3 law Tryz.underlying72 _ B n D hm hD (by omega) _ _ _ hx hv (key_of hy) _ [] (plainElem_int Tryz.underlying3 (wf_of hz)) ?_
  intro w1 h1 hg1
  refine hK w1 ⟨⟨_, h1, fun i hi => ?_⟩, fun i hi => ?_⟩ hg1
  · by_cases e : i = y
    · subst e
      exact ⟨by rw [Maps.has_put_same hD.isMap (by trivial)]; simp, by rw [Maps.atKey_put_same hD.isMap (by trivial)]; simp [setC]⟩
    · have hne : (Lit.int .i64 i) ≠ .int .i64 y := fun e' => e (by simpa using e')
      exact ⟨by rw [Maps.has_put_other hne, (r i hi).1]; simp [e], by rw [Maps.atKey_put_other hne, (r i hi).2]; simp [setC, e]⟩
  · have e : i ≠ y := fun e => hi (e ▸ hy)
    exact ⟨by simp [e, (r2 i hi).1], by simp [setC, e, (r2 i hi).2]⟩
/-- 'delete(m, k)', at the operation -/
theorem wp_del {ops : Array Oper} {rest : List Oper} {o : Oper} {a : Act} {Q : Exit → Act → World → Prop} (w : World) (hg : o.guard = none) (m x : Operand) (hop : o.op = Op.call { callee := Callee.builtin Builtin.delete, args := #[m, x], argTypes := #[72, 3] })
    (B n : Nat) (h : Int → Bool) (c : Int → Int) (hm : a.eval m = .map (some B)) (k : Mp w B n h c) (y : Int) (hx : a.eval x = .int .i64 y) (hy : In64 y)
    (hK : ∀ w', Mp w' B n (fun i => i != y && h i) (setC c y 0) → w.grownBy w' (some B) → wpList Tryz.prog ops Q rest (a.put o.dst (.tuple #[])) w') : wpList Tryz.prog ops Q (o :: rest) a w := by
  obtain ⟨⟨D, hD, r⟩, r2⟩ := k
  refine wpList_delete_own w hg m x 72 3 hop 3 law Tryz.underlying72 _ B n D hm hD _ _ hx (key_of hy) ?_
  intro w1 h1 hg1
  refine hK w1 ⟨⟨_, h1, fun i hi => ?_⟩, fun i hi => ?_⟩ hg1.grown
  · by_cases e : i = y
    · subst e
      exact ⟨by rw [Maps.has_del_same]; simp, by rw [Maps.atKey_del_same]; simp [setC]⟩
    · have hne : (Lit.int .i64 i) ≠ .int .i64 y := fun e' => e (by simpa using e')
      exact ⟨by rw [Maps.has_del_other hne, (r i hi).1]; simp [e], by rw [Maps.atKey_del_other hne, (r i hi).2]; simp [setC, e]⟩
  · have e : i ≠ y := fun e => hi (e ▸ hy)
    exact ⟨by simp [(r2 i hi).1], by simp [setC, e, (r2 i hi).2]⟩
/-- 'len(m)', at the operation; and the keys, sorted -/
theorem keys_known {w : World} {B n : Nat} {h : Int → Bool} {c : Int → Int} (k : Mp w B n h c) :
    ∃ D : DataW Unit, w.ownsMap Tryz.prog 3 (plainElem Tryz.prog 3) B n D ∧ Maps.size D ≤ n ∧ (intKeys D).length = Maps.size D ∧ (intKeys D).Nodup ∧ ∀ m, m ∈ intKeys D ↔ h m = true := by
  obtain ⟨⟨D, hD, r⟩, r2⟩ := k
  obtain ⟨es, hE, hpw, _⟩ := hD.entries law
  obtain ⟨es', hE', hko⟩ := hD.keysOf
  obtain rfl : es = es' := by rw [hE] at hE'; simpa using hE'
  have hwf := intKeys_wf hD Tryz.underlying3
  have hkk : ∀ p ∈ es, ∃ x, p.1 = .int .i64 x := fun p hp => by
    obtain ⟨v, hv⟩ := hko p hp
    obtain ⟨x, _, hx, _⟩ := Maps.keyOf_i64 Tryz.underlying3 hv
    exact ⟨x, hx⟩
  refine ⟨D, hD, hD.size_le, by subst hE; simp [intKeys, Maps.size_eq], ?_, fun m => ?_⟩
  · subst hE
    show (es.map fun p => Go.intOf p.1).Nodup
    refine List.pairwise_map.2 (hpw.imp_of_mem fun {p q} hp' hq' hne e => hne ?_)
    obtain ⟨a, ha⟩ := hkk p hp'
    obtain ⟨b, hb⟩ := hkk q hq'
    rw [ha, hb] at e ⊢
    exact congrArg _ e
  · have hmem : m ∈ intKeys D ↔ Maps.has D (.int .i64 m) = true := by
      subst hE
      rw [Maps.has_eq, List.any_eq_true]
      show m ∈ (es.map fun p => Go.intOf p.1) ↔ _
      rw [List.mem_map]
      constructor
      · rintro ⟨p, hp', rfl⟩
        obtain ⟨a, ha⟩ := hkk p hp'
        exact ⟨p, hp', by rw [ha]; simp [Lit.sameKey, Go.intOf]⟩
      · rintro ⟨p, hp', hs⟩
        obtain ⟨a, ha⟩ := hkk p hp'
        rw [ha] at hs
        exact ⟨p, hp', by rw [ha]; simpa [Lit.sameKey, Go.intOf] using hs⟩
    constructor
    · intro hm
      have := bounds_i64 (hwf m hm)
      rw [← (r m this).1]; exact hmem.1 hm
    · intro hm
      by_cases hi : In64 m
      · exact hmem.2 ((r m hi).1.trans hm)
      · rw [(r2 m hi).1] at hm; cases hm
end Go.Proofs.YtnjpblmplneojaaGreatDoor.Bag
/- The rows of a map of counts ((counts).bag): a contract of the call, over the turned program. -/
namespace Go.Proofs.YtnjpblmplneojaaGreatDoor.Bag
open Go.RowKit Go.Maps Go.Proofs.YtnjpblmplneojaaGreatDoor.Frame
set_option linter.unusedVariables false

/-- what stands after k rounds -/
def BInv (w : World) (B n N gk : Nat) (ks : List Int) (c : Int → Int) (k : Nat) (wr : World) : Prop :=
  (wr.ownsRow w.heap.size 56 2 (.slice (some ⟨w.heap.size, 0, none⟩) k N) k (cellsF (rowsOf (ks.take k) c)) ∧ Mp wr B n (fun m => c m != 0) c) ∧ (∀ j, j < N → wr.cell? ⟨gk, j, none⟩ = some (.int .i64 (ks.getD j 0))) ∧ Below w.heap.size w wr

theorem BInv.next {w : World} {B n N gk : Nat} {ks : List Int} {c : Int → Int} {k : Nat} {wr w1 : World} (h : BInv w B n N gk ks c k wr) (hk : k < N) (hN : ks.length = N) (hB : B < w.heap.size) (hgk : w.heap.size < gk) (o : Obj)
    (hr : w1.ownsRow w.heap.size 56 2 (.slice (some ⟨w.heap.size, 0, none⟩) (k + 1) N) (k + 1) (cellsF (rowsOf (ks.take k) c) ++ [.int .i64 (ks.getD k 0), .int .i64 (c (ks.getD k 0))])) (hg : (wr.alloc o).grownBy w1 (some w.heap.size)) : BInv w B n N gk ks c (k + 1) w1 := by
  obtain ⟨⟨h1, h2⟩, h3, h4⟩ := h
  refine ⟨⟨?_, (h2.alloc o).kept hg (by simp; omega)⟩, fun j hj => ?_, (h4.alloc h4.size o).grown hg (by simp; have := h4.size; omega) (fun i hi => by cases hi; exact Nat.le_refl _)⟩
  · have : rowsOf (ks.take (k + 1)) c = rowsOf (ks.take k) c ++ [(ks.getD k 0, c (ks.getD k 0))] := by
      rw [List.take_succ_eq_append_getElem (by omega), getD_get 0 (by omega)]
      simp only [rowsOf, List.map_append, List.map_cons, List.map_nil]
    rw [this, cellsF_snoc]
    exact hr
  · have := h3 j hj
    have hlt := World.block_lt_of_cell? wr _ this
    exact hg.cell (a := ⟨gk, j, none⟩) ((World.cell?_of_block (w := wr) (Below.heap_alloc wr _ gk hlt)).trans this) (by simp; omega)

/-- the sorted keys, as a slice -/
theorem keys_slice (b nn : Nat) (D : DataW Unit) (w : World) (hown : w.ownsMap Tryz.prog 3 (plainElem Tryz.prog 3) b nn D) (hmax : Maps.size D ≤ 1000000) (hlen : (intKeys D).length = Maps.size D) :
    Calls Tryz.prog 68 #[.func (.func 83) #[] #[.pointer (some ⟨w.heap.size, 0, none⟩)]] (w.alloc (.cells #[.map (some b)] 72)) fun e w' => ∃ (a : Option Addr) (cap : Nat) (ss : List Int), e = .returned (.slice a (Maps.size D) cap) ∧
      Hid ((ss.Perm (intKeys D) ∧ ss.length = Maps.size D) ∧ (Maps.size D = 0 ∨ ∃ g, a = some ⟨g, 0, none⟩ ∧ w.heap.size ≤ g ∧ ∀ j, j < Maps.size D → w'.cell? ⟨g, j, none⟩ = some (.int .i64 ((ss.mergeSort fun x y => decide (x ≤ y)).getD j 0)))) ∧ Below w.heap.size w w' := by
  refine (sorted_call b nn D _ w hown hmax).mono ?_
  rintro e w' ⟨v, ss, rfl, hp, hrow, hb⟩
  have hl : ss.length = Maps.size D := by rw [hp.length_eq, hlen]
  rw [hl] at hrow
  rcases hrow.2 with ⟨rfl, h0⟩ | ⟨g, cap, cur, rfl, hbase, _⟩
  · exact ⟨none, 0, ss, by rw [h0], ⟨⟨hp, hl⟩, .inl h0⟩, hb⟩
  · refine ⟨some ⟨g, 0, none⟩, cap, ss, rfl, ⟨⟨hp, hl⟩, .inr ⟨g, rfl, hbase, fun j hj => ?_⟩⟩, hb⟩
    rw [hrow.cellAt j (by omega), List.getElem?_map, getD_get 0 (by simp; omega), List.getElem?_eq_getElem (by simp; omega)]
    rfl

set_option maxHeartbeats 1000000 in
theorem bag_any (B n : Nat) (c : Int → Int) (w : World) (h : Cnts w B n c) (hn : n ≤ 1000000) (hc : ∀ m, c m ≠ 0 → 0 ≤ m ∧ 1 ≤ c m ∧ c m ≤ 1048576) :
    Calls Tryz.prog 52 #[.map (some B)] w fun e w' => ∃ a len cap rs, e = .returned (.slice a len cap) ∧ (Has c rs ∧ len ≤ n) ∧ Own w' w.heap.size a len cap rs ∧ Below w.heap.size w w' := by
  obtain ⟨i0, hi, hz0, hz1, hz2⟩ := info_parts infoRow
  obtain ⟨D, hD, hs, hkl, hnd, hmem⟩ := keys_known h
  have hBl := h.lt
  have HM : Hid (Cnts w B n c) := h
  have HC : Hid (∀ m, c m ≠ 0 → 0 ≤ m ∧ 1 ≤ c m ∧ c m ≤ 1048576) := hc
  have HK : Hid ((intKeys D).length = Maps.size D ∧ (intKeys D).Nodup ∧ ∀ m, m ∈ intKeys D ↔ (c m != 0) = true) := ⟨hkl, hnd, hmem⟩
  have hml : (1000000 : Nat) ≤ maxLen := by decide
  clear h hc hkl hnd hmem
  go_enter Tryz.func52, Tryz.ntmps52
  go_wp2_with (first
    | (at_len; refine wpList_len_own _ rfl _ 72 rfl 3 3 Tryz.underlying72 _ B n D rfl hD ?_)
    | (at_make; refine wpList_make_own _ rfl _ _ 36 rfl w.heap.size 56 i0 (.agg #[.int .i64 0, .int .i64 0]) 2 Tryz.underlying36 hi hz0 hz1 _ _ _ (Maps.size D) rfl rfl rfl (by rw [hz2]; omega) (by omega) (Nat.le_refl _) ?_; intro w1 hrow1 hg1)
    | (go_at_call 69; refine (keys_call B w1).mono ?_; rintro e w2 ⟨he, hw2⟩; subst he; subst hw2)
    | (go_at_call 68; refine (keys_slice B n D w1 (hD.kept hg1 (by simp)) (by omega) HK.out.1).mono ?_; rintro e w3 ⟨ak, capk, ss, he, HS, hb3⟩; subst he)
    | go_in)
  obtain ⟨N, hN⟩ : ∃ N, N = Maps.size D := ⟨_, rfl⟩
  obtain ⟨ks, hks⟩ : ∃ ks, ks = ss.mergeSort fun x y => decide (x ≤ y) := ⟨_, rfl⟩
  have hg : w.heap.size < w1.heap.size := (hrow1.lt w.heap.size rfl).2
  have B1 : Below w.heap.size w w3 := ((Below.refl _ _).grown hg1 (Nat.le_refl _) (fun j hj => by cases hj)).trans (hb3.mono (by omega))
  have G1 : w3.heap[w.heap.size]? = w1.heap[w.heap.size]? := hb3.block _ hg
  have KL : Hid (ks.length = N) := (show ks.length = N by have := HS.out.1.2; rw [hks, hN]; simpa using this)
  have HAS : Hid (Has c (rowsOf ks c)) := by
    rw [hks]
    exact (rowsOf_has (sort_rises (HS.out.1.1.nodup_iff.2 HK.out.2.1)) (fun m => by rw [List.mem_mergeSort, HS.out.1.1.mem_iff, HK.out.2.2]; simp) HC.out : _)
  have KA : Hid (N = 0 ∨ ∃ g, ak = some ⟨g, 0, none⟩ ∧ w.heap.size < g ∧ ∀ j, j < N → w3.cell? ⟨g, j, none⟩ = some (.int .i64 (ks.getD j 0))) := by
    rw [hks, hN]
    rcases HS.out.2 with h0 | ⟨g, h1, h2, h3⟩
    · exact .inl h0
    · exact .inr ⟨g, h1, by omega, h3⟩
  have NN : N ≤ n := by omega
  have INV0 : ∃ gk, w.heap.size < gk ∧ (0 < N → ak = some ⟨gk, 0, none⟩) ∧ BInv w B n N gk ks c 0 w3 := by
    have hr : w3.ownsRow w.heap.size 56 2 (.slice (some ⟨w.heap.size, 0, none⟩) 0 N) 0 (cellsF (rowsOf (ks.take 0) c)) := by
      rw [← hN] at hrow1
      refine ⟨rfl, ?_⟩
      rcases hrow1.2 with ⟨h0, _⟩ | ⟨g, cp, cur, hv, h1, h2, h3⟩
      · cases h0
      · simp only [Value.slice.injEq, Option.some.injEq, Addr.mk.injEq] at hv
        exact .inr ⟨g, cp, cur, by simp [hv], h1, by rw [← hv.1.1] at h2 ⊢; rw [G1]; exact h2, h3⟩
    have hm : Mp w3 B n (fun m => c m != 0) c := Mp.below (HM.out) B1
    rcases KA.out with h0 | ⟨g, h1, h2, h3⟩
    · exact ⟨w.heap.size + 1, by omega, fun h => by omega, ⟨hr, hm⟩, fun j hj => by omega, B1⟩
    · exact ⟨g, h2, fun _ => h1, ⟨hr, hm⟩, h3, B1⟩
  obtain ⟨gk, hgk, hak, inv⟩ := INV0
  have HAK : Hid (0 < N → ak = some ⟨gk, 0, none⟩) := hak
  have INV : Hid (BInv w B n N gk ks c 0 w3) := inv
  rw [← hN]
  have KW : Hid (∀ j, j < N → In64 (ks.getD j 0)) := fun j hj => by
    have := HM.out.2
    by_cases hi : In64 (ks.getD j 0)
    · exact hi
    · have h1 := (this _ hi).2
      have h2 : ks.getD j 0 ∈ ks := by rw [getD_get 0 (by rw [KL.out]; exact hj)]; exact List.getElem_mem _
      have h3 := HAS.out.1.2 (ks.getD j 0, c (ks.getD j 0)) (List.mem_map.2 ⟨_, h2, rfl⟩)
      simp only at h3
      omega
  have hN6 : N ≤ 1000000 := by omega
  clear HS hks hak inv hN G1 B1 KA hrow1 hg1 hb3 hD hs HK HC
  go_wp2
  go_loopw [3, 13] (fun v i wr => ∃ k : Nat, k ≤ N ∧ i = .int .i64 k ∧ v = .slice (some ⟨w.heap.size, 0, none⟩) k N ∧ BInv w B n N gk ks c k wr) (fun _ i _ => N - (intOf i).toNat)
  case atStart => exact ⟨0, by omega, rfl, rfl, INV.out⟩
  case round =>
    obtain ⟨k, hk, rfl, rfl, hI⟩ := hrel
    have HI : Hid (BInv w B n N gk ks c k wr) := hI
    clear hI INV
    by_cases hlt : k < N
    · have hlt' : (k : Int) < N := by omega
      have ha := HAK.out (by omega)
      subst ha
      have c0 := HI.out.2.1 k hlt
      have hbl := World.block_lt_of_cell? wr _ c0
      have hin := KW.out k hlt
      have IN : Hid (In64 (ks.getD k 0)) := hin
      clear hin
      obtain ⟨m, hm⟩ : ∃ m, m = ks.getD k 0 := ⟨_, rfl⟩
      have EM : Hid (m = ks.getD k 0) := hm
      rw [← hm] at c0 IN
      clear hm
      have hws := HI.out.2.2.size
      go_wp2_with (first
        | (at_lookup; refine wp_look _ rfl _ _ rfl B n _ c rfl HI.out.1.2 m rfl IN.out ?_)
        | (at_builtin; refine wpList_append_fits _ rfl _ _ 36 rfl w.heap.size 56 i0 2 Tryz.underlying36 hi hz1 w.heap.size k N _ rfl (HI.out.1.1.alloc _) ⟨wr.heap.size, 0, none⟩ 1 1 [.int .i64 m, .int .i64 (c m)] rfl rfl (cells_two _ _ _ _) (by simp [Value.oneCell']) (by omega) ?_; intro w4 hown4 hg4)
        | go_in)
      have NX := HI.out.next hlt KL.out hBl hgk _ (by rw [← EM.out]; exact hown4) hg4
      go_roundw
      case rel => exact ⟨k + 1, by omega, by go_num, rfl, NX⟩
      case measure => simp [intOf]; omega
    · obtain rfl : k = N := by omega
      have R : Hid (rowsOf (ks.take k) c = rowsOf ks c) := by rw [List.take_of_length_le (by rw [KL.out]; omega)]; exact (rfl : rowsOf ks c = _)
      go_wp2
      go_ret
      refine ⟨_, k, k, rowsOf ks c, rfl, ⟨HAS.out, NN⟩, ⟨⟨by unfold rowsOf; rw [List.length_map]; exact KL.out, fun i hi => ?_⟩, ?_⟩, HI.out.2.2⟩
      · have hik : i < k := by unfold rowsOf at hi; rw [List.length_map, KL.out] at hi; exact hi
        have e : (rowsOf ks c).getD i zr = (ks.getD i 0, c (ks.getD i 0)) := by
          unfold rowsOf at hi ⊢
          rw [getD_get zr hi, List.getElem_map, getD_get 0 (by rw [KL.out]; exact hik)]
        have h3 := HAS.out.1.2 _ (getD_mem hi)
        rw [e] at h3 ⊢
        simp only at h3
        exact ⟨KW.out i hik, by unfold In64; simp only; omega⟩
      · rw [← R.out]; exact HI.out.1.1
end Go.Proofs.YtnjpblmplneojaaGreatDoor.Bag
/- held of package bag: a contract of the call, over the turned program. -/
namespace Go.Proofs.YtnjpblmplneojaaGreatDoor.Bag
open Go.RowKit Go.Maps Go.Proofs.YtnjpblmplneojaaGreatDoor.Frame
set_option linter.unusedVariables false

/-- a row put into a map of counts -/
theorem Cnts.put {w w1 : World} {B n : Nat} {c c' : Int → Int} {m z : Int} (h : Mp w1 B n (fun i => i == m || c i != 0) (setC c m z)) (hz : z ≠ 0) (e : ∀ x, setC c m z x = c' x) : Cnts w1 B n c' :=
  Mp.congr h (fun x => by
    rw [← e x]
    unfold setC
    by_cases hx : x = m
    · rw [if_pos hx]; simp [hx, hz]
    · rw [if_neg hx]; simp [hx]) e

theorem makeMap_run (n : Int) (w : World) : (Instr.makeMap 72 (some (.int .i64 n))).run Tryz.prog w = .ok (.map (some w.heap.size)) (w.alloc (.map #[] 0)) := by
  simp only [Instr.makeMap, Sem.run_bind, run_underlying Tryz.underlying72, Result.andThen_ok]
  rfl

set_option maxHeartbeats 1000000 in
theorem held_any (a : Option Addr) (len cap : Nat) (rs : List Row) (w : World) (h : Bags w a len rs) (hr : RightP rs) (hl : len ≤ 1000000) :
    Calls Tryz.prog 51 #[.slice a len cap] w fun e w' => ∃ B, e = .returned (.map (some B)) ∧ (w.heap.size ≤ B ∧ Cnts w' B len (cntF rs)) ∧ Below w.heap.size w w' := by
  have HC : Hid (Bags w a len rs) := h
  have HR : Hid (RightP rs) := hr
  have HL : Hid (rs.length = len) := h.1.1
  clear h hr
  have hmm := makeMap_run
  go_enter Tryz.func51, Tryz.ntmps51
  go_wp2
  go_loopw [11] (fun i wr => ∃ k : Nat, k ≤ len ∧ i = .int .i64 k ∧ Hid (Cnts wr w.heap.size k (cntF (rs.take k))) ∧ Below w.heap.size w wr) (fun i _ => len - (intOf i).toNat)
  case atStart => exact ⟨0, by omega, rfl, (Cnts.made w : Cnts _ _ _ _), (Below.refl _ _).alloc (Nat.le_refl _) _⟩
  case round =>
    obtain ⟨k, hk, rfl, hM, hnx⟩ := hrel
    clear hmm
    by_cases hlt : k < len
    · have hlt' : (k : Int) < len := by omega
      obtain ⟨b, off, ha, hbl, hat⟩ := (HC.out.below hnx).row (k := k) hlt
      subst ha
      have hkl : k < rs.length := by rw [HL.out]; exact hlt
      obtain ⟨c0, c1⟩ := hat k hkl
      have hI := HC.out.1.2 k hkl
      have hG := (right_good HR.out hkl).1
      have hT := cnt_take HR.out hkl
      obtain ⟨m, hm⟩ : ∃ m, m = (rs.getD k zr).1 := ⟨_, rfl⟩
      obtain ⟨c, hc⟩ : ∃ c, c = (rs.getD k zr).2 := ⟨_, rfl⟩
      rw [← hm, ← hc] at hI hG
      simp only [← hm, ← hc] at hT
      rw [← hm] at c0
      rw [← hc] at c1
      have I : Hid (In64 m ∧ In64 c) := hI
      have G : Hid (c ≠ 0) := (show c ≠ 0 by omega)
      have T : Hid (∀ x, cntF (rs.take (k + 1)) x = if x = m then c else cntF (rs.take k) x) := hT
      clear hat hm hc hI hG hT hkl
      have hws := hnx.size
      go_wp2_with (first
        | (at_mapUpdate; refine wp_put _ rfl _ _ _ rfl w.heap.size k _ _ rfl (hM.out.alloc _) (by omega) m c rfl I.out.1 rfl I.out.2 ?_; intro w1 h1 hg1)
        | go_in)
      have N1 : Cnts w1 w.heap.size (k + 1) (cntF (rs.take (k + 1))) := Cnts.put (w := wr) h1 G.out (fun x => (T.out x).symm)
      have N2 : Below w.heap.size w w1 := (hnx.alloc hnx.size _).grown hg1 (by simp; omega) (fun i hi => by cases hi; exact Nat.le_refl _)
      go_roundw
      case rel => exact ⟨k + 1, by omega, by go_num, N1, N2⟩
      case measure => simp [intOf]; omega
    · obtain rfl : k = len := by omega
      have E : Hid (rs.take k = rs) := List.take_of_length_le (by rw [HL.out]; omega)
      go_wp2
      go_ret
      exact ⟨_, rfl, ⟨Nat.le_refl _, by have := hM.out; rw [E.out] at this; exact this⟩, hnx⟩
end Go.Proofs.YtnjpblmplneojaaGreatDoor.Bag
