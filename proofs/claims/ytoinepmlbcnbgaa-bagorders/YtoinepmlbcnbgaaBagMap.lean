/- Counts in a map: what is held, and how it is told: contracts of the calls, over the turned program. -/
import Derived.Test.YtoinepmlbcnbgaaBagKeys
import Derived.Test.YtoinepmlbcnbgaaBagMem
import Derived.Maps.OwnSet
import Derived.Maps.OwnOps
import Derived.Maps.Range
import Derived.OwnWalk
namespace Go.Proofs.Ytoinepmlbcnbgaa.Bag
open Go.RowKit Go.Maps Go.Proofs.Ytoinepmlbcnbgaa.Frame
set_option linter.unusedVariables false

theorem law : Keyed Try.prog 3 := int_keyed Try.underlying3
theorem zeroI (w : World) : (zeroValue 3).run Try.prog w = .ok (.int .i64 0) w := by kernel_rfl
theorem infoRow : (Try.prog.info? 39).map (fun i => (i.zero, i.size, i.bytes)) = some (some (.agg #[.int .i64 0, .int .i64 0]), 2, 16) := by kernel_rfl
theorem wf_of {n : Int} (h : In64 n) : (Lit.int .i64 n).wf = true := WalkArith.wf_i64 h
theorem key_of {n : Int} (h : In64 n) : keyOf Try.prog 3 (.int .i64 n) = some (.int .i64 n) := keyOf_int_mk Try.underlying3 (wf_of h)

/-- a map in memory: which keys it has, and what it holds at each -/
def Mp (w : World) (B n : Nat) (h : Int → Bool) (c : Int → Int) : Prop :=
  (∃ D : DataW Unit, w.ownsMap Try.prog 3 (plainElem Try.prog 3) B n D ∧ ∀ m, In64 m → Maps.has D (.int .i64 m) = h m ∧ D.atKey (.int .i64 m) (.lit (.int .i64 0)) = .lit (.int .i64 (c m))) ∧ ∀ m, ¬ In64 m → h m = false ∧ c m = 0
/-- a map of counts: what is not nought has a key -/
def Cnts (w : World) (B n : Nat) (c : Int → Int) : Prop := Mp w B n (fun m => c m != 0) c

theorem Mp.congr {w : World} {B n : Nat} {h h' : Int → Bool} {c c' : Int → Int} (k : Mp w B n h c) (e1 : ∀ m, h m = h' m) (e2 : ∀ m, c m = c' m) : Mp w B n h' c' := by
  obtain rfl : h = h' := funext e1
  obtain rfl : c = c' := funext e2
  exact k
theorem Cnts.congr {w : World} {B n : Nat} {c c' : Int → Int} (k : Cnts w B n c) (e : ∀ m, c m = c' m) : Cnts w B n c' := Mp.congr k (fun m => by rw [e]) e
theorem Mp.lt {w : World} {B n : Nat} {h : Int → Bool} {c : Int → Int} (k : Mp w B n h c) : B < w.heap.size := by obtain ⟨⟨D, hD, _⟩, _⟩ := k; exact hD.lt
theorem Mp.mono {w : World} {B n n' : Nat} {h : Int → Bool} {c : Int → Int} (k : Mp w B n h c) (hn : n ≤ n') : Mp w B n' h c := by obtain ⟨⟨D, hD, r⟩, r2⟩ := k; exact ⟨⟨D, hD.mono hn, r⟩, r2⟩
theorem Mp.kept {w w' : World} {B n : Nat} {h : Int → Bool} {c : Int → Int} {row : Option Nat} (k : Mp w B n h c) (hg : w.grownBy w' row) (hne : some B ≠ row) : Mp w' B n h c := by
  obtain ⟨⟨D, hD, r⟩, r2⟩ := k; exact ⟨⟨D, hD.kept hg hne, r⟩, r2⟩
theorem Mp.below {w w' : World} {B n : Nat} {h : Int → Bool} {c : Int → Int} (k : Mp w B n h c) (hb : Below w.heap.size w w') : Mp w' B n h c := by
  have hl := k.lt
  obtain ⟨⟨D, hD, r⟩, r2⟩ := k
  obtain ⟨es, clock, hx, Ft, hs, hDD⟩ := hD
  exact ⟨⟨D, ⟨es, clock, (hb.block B hl).trans hx, Ft, hs, hDD⟩, r⟩, r2⟩
theorem Mp.alloc {w : World} {B n : Nat} {h : Int → Bool} {c : Int → Int} (k : Mp w B n h c) (o : Obj) : Mp (w.alloc o) B n h c := k.kept (World.grownBy_alloc w o none) (by simp)
theorem Mp.drewN {w : World} {B n : Nat} {h : Int → Bool} {c : Int → Int} (k : Mp w B n h c) (q : Nat) : Mp (w.drewN q) B n h c := k.below (below_drewN (Below.refl _ _) q)
theorem Cnts.made (w : World) : Cnts (w.alloc (.map #[] 0)) w.heap.size 0 (fun _ => 0) :=
  ⟨⟨.map [], World.ownsMap_made _ _ _ _, fun m _ => ⟨rfl, rfl⟩⟩, fun m _ => ⟨rfl, rfl⟩⟩

/-- 'm[k]', at the operation -/
theorem wp_look {ops : Array Oper} {rest : List Oper} {o : Oper} {a : Act} {Q : Exit → Act → World → Prop} (w : World) (hg : o.guard = none) (m x : Operand) (hop : o.op = Op.lookup 44 m x false)
    (B n : Nat) (h : Int → Bool) (c : Int → Int) (hm : a.eval m = .map (some B)) (k : Mp w B n h c) (y : Int) (hx : a.eval x = .int .i64 y) (hy : In64 y)
    (hK : wpList Try.prog ops Q rest (a.put o.dst (.int .i64 (c y))) w) : wpList Try.prog ops Q (o :: rest) a w := by
  obtain ⟨⟨D, hD, r⟩, r2⟩ := k
  refine wpList_lookup_own_int w hg m x 44 hop 3 3 .i64 law Try.underlying44 Try.underlying3 (zeroI _) B n D hm hD _ _ hx (key_of hy) ?_
  intro z hz _
  have := (r y hy).2
  rw [hz] at this
  simp only [DataW.lit.injEq, Lit.int.injEq, true_and] at this
  rw [this]
  exact hK
/-- 'm[k] = v', at the operation -/
theorem wp_put {ops : Array Oper} {rest : List Oper} {o : Oper} {a : Act} {Q : Exit → Act → World → Prop} (w : World) (hg : o.guard = none) (m x v : Operand) (hop : o.op = Op.mapUpdate 44 m x v)
    (B n : Nat) (h : Int → Bool) (c : Int → Int) (hm : a.eval m = .map (some B)) (k : Mp w B n h c) (hn : n ≤ 3000000) (y z : Int) (hx : a.eval x = .int .i64 y) (hy : In64 y) (hv : a.eval v = .int .i64 z) (hz : In64 z)
    (hK : ∀ w', Mp w' B (n + 1) (fun i => i == y || h i) (setC c y z) → w.grownBy w' (some B) → wpList Try.prog ops Q rest (a.put o.dst undef) w') : wpList Try.prog ops Q (o :: rest) a w := by
  obtain ⟨⟨D, hD, r⟩, r2⟩ := k
  have hml : (3000000 : Nat) < maxLen := by decide
  refine wpList_mapUpdate_own w hg m x v 44 hop 3 3 law Try.underlying44 _ B n D hm hD (by omega) _ _ _ hx hv (key_of hy) _ [] (plainElem_int Try.underlying3 (wf_of hz)) ?_
  intro w1 h1 hg1
  refine hK w1 ⟨⟨_, h1, fun i hi => ?_⟩, fun i hi => ?_⟩ hg1
  · by_cases e : i = y
    · subst e
      exact ⟨by rw [Maps.has_put_same hD.isMap (by trivial)]; simp, by rw [Maps.atKey_put_same hD.isMap (by trivial)]; simp [setC]⟩
    · have hne : (Lit.int .i64 i) ≠ .int .i64 y := fun e' => e (by simpa using e')
      exact ⟨by rw [Maps.has_put_other hne, (r i hi).1]; simp [e], by rw [Maps.atKey_put_other hne, (r i hi).2]; simp [setC, e]⟩
  · have e : i ≠ y := fun e => hi (e ▸ hy)
    exact ⟨by simp [e, (r2 i hi).1], by simp [setC, e, (r2 i hi).2]⟩
/-- 'delete(m, k)', at the operation -/
theorem wp_del {ops : Array Oper} {rest : List Oper} {o : Oper} {a : Act} {Q : Exit → Act → World → Prop} (w : World) (hg : o.guard = none) (m x : Operand) (hop : o.op = Op.call { callee := Callee.builtin Builtin.delete, args := #[m, x], argTypes := #[44, 3] })
    (B n : Nat) (h : Int → Bool) (c : Int → Int) (hm : a.eval m = .map (some B)) (k : Mp w B n h c) (y : Int) (hx : a.eval x = .int .i64 y) (hy : In64 y)
    (hK : ∀ w', Mp w' B n (fun i => i != y && h i) (setC c y 0) → w.grownBy w' (some B) → wpList Try.prog ops Q rest (a.put o.dst (.tuple #[])) w') : wpList Try.prog ops Q (o :: rest) a w := by
  obtain ⟨⟨D, hD, r⟩, r2⟩ := k
  refine wpList_delete_own w hg m x 44 3 hop 3 law Try.underlying44 _ B n D hm hD _ _ hx (key_of hy) ?_
  intro w1 h1 hg1
  refine hK w1 ⟨⟨_, h1, fun i hi => ?_⟩, fun i hi => ?_⟩ hg1.grown
  · by_cases e : i = y
    · subst e
      exact ⟨by rw [Maps.has_del_same]; simp, by rw [Maps.atKey_del_same]; simp [setC]⟩
    · have hne : (Lit.int .i64 i) ≠ .int .i64 y := fun e' => e (by simpa using e')
      exact ⟨by rw [Maps.has_del_other hne, (r i hi).1]; simp [e], by rw [Maps.atKey_del_other hne, (r i hi).2]; simp [setC, e]⟩
  · have e : i ≠ y := fun e => hi (e ▸ hy)
    exact ⟨by simp [(r2 i hi).1], by simp [setC, e, (r2 i hi).2]⟩
/-- 'len(m)', at the operation; and the keys, sorted -/
theorem keys_known {w : World} {B n : Nat} {h : Int → Bool} {c : Int → Int} (k : Mp w B n h c) :
    ∃ D : DataW Unit, w.ownsMap Try.prog 3 (plainElem Try.prog 3) B n D ∧ Maps.size D ≤ n ∧ (intKeys D).length = Maps.size D ∧ (intKeys D).Nodup ∧ ∀ m, m ∈ intKeys D ↔ h m = true := by
  obtain ⟨⟨D, hD, r⟩, r2⟩ := k
  obtain ⟨es, hE, hpw, _⟩ := hD.entries law
  obtain ⟨es', hE', hko⟩ := hD.keysOf
  obtain rfl : es = es' := by rw [hE] at hE'; simpa using hE'
  have hwf := intKeys_wf hD Try.underlying3
  have hkk : ∀ p ∈ es, ∃ x, p.1 = .int .i64 x := fun p hp => by
    obtain ⟨v, hv⟩ := hko p hp
    obtain ⟨x, _, hx, _⟩ := Maps.keyOf_i64 Try.underlying3 hv
    exact ⟨x, hx⟩
  refine ⟨D, hD, hD.size_le, by subst hE; simp [intKeys, Maps.size_eq], ?_, fun m => ?_⟩
  · subst hE
    show (es.map fun p => Go.intOf p.1).Nodup
    refine List.pairwise_map.2 (hpw.imp_of_mem fun {p q} hp' hq' hne e => hne ?_)
    obtain ⟨a, ha⟩ := hkk p hp'
    obtain ⟨b, hb⟩ := hkk q hq'
    rw [ha, hb] at e ⊢
    exact congrArg _ e
  · have hmem : m ∈ intKeys D ↔ Maps.has D (.int .i64 m) = true := by
      subst hE
      rw [Maps.has_eq, List.any_eq_true]
      show m ∈ (es.map fun p => Go.intOf p.1) ↔ _
      rw [List.mem_map]
      constructor
      · rintro ⟨p, hp', rfl⟩
        obtain ⟨a, ha⟩ := hkk p hp'
        exact ⟨p, hp', by rw [ha]; simp [Lit.sameKey, Go.intOf]⟩
      · rintro ⟨p, hp', hs⟩
        obtain ⟨a, ha⟩ := hkk p hp'
        rw [ha] at hs
        exact ⟨p, hp', by rw [ha]; simpa [Lit.sameKey, Go.intOf] using hs⟩
    constructor
    · intro hm
      have := bounds_i64 (hwf m hm)
      rw [← (r m this).1]; exact hmem.1 hm
    · intro hm
      by_cases hi : In64 m
      · exact hmem.2 ((r m hi).1.trans hm)
      · rw [(r2 m hi).1] at hm; cases hm
end Go.Proofs.Ytoinepmlbcnbgaa.Bag
