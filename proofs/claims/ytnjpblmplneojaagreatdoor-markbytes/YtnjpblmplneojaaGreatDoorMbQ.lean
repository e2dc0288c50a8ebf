/- Contracts and plain mathematics, together: MarkRDP, MarkRDM. -/
import Derived.Test.YtnjpblmplneojaaGreatDoorMbD
import Derived.Test.YtnjpblmplneojaaGreatDoorMbO
import Derived.Test.YtnjpblmplneojaaGreatDoorMaM
import Derived.Test.YtnjpblmplneojaaGreatDoorMaL
/- Decode, the document's own, in plain Lean: how far it has come. -/
namespace Go.Proofs.YtnjpblmplneojaaGreatDoor.Mark
open Go.RowKit Go.Proofs.YtnjpblmplneojaaGreatDoor.Frame Go.Proofs.YtnjpblmplneojaaGreatDoor.Bag
set_option linter.unusedVariables false

/-- k bags of n are read, m; q is left -/
def Mid (l : List UInt8) (n k : Nat) (m : Mk) (q : List UInt8) : Prop := bagsD n (l.drop 1) = (bagsD (n - k) q).map fun p => (m ++ p.1, p.2)
theorem mid_start (l : List UInt8) (n : Nat) : Mid l n 0 [] (l.drop 1) := by
  unfold Mid
  rw [Nat.sub_zero]
  cases bagsD n (l.drop 1) <;> rfl
theorem mid_end {l : List UInt8} {n : Nat} {m : Mk} {q : List UInt8} (h : Mid l n n m q) : bagsD n (l.drop 1) = some (m, q) := by
  unfold Mid at h
  rw [Nat.sub_self] at h
  rw [h]
  show some (m ++ [], q) = _
  rw [List.append_nil]
theorem mid_two {l : List UInt8} {n k : Nat} {m : Mk} {q : List UInt8} (h : Mid l n k m q) (hk : k < n) (hq : q.length < 2) : bagsD n (l.drop 1) = none := by
  unfold Mid at h
  rw [h, show n - k = (n - (k + 1)) + 1 by omega]
  unfold bagsD
  rw [if_pos hq]; rfl
theorem mid_rows {l : List UInt8} {n k : Nat} {m : Mk} {q : List UInt8} (h : Mid l n k m q) (hk : k < n) (hq : (q.drop 2).length < 8 * numR q) : bagsD n (l.drop 1) = none := by
  unfold Mid at h
  rw [h, show n - k = (n - (k + 1)) + 1 by omega]
  unfold bagsD
  by_cases h2 : q.length < 2
  · rw [if_pos h2]; rfl
  · rw [if_neg h2, if_pos hq]; rfl
theorem mid_wrong {l : List UInt8} {n k : Nat} {m : Mk} {q : List UInt8} (h : Mid l n k m q) (hk : k < n) (hr : rightB (rowsD (numR q) (q.drop 2)) = false) : bagsD n (l.drop 1) = none := by
  unfold Mid at h
  rw [h, show n - k = (n - (k + 1)) + 1 by omega]
  unfold bagsD
  by_cases h2 : q.length < 2
  · rw [if_pos h2]; rfl
  rw [if_neg h2]
  by_cases h3 : (q.drop 2).length < 8 * numR q
  · rw [if_pos h3]; rfl
  rw [if_neg h3, hr]; rfl
theorem mid_next {l : List UInt8} {n k : Nat} {m : Mk} {q : List UInt8} (h : Mid l n k m q) (hk : k < n) (h2 : ¬ q.length < 2) (h3 : ¬ (q.drop 2).length < 8 * numR q) (hr : rightB (rowsD (numR q) (q.drop 2)) = true) : Mid l n (k + 1) (m ++ [rowsD (numR q) (q.drop 2)]) ((q.drop 2).drop (8 * numR q)) := by
  unfold Mid at *
  rw [h, show n - k = (n - (k + 1)) + 1 by omega]
  generalize n - (k + 1) = j
  show (bagsD (j + 1) q).map _ = _
  have e : bagsD (j + 1) q = (bagsD j ((q.drop 2).drop (8 * numR q))).map fun p => (rowsD (numR q) (q.drop 2) :: p.1, p.2) := by
    rw [bagsD, if_neg h2, if_neg h3, if_pos hr]
    cases bagsD j ((q.drop 2).drop (8 * numR q)) with
    | none => rfl
    | some p => rfl
  rw [e, Option.map_map]
  congr 1
  funext p
  show (m ++ rowsD (numR q) (q.drop 2) :: p.1, p.2) = (m ++ [rowsD (numR q) (q.drop 2)] ++ p.1, p.2)
  rw [List.append_assoc]; rfl
theorem dec_none {l : List UInt8} (h : decF l = none) : decE l = 4 ∧ decM l = [] := by
  rw [dec_is] at h
  unfold decE decM
  by_cases g : goodR l = true
  · rw [if_pos g] at h; cases h
  · rw [if_neg g, if_neg g]; exact ⟨rfl, rfl⟩
theorem dec_short {l : List UInt8} (h : l.length = 0) : decF l = none := by unfold decF; rw [if_pos h]
theorem dec_many {l : List UInt8} (h : 64 < byteAt l 0) : decF l = none := by
  unfold decF
  by_cases h0 : l.length = 0
  · rw [if_pos h0]
  · rw [if_neg h0, if_pos h]
theorem dec_no {l : List UInt8} (h : bagsD (byteAt l 0) (l.drop 1) = none) : decF l = none := by
  unfold decF
  by_cases h0 : l.length = 0
  · rw [if_pos h0]
  rw [if_neg h0]
  by_cases h1 : 64 < byteAt l 0
  · rw [if_pos h1]
  rw [if_neg h1, h]
theorem dec_left {l : List UInt8} {m : Mk} {q : List UInt8} (h : bagsD (byteAt l 0) (l.drop 1) = some (m, q)) (hq : q.length ≠ 0) : decF l = none := by
  unfold decF
  by_cases h0 : l.length = 0
  · rw [if_pos h0]
  rw [if_neg h0]
  by_cases h1 : 64 < byteAt l 0
  · rw [if_pos h1]
  rw [if_neg h1, h]
  exact if_neg hq
theorem dec_whole {l : List UInt8} {m : Mk} {q : List UInt8} (h0 : l.length ≠ 0) (h1 : ¬ 64 < byteAt l 0) (h : bagsD (byteAt l 0) (l.drop 1) = some (m, q)) (hq : q.length = 0) : decE l = 0 ∧ decM l = m := by
  refine (dec_some _ _).1 ?_
  unfold decF
  rw [if_neg h0, if_neg h1, h]
  exact if_pos hq
theorem byteAt_drop (l : List UInt8) (a k : Nat) : byteAt (l.drop a) k = byteAt l (a + k) := by
  unfold byteAt
  rw [List.getD_eq_getElem?_getD, List.getD_eq_getElem?_getD, List.getElem?_drop]
/-- one byte more of a number -/
theorem nv_next (l : List UInt8) (at_ k : Nat) (h : k < 4) : wrap64 (wrap64 (256 * (nv (l.drop at_) k : Int)) + (byteAt l (at_ + k) : Nat)) = ((nv (l.drop at_) (k + 1) : Nat) : Int) := by
  have h1 := nv_lt (l.drop at_) k
  have h2 : nv (l.drop at_) (k + 1) = nv (l.drop at_) k * 256 + byteAt l (at_ + k) := by rw [← byteAt_drop]; rfl
  have h3 := byteAt_lt l (at_ + k)
  have h4 : 256 ^ k ≤ 256 ^ 3 := Nat.pow_le_pow_right (by omega) (by omega)
  have h5 : (256 : Nat) ^ 3 = 16777216 := rfl
  rw [h2]
  generalize nv (l.drop at_) k = x at *
  generalize byteAt l (at_ + k) = y at *
  have h6 : x < 16777216 := by omega
  unfold wrap64
  omega
end Go.Proofs.YtnjpblmplneojaaGreatDoor.Mark
/- A marking that grows, bag by bag, in memory of the call's own. -/
namespace Go.Proofs.YtnjpblmplneojaaGreatDoor.Mark
open Go.RowKit Go.Maps Go.Proofs.YtnjpblmplneojaaGreatDoor.Frame Go.Proofs.YtnjpblmplneojaaGreatDoor.Bag
set_option linter.unusedVariables false
set_option linter.unusedSimpArgs false

theorem bags_block {w w' : World} {a : Option Addr} {len : Nat} {rs : List Row} (h : Bags w a len rs) (hb : ∀ b off, a = some ⟨b, off, none⟩ → 0 < len → b < w.heap.size → w'.heap[b]? = w.heap[b]?) : Bags w' a len rs := by
  refine ⟨h.1, ?_⟩
  rcases h.2 with h0 | ⟨b, off, ha, hc⟩
  · exact .inl h0
  · rcases Nat.eq_zero_or_pos len with h0 | h0
    · exact .inl h0
    refine .inr ⟨b, off, ha, fun i hi => ?_⟩
    have hlt := World.block_lt_of_cell? w _ (hc 0 (by rw [h.1.1]; exact h0)).1
    have e := hb b off ha h0 hlt
    obtain ⟨c0, c1⟩ := hc i hi
    exact ⟨(World.cell?_of_block (w := w) e).trans c0, (World.cell?_of_block (w := w) e).trans c1⟩
/-- a bag apart from a block -/
def Apt (p : Option Nat) (w : World) (x : Bg) : Prop := Bags w x.a x.rows.length x.rows ∧ ∀ b off, x.a = some ⟨b, off, none⟩ → 0 < x.rows.length → b < w.heap.size ∧ some b ≠ p
/-- a marking of the call's own, that grows -/
def MG (B : Nat) (w : World) (ma : Option Addr) (mc : Nat) (gs : List Bg) : Prop := w.ownsRow B 36 1 (.slice ma gs.length mc) gs.length (gs.map bgV) ∧ ∀ x, x ∈ gs → Apt (ma.map Addr.block) w x
theorem mg_nil (B : Nat) (w : World) : MG B w none 0 [] := ⟨World.ownsRow_nil _ _ _ _, fun x hx => by cases hx⟩
theorem MG.below {B : Nat} {w w' : World} {ma : Option Addr} {mc : Nat} {gs : List Bg} (h : MG B w ma mc gs) (hb : Below w.heap.size w w') : MG B w' ma mc gs := by
  refine ⟨h.1.kept (row := none) ⟨hb.os, hb.tape, hb.output, hb.size, fun k hk _ => hb.block k hk⟩ (by cases hv : (Value.slice ma gs.length mc).ownBlock <;> simp), fun x hx => ?_⟩
  obtain ⟨h1, h2⟩ := h.2 x hx
  exact ⟨h1.below hb, fun b off ha h0 => ⟨Nat.lt_of_lt_of_le (h2 b off ha h0).1 hb.size, (h2 b off ha h0).2⟩⟩
theorem MG.lt {B : Nat} {w : World} {ma : Option Addr} {mc : Nat} {gs : List Bg} (h : MG B w ma mc gs) : ∀ k, ma.map Addr.block = some k → B ≤ k ∧ k < w.heap.size := fun k hk => h.1.lt k (by rw [own_block]; exact hk)
theorem MG.add {B : Nat} {w1 w2 : World} {ma a' : Option Addr} {mc c' : Nat} {gs : List Bg} {x : Bg} {o : Obj} (h : MG B w1 ma mc gs) (hx : Apt (ma.map Addr.block) w1 x)
    (hown : w2.ownsRow B 36 1 (.slice a' (gs.length + 1) c') (gs.length + 1) (gs.map bgV ++ [bgV x])) (hg : (w1.alloc o).grownBy w2 (ma.map Addr.block)) (hor : a'.map Addr.block = ma.map Addr.block ∨ a'.map Addr.block = some (w1.alloc o).heap.size) : MG B w2 a' c' (gs ++ [x]) := by
  have hz : (w1.alloc o).heap.size = w1.heap.size + 1 := by simp
  refine ⟨by rw [List.length_append, List.map_append]; exact hown, fun y hy => ?_⟩
  have key : Apt (ma.map Addr.block) w1 y := by
    rcases List.mem_append.1 hy with hy | hy
    · exact h.2 y hy
    · rw [List.mem_singleton.1 hy]; exact hx
  refine ⟨bags_block key.1 fun b off ha h0 hlt => ?_, fun b off ha h0 => ?_⟩
  · exact (hg.block b (by omega) (key.2 b off ha h0).2).trans (Below.heap_alloc w1 o b hlt)
  · obtain ⟨k1, k2⟩ := key.2 b off ha h0
    have := hg.size
    refine ⟨by omega, fun e => ?_⟩
    rcases hor with h1 | h1
    · exact k2 (e.trans h1)
    · rw [h1, hz] at e; injection e with e; omega
theorem MG.mks {B : Nat} {w : World} {ma : Option Addr} {mc : Nat} {gs : List Bg} (h : MG B w ma mc gs) (hs : ∀ x, x ∈ gs → x.rows.length ≤ 140737488355328) : Mks w ma gs.length gs := by
  refine ⟨rfl, ?_⟩
  rcases h.1.2 with ⟨_, h0⟩ | ⟨g, c, cur, hv, _⟩
  · exact .inl h0
  · simp only [Value.slice.injEq] at hv
    obtain ⟨rfl, _, rfl⟩ := hv
    refine .inr ⟨g, 0, rfl, fun i hi => ?_⟩
    have hm : gs.getD i nilBg ∈ gs := by rw [List.getD_eq_getElem?_getD, List.getElem?_eq_getElem hi]; exact List.getElem_mem _
    refine ⟨?_, (h.2 _ hm).1, hs _ hm⟩
    rw [Nat.zero_add, h.1.cellAt i (by omega), List.getElem?_map, List.getElem?_eq_getElem hi, List.getD_eq_getElem?_getD, List.getElem?_eq_getElem hi]; rfl

/-- rows of the call's own, as far as they go -/
def Xr (W w : World) (out : List Row) (a : Option Addr) (c : Nat) : Prop := w.ownsRow W.heap.size 56 2 (.slice a out.length c) out.length (cellsF out) ∧ Below W.heap.size W w
theorem xr_nil (W : World) : Xr W W [] none 0 := ⟨World.ownsRow_nil _ _ _ _, Below.refl _ _⟩
theorem Xr.up {W w w' : World} {out : List Row} {a : Option Addr} {c : Nat} (h : Xr W w out a c) (hb : Below w.heap.size w w') : Xr W w' out a c :=
  ⟨h.1.kept (row := none) ⟨hb.os, hb.tape, hb.output, hb.size, fun k hk _ => hb.block k hk⟩ (by cases hv : (Value.slice a out.length c).ownBlock <;> simp), h.2.trans (hb.mono h.2.size)⟩
theorem Xr.add {W w w1 : World} {out : List Row} {a a' : Option Addr} {c c' : Nat} {x y : Int} {o : Obj} (h : Xr W w out a c)
    (h1 : w1.ownsRow W.heap.size 56 2 (.slice a' (out.length + 1) c') (out.length + 1) (cellsF out ++ [.int .i64 x, .int .i64 y])) (hg : (w.alloc o).grownBy w1 (a.map Addr.block)) : Xr W w1 (out ++ [(x, y)]) a' c' := by
  refine ⟨by rw [List.length_append, cellsF_snoc]; exact h1, (h.2.alloc h.2.size o).grown hg (by simp; have := h.2.size; omega) (fun k hk => (h.1.lt k (by rw [own_block]; exact hk)).1)⟩
theorem Xr.own {W w : World} {out : List Row} {a : Option Addr} {c n : Nat} (h : Xr W w out a c) (hn : out.length = n) (o : Obj) : (w.alloc o).ownsRow W.heap.size 56 2 (.slice a n c) n (cellsF out) ∧ W.heap.size ≤ (w.alloc o).heap.size := by
  subst hn
  exact ⟨h.1.alloc o, by have := h.2.size; simp; omega⟩
theorem Xr.more {W w w1 : World} {out : List Row} {a a' : Option Addr} {c c' n : Nat} {x y : Int} {o : Obj} (h : Xr W w out a c) (hn : out.length = n)
    (h1 : w1.ownsRow W.heap.size 56 2 (.slice a' (n + 1) c') (n + 1) (cellsF out ++ [.int .i64 x, .int .i64 y])) (hg : (w.alloc o).grownBy w1 (a.map Addr.block)) : Xr W w1 (out ++ [(x, y)]) a' c' := by
  subst hn
  exact h.add h1 hg
theorem news_two (w : World) (x y : Value) (t : TypeId) : ∀ (j : Nat) (u : Value), [x, y][j]? = some u → (w.alloc (.cells #[x, y] t)).cell? ⟨w.heap.size, j, none⟩ = some u := by
  intro j u h
  match j, h with
  | 0, h => simp at h; subst h; simp
  | 1, h => simp at h; subst h; simp
  | j + 2, h => simp at h
theorem news_one (w : World) (x : Value) (t : TypeId) : ∀ (j : Nat) (u : Value), [x][j]? = some u → (w.alloc (.cells #[x] t)).cell? ⟨w.heap.size, j, none⟩ = some u := by
  intro j u h
  match j, h with
  | 0, h => simp at h; subst h; simp
  | j + 1, h => simp at h
theorem Xr.apt {W w : World} {out : List Row} {a : Option Addr} {c : Nat} (h : Xr W w out a c) (h6 : Wf out) {p : Option Nat} (hp : ∀ k, p = some k → k < W.heap.size) : Apt p w ⟨out, a, c⟩ := by
  have hb : Bags w a out.length out := Own.bags (base := W.heap.size) (cap := c) ⟨⟨rfl, h6⟩, h.1⟩
  refine ⟨hb, fun b off ha h0 => ?_⟩
  have ha' : a = some ⟨b, off, none⟩ := ha
  obtain ⟨k1, k2⟩ := h.1.lt b (by rw [own_block, ha']; rfl)
  exact ⟨k2, fun e => by have := hp b e.symm; omega⟩
/-- a row being read -/
def Bx (q : Nat) (x y : Nat) (w : World) : Prop := (w.cell? ⟨q, 0, none⟩ = some (.int .i64 x) ∧ w.cell? ⟨q, 1, none⟩ = some (.int .i64 y)) ∧ ∀ o, w.frozen? ⟨q, o, none⟩ = false
theorem Bx.set0 {q X Y V : Nat} {w : World} (h : Bx q X Y w) : Bx q V Y ((w.setCell ⟨q, 0, none⟩ (.int .i64 V)).drew) := by
  obtain ⟨⟨h0, h1⟩, h2⟩ := h
  refine ⟨⟨?_, ?_⟩, fun o => ?_⟩
  · exact cellEq h0
  · exact (cellNe (by omega)).trans h1
  · have := h2 o
    simpa using this
theorem Bx.set1 {q X Y V : Nat} {w : World} (h : Bx q X Y w) : Bx q X V ((w.setCell ⟨q, 1, none⟩ (.int .i64 V)).drew) := by
  obtain ⟨⟨h0, h1⟩, h2⟩ := h
  refine ⟨⟨?_, ?_⟩, fun o => ?_⟩
  · exact (cellNe (by omega)).trans h0
  · exact cellEq h1
  · have := h2 o
    simpa using this
theorem below_put {q o : Nat} {w wr : World} (h : Below q w wr) (v : Value) : Below q w ((wr.setCell ⟨q, o, none⟩ v).drew) := (h.setCell (Nat.le_refl _) v).drew
end Go.Proofs.YtnjpblmplneojaaGreatDoor.Mark
