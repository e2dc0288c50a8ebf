/- Rows of expressions that a call makes by append: what the new row holds, and what becomes of trees beside it. -/
import Derived.Test.YtjcanodnlnodpaaGreatDoorMExMem
import Derived.Test.YtjcanodnlnodpaaGreatDoorMRows2
import Derived.Deep.AppendLies
namespace Go.Proofs.YtjcanodnlnodpaaGreatDoor.Expr
open Go.RowKit Go.Proofs.YtjcanodnlnodpaaGreatDoor.Frame
set_option linter.unusedVariables false
set_option linter.unusedSimpArgs false

theorem exInfo : (Tryz.prog.info? 40).map (fun i => (i.zero, i.size, i.bytes)) = some (some (.agg #[.int .i64 0, .int .i64 0, .slice none 0 0]), 3, 40) := by kernel_rfl

/-- append onto a row of the call's own: the row that was, or a new block -/
theorem append_new {P : Program} (w : World) (base : Nat) (t ty e : TypeId) (i : TypeInfo) (z : Value) (size bytes : Nat) (ht : P.underlying t = some (.slice e)) (hi : P.info? e = some i) (hz : i.zero = some z)
    (hsize : i.size = size) (hby : i.bytes = bytes) (hzs : z.cells.size = size) (hsz : 0 < size)
    (v : Value) (n : Nat) (xs : List Value) (hown : w.ownsRow base e size v n xs)
    (a : Addr) (m c : Nat) (news : List Value) (hl : news.length = m * size) (hnews : ∀ j u, news[j]? = some u → w.cell? (a.add j) = some u) (h1 : ∀ u ∈ news, u.oneCell' = true)
    (h63 : n + m ≤ maxLen) (hbytes : (n + m) * bytes ≤ 140737488355328) (hbase : base ≤ w.heap.size) (hm : 0 < m) :
    ∃ v' w', (Builtin.append_ #[t, t] ty #[v, .slice (some a) m c]).run P w = .ok v' w' ∧ w'.ownsRow base e size v' (n + m) (xs ++ news) ∧ w.grownBy w' v.ownBlock ∧ (v'.ownBlock = v.ownBlock ∨ v'.ownBlock = some w.heap.size) := by
  obtain ⟨v', w', hr, ho, hg, _⟩ := run_append_own (P := P) w base t ty e i z size bytes ht hi hz hsize hby hzs hsz v n xs hown a m c news hl hnews h1 h63 hbytes hbase
  refine ⟨v', w', hr, ho, hg, ?_⟩
  subst hsize
  subst hby
  have hsmall : n + m ≤ 9223372036854775807 := by simp only [maxLen] at h63; omega
  rcases hown.2 with ⟨rfl, rfl⟩ | ⟨g, cap, cur, rfl, hbg, hgg, hnc, hcm, hcs, htake⟩
  · have hq := run_append_nil (P := P) w t ty e i z ht hi hz a m c news hl hnews hm (by omega) (by have hb := hbytes; simp only [Nat.zero_add] at hb; omega)
    rw [hq] at hr
    right
    cases hr; rfl
  · by_cases hroom : n + m ≤ cap
    · have hfit : n * i.size + news.length ≤ cur.size := by rw [hl, hcs, ← Nat.add_mul]; exact Nat.mul_le_mul_right _ hroom
      have hq := run_append_room (P := P) w t ty e i ht hi g n cap cur hgg a m c news hl hnews h1 hroom hfit
      rw [hq] at hr
      left
      cases hr; rfl
    · have holds : ∀ j u, xs[j]? = some u → w.cell? ((⟨g, 0, none⟩ : Addr).add j) = some u := hown.cells (g := g) rfl
      have hq := run_append_grow (P := P) w t ty e i z ht hi hz ⟨g, 0, none⟩ n cap xs hown.1 holds a m c news hl hnews (by omega) (by omega) (growslice_fits (by omega) hbytes)
      rw [hq] at hr
      right
      cases hr; rfl

/-- an expression and where its kids lie -/
structure Lx where
  t : Ex
  a : Option Addr
  c : Nat
def nilLx : Lx := ⟨nilEx, none, 0⟩
def cel (y : Lx) : List Value := [.int .i64 y.t.kind, .int .i64 y.t.num, .slice y.a y.t.kids.length y.c]
def celL (ys : List Lx) : List Value := ys.flatMap cel
theorem celL_length (ys : List Lx) : (celL ys).length = ys.length * 3 := by
  induction ys with
  | nil => rfl
  | cons y l ih => simp [celL, cel] at ih ⊢; omega
theorem celL_at (ys : List Lx) (i j : Nat) (hi : i < ys.length) (hj : j < 3) : (celL ys)[i * 3 + j]? = (cel (ys.getD i nilLx))[j]? := by
  induction ys generalizing i with
  | nil => cases hi
  | cons y l ih =>
    cases i with
    | zero =>
      simp only [celL, List.flatMap_cons, Nat.zero_mul, Nat.zero_add]
      rw [List.getElem?_append_left (by simpa [cel] using hj)]; rfl
    | succ i =>
      have := ih i (by simpa using hi)
      simp only [celL, List.flatMap_cons]
      rw [List.getElem?_append_right (by simp [cel]; omega), show (i + 1) * 3 + j - (cel y).length = i * 3 + j from by simp [cel]; omega]
      exact this
theorem celL_snoc (ys : List Lx) (y : Lx) : celL (ys ++ [y]) = celL ys ++ cel y := by simp [celL]

/-- a block that may be written into -/
def NFz (w : World) (b : Nat) : Prop := ∀ o, w.frozen? ⟨b, o, none⟩ = false
theorem NFz.below {w w' : World} {b B : Nat} (h : NFz w b) (hb : Below B w w') (hl : b < B) : NFz w' b := fun o => (hb.frozen (p := ⟨b, o, none⟩) hl).trans (h o)
theorem NFz.set {w : World} {b : Nat} (h : NFz w b) (p : Addr) (v : Value) : NFz (w.setCell p v) b := fun o => by rw [← h o]; simp
/-- rows that a call made, from B on, each from its block's beginning, that may be written into -/
def XO (B : Nat) (w : World) (t : Ex) (a : Option Addr) : Prop := XG (fun b off => B ≤ b ∧ off = 0 ∧ NFz w b) w t a
theorem XO.x {B : Nat} {w : World} {t : Ex} {a : Option Addr} (h : XO B w t a) : X w t a := XG.x h
/-- the kids that were made so far -/
def RInv (f : Ex → Ex) (w : World) (ks : List Ex) (j : Nat) (v : Value) (wr : World) : Prop :=
  ∃ ys : List Lx, ys.length = j ∧ wr.ownsRow w.heap.size 40 3 v j (celL ys) ∧ Below w.heap.size w wr ∧
    ∀ i, i < j → (ys.getD i nilLx).t = f (ks.getD i nilEx) ∧ XG (fun b off => w.heap.size ≤ b ∧ off = 0 ∧ some b ≠ v.ownBlock ∧ NFz wr b) wr (ys.getD i nilLx).t (ys.getD i nilLx).a

theorem rinv_start (f : Ex → Ex) (w : World) (ks : List Ex) : RInv f w ks 0 (.slice none 0 0) w :=
  ⟨[], rfl, World.ownsRow_nil _ _ _ _, Below.refl _ _, fun i hi => by omega⟩

theorem getD_snoc_lt {α : Type} (l : List α) (y d : α) {i : Nat} (h : i < l.length) : (l ++ [y]).getD i d = l.getD i d := by
  rw [List.getD_eq_getElem?_getD, List.getElem?_append_left h, ← List.getD_eq_getElem?_getD]
theorem getD_snoc_eq {α : Type} (l : List α) (y d : α) : (l ++ [y]).getD l.length d = y := by
  rw [List.getD_eq_getElem?_getD, List.getElem?_append_right (Nat.le_refl _)]; simp

theorem rinv_step {f : Ex → Ex} {w wr w1 : World} {ks : List Ex} {j : Nat} {v : Value} {t' : Ex} {a' : Option Addr} {c' : Nat} {o : Obj} (h : RInv f w ks j v wr) (hj : j ≤ 1000000) (ht : t' = f (ks.getD j nilEx))
    (hb : Below (wr.alloc o).heap.size (wr.alloc o) w1) (hx : XO (wr.alloc o).heap.size w1 t' a') (ty : TypeId) :
    ∃ v' w2, (Builtin.append_ #[38, 38] ty #[v, .slice (some ⟨w1.heap.size, 0, none⟩) 1 1]).run Tryz.prog (w1.alloc (.cells #[.int .i64 t'.kind, .int .i64 t'.num, .slice a' t'.kids.length c'] 40)) = .ok v' w2 ∧ RInv f w ks (j + 1) v' w2 := by
  obtain ⟨ys, hyl, hown, hbel, hall⟩ := h
  obtain ⟨i0, hi, hz0, hz1, hz2⟩ := info_parts exInfo
  have hb1 : Below wr.heap.size wr w1 := ((Below.refl _ wr).alloc (Nat.le_refl _) o).trans (hb.mono (by simp))
  have hz : wr.heap.size < w1.heap.size := by have := hb.size; simp at this; omega
  have hbw : w.heap.size ≤ wr.heap.size := hbel.size
  have hown1 : w1.ownsRow w.heap.size 40 3 v j (celL ys) := hown.kept (row := none) ⟨hb1.os, hb1.tape, hb1.output, hb1.size, fun k hk _ => hb1.block k hk⟩ (by cases hv : v.ownBlock <;> simp)
  have hown2 := hown1.alloc (.cells #[.int .i64 t'.kind, .int .i64 t'.num, .slice a' t'.kids.length c'] 40)
  obtain ⟨v', w2, hr, ho, hg, hv⟩ := append_new (P := Tryz.prog) (w1.alloc (.cells #[.int .i64 t'.kind, .int .i64 t'.num, .slice a' t'.kids.length c'] 40)) w.heap.size 38 ty 40 i0 _ 3 40 Tryz.underlying38 hi hz0 hz1 hz2 rfl (by decide)
    v j (celL ys) hown2 ⟨w1.heap.size, 0, none⟩ 1 1 (cel ⟨t', a', c'⟩) rfl (fun k u hu => by
      rw [Go.WideShapes.add_plain, Nat.zero_add, World.cell?_alloc_new]
      rw [← hu]; simp [cel])
    (fun u hu => by simp [cel] at hu; rcases hu with rfl | rfl | rfl <;> rfl)
    (by unfold maxLen; omega) (by omega) (by simp; omega) (by decide)
  refine ⟨v', w2, hr, ys ++ [⟨t', a', c'⟩], by simp [hyl], by rw [celL_snoc]; exact ho, ?_, fun i hi' => ?_⟩
  · exact ((hbel.trans (hb1.mono hbw)).alloc (by omega) _).grown hg (by simp; omega) (fun k hk => (hown1.lt k hk).1)
  · have hcar : ∀ b o v0, some b ≠ v.ownBlock → w1.cell? ⟨b, o, none⟩ = some v0 → w2.cell? ⟨b, o, none⟩ = some v0 := fun b o v0 hne hc => by
      have hlt : b < w1.heap.size := World.block_lt_of_cell? w1 _ hc
      refine hg.cell (a := ⟨b, o, none⟩) ?_ hne
      rw [World.cell?_alloc_lt _ _ _ hlt]; exact hc
    have hne' : ∀ b, b < w1.heap.size → some b ≠ v.ownBlock → some b ≠ v'.ownBlock := fun b hb' hn => by
      rcases hv with h | h
      · rw [h]; exact hn
      · rw [h]; simp; omega
    have hnf : ∀ b, b < w1.heap.size → some b ≠ v.ownBlock → NFz w1 b → NFz w2 b := fun b hb' hn h o =>
      (hg.frozen_far ⟨b, o, none⟩ (by simp; omega) hn).trans ((((Below.refl _ w1).alloc (Nat.le_refl _) _).frozen (p := ⟨b, o, none⟩) hb').trans (h o))
    rcases Nat.lt_or_ge i j with hij | hij
    · rw [getD_snoc_lt _ _ _ (by omega)]
      obtain ⟨h1, h2⟩ := hall i hij
      refine ⟨h1, ?_⟩
      have h3 := h2.lt2.below hb1
      exact (h3.carry (w' := w2) (fun b off o hok v0 hc => hcar b o v0 hok.1.2.2.1 hc)).mono fun b off hok => ⟨hok.1.1, hok.1.2.1, hne' b (by have := hok.2; omega) hok.1.2.2.1, hnf b (by have := hok.2; omega) hok.1.2.2.1 (hok.1.2.2.2.below hb1 hok.2)⟩
    · obtain rfl : i = j := by omega
      rw [show (ys ++ [(⟨t', a', c'⟩ : Lx)]).getD i nilLx = ⟨t', a', c'⟩ from by rw [← hyl]; exact getD_snoc_eq ..]
      refine ⟨ht, ?_⟩
      have h3 := XG.lt2 hx
      have hvo : ∀ b, (wr.alloc o).heap.size ≤ b → some b ≠ v.ownBlock := fun b hb' he => by
        have := (hown.lt b he.symm).2
        simp at hb'; omega
      exact (h3.carry (w' := w2) (fun b off o hok v0 hc => hcar b o v0 (hvo b hok.1.1) hc)).mono fun b off hok => ⟨by have := hok.1.1; simp at this; omega, hok.1.2.1, hne' b hok.2 (hvo b hok.1.1), hnf b hok.2 (hvo b hok.1.1) hok.1.2.2⟩

theorem rinv_done {f : Ex → Ex} {w wr : World} {ks : List Ex} {v : Value} {k n : Int} (h : RInv f w ks ks.length v wr) (hk : In64 k) (hn : In64 n) :
    ∃ a' c', v = .slice a' ks.length c' ∧ XO w.heap.size wr ⟨k, n, ks.map f⟩ a' := by
  obtain ⟨ys, hyl, hown, hbel, hall⟩ := h
  rcases hown.2 with ⟨rfl, h0⟩ | ⟨g, cap, cur, rfl, hbg, hgg, hnc, hcm, hcs, htake⟩
  · exact ⟨none, 0, by rw [h0], (xg_eq _ _ _ _ _ _).2 ⟨⟨hk, hn⟩, .inl (by simpa using h0)⟩⟩
  · refine ⟨_, _, rfl, (xg_eq _ _ _ _ _ _).2 ⟨⟨hk, hn⟩, .inr ⟨g, 0, rfl, ⟨hbg, rfl, fun o => by simp [World.frozen?, hgg]⟩, fun i hi => ?_⟩⟩⟩
    have hi' : i < ks.length := by simpa using hi
    obtain ⟨h1, h2⟩ := hall i hi'
    have e : (ks.map f).getD i nilEx = (ys.getD i nilLx).t := by
      rw [h1, List.getD_eq_getElem?_getD, List.getElem?_map, List.getD_eq_getElem?_getD, List.getElem?_eq_getElem hi']; rfl
    have hc : ∀ j, j < 3 → wr.cell? ⟨g, i * 3 + j, none⟩ = (cel (ys.getD i nilLx))[j]? := fun j hj => by
      rw [World.ownsRow.cellAt hown (i * 3 + j) (by omega), celL_at ys i j (by omega) hj]
    rw [e, Nat.zero_add]
    exact ⟨(ys.getD i nilLx).a, (ys.getD i nilLx).c, hc 0 (by omega), hc 1 (by omega), hc 2 (by omega), h2.mono fun b off hok => ⟨hok.1, hok.2.1, hok.2.2.2⟩⟩
end Go.Proofs.YtjcanodnlnodpaaGreatDoor.Expr
