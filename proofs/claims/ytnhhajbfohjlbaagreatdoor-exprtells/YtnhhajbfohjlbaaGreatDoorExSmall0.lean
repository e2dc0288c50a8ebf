/- num and bin of the laws of layer 4, and how small expressions lie: contracts of the calls, over the turned program. -/
import Derived.Test.YtnhhajbfohjlbaaGreatDoorExMem
import Derived.Test.YtnhhajbfohjlbaaGreatDoorRows2
import Derived.Test.YtnhhajbfohjlbaaGreatDoorExRow
import Derived.Deep.RegionHeld3
import Derived.Deep.Cut
namespace Go.Proofs.YtnhhajbfohjlbaaGreatDoor.Expr
open Go.RowKit Go.Proofs.YtnhhajbfohjlbaaGreatDoor.Frame
set_option linter.unusedVariables false
set_option linter.unusedSimpArgs false

set_option maxHeartbeats 1000000 in
theorem num_exact (n : Int) (w : World) :
    Calls Tryz.prog 18 #[.int .i64 n] w fun e w' => e = .returned (.agg #[.int .i64 1, .int .i64 n, .slice none 0 0]) ∧ w' = w.alloc (.cells #[.int .i64 1, .int .i64 n, .slice none 0 0] 24) := by
  go_enter Tryz.func18, Tryz.ntmps18
  go_wp2
  refine bodyPost_ret (v := .agg #[.int .i64 1, .int .i64 n, .slice none 0 0]) ?_ rfl ⟨rfl, ?_⟩
  · simp [results, Tryz.results18, go_sem]
  · rfl

set_option maxHeartbeats 1000000 in
theorem bin_exact (op k1 n1 k2 n2 : Int) (a1 a2 : Option Addr) (l1 l2 c1 c2 : Nat) (w : World) :
    Calls Tryz.prog 17 #[.int .i64 op, .agg #[.int .i64 k1, .int .i64 n1, .slice a1 l1 c1], .agg #[.int .i64 k2, .int .i64 n2, .slice a2 l2 c2]] w fun e w' => e = .returned (.agg #[.int .i64 5, .int .i64 op, .slice (some ⟨w.heap.size + 1 + 1 + 1, 0, none⟩) 2 2]) ∧
      w' = (((w.alloc (.cells #[.int .i64 k1, .int .i64 n1, .slice a1 l1 c1] 24)).alloc (.cells #[.int .i64 k2, .int .i64 n2, .slice a2 l2 c2] 24)).alloc (.cells #[.int .i64 5, .int .i64 op, .slice (some ⟨w.heap.size + 1 + 1 + 1, 0, none⟩) 2 2] 24)).alloc (.cells #[.int .i64 k1, .int .i64 n1, .slice a1 l1 c1, .int .i64 k2, .int .i64 n2, .slice a2 l2 c2] 24) := by
  go_enter Tryz.func17, Tryz.ntmps17
  go_wp2
  refine bodyPost_ret (v := .agg #[.int .i64 5, .int .i64 op, .slice (some ⟨w.heap.size + 1 + 1 + 1, 0, none⟩) 2 2]) ?_ rfl ⟨rfl, ?_⟩
  · simp [results, Tryz.results17, go_sem]
  · rfl
def leafE (k n : Int) : Ex := ⟨k, n, []⟩
def binE (op : Int) (a b : Ex) : Ex := ⟨5, op, [a, b]⟩
/-- if(x == 0, 1 / x, x - 7) -/
def smE : Ex := ⟨6, 0, [binE 6 (leafE 2 0) (leafE 1 0), binE 4 (leafE 1 1) (leafE 2 0), binE 2 (leafE 2 0) (leafE 1 7)]⟩
/-- (x + (-1)) * 2 -/
def smT : Ex := binE 3 (binE 1 (leafE 2 0) (leafE 1 (-1))) (leafE 1 2)
theorem in_small (n : Int) (h : -1000 ≤ n ∧ n ≤ 1000) : In64 n := ⟨by omega, by omega⟩
theorem x_leaf (ok : Nat → Nat → Prop) (w : World) (k n : Int) (a : Option Addr) (hk : In64 k) (hn : In64 n) : XG ok w (leafE k n) a := (xg_eq _ _ _ _ _ _).2 ⟨⟨hk, hn⟩, .inl rfl⟩
/-- two kids side by side -/
theorem x_bin {ok : Nat → Nat → Prop} {w : World} {g c1 c2 : Nat} {op : Int} {x y : Ex} {a1 a2 : Option Addr} {fz : Nat × Nat} {t : TypeId} (h : w.heap[g]? = some (.cells #[.int .i64 x.kind, .int .i64 x.num, .slice a1 x.kids.length c1, .int .i64 y.kind, .int .i64 y.num, .slice a2 y.kids.length c2] t fz)) (hg : ok g 0) (ho : In64 op) (hx : XG ok w x a1) (hy : XG ok w y a2) : XG ok w (binE op x y) (some ⟨g, 0, none⟩) := by
  refine (xg_eq _ _ _ _ _ _).2 ⟨⟨⟨by decide, by decide⟩, ho⟩, .inr ⟨g, 0, rfl, hg, fun i hi => ?_⟩⟩
  have hi' : i = 0 ∨ i = 1 := by simp at hi; omega
  rcases hi' with rfl | rfl
  · exact ⟨a1, c1, box_cell h 0, box_cell h 1, box_cell h 2, hx⟩
  · exact ⟨a2, c2, box_cell h 3, box_cell h 4, box_cell h 5, hy⟩
theorem x_if {w : World} {g c1 c2 c3 : Nat} {x y z : Ex} {a1 a2 a3 : Option Addr} {fz : Nat × Nat} {t : TypeId} (h : w.heap[g]? = some (.cells #[.int .i64 x.kind, .int .i64 x.num, .slice a1 x.kids.length c1, .int .i64 y.kind, .int .i64 y.num, .slice a2 y.kids.length c2, .int .i64 z.kind, .int .i64 z.num, .slice a3 z.kids.length c3] t fz)) (hx : X w x a1) (hy : X w y a2) (hz : X w z a3) : X w ⟨6, 0, [x, y, z]⟩ (some ⟨g, 0, none⟩) := by
  refine (xg_eq _ _ _ _ _ _).2 ⟨⟨⟨by decide, by decide⟩, by decide, by decide⟩, .inr ⟨g, 0, rfl, trivial, fun i hi => ?_⟩⟩
  have hi' : i = 0 ∨ i = 1 ∨ i = 2 := by simp at hi; omega
  rcases hi' with rfl | rfl | rfl
  · exact ⟨a1, c1, box_cell h 0, box_cell h 1, box_cell h 2, hx⟩
  · exact ⟨a2, c2, box_cell h 3, box_cell h 4, box_cell h 5, hy⟩
  · exact ⟨a3, c3, box_cell h 6, box_cell h 7, box_cell h 8, hz⟩
theorem x_one {w : World} {g c1 : Nat} {k n : Int} {x : Ex} {a1 : Option Addr} {fz : Nat × Nat} {t : TypeId} (h : w.heap[g]? = some (.cells #[.int .i64 x.kind, .int .i64 x.num, .slice a1 x.kids.length c1] t fz)) (hk : In64 k) (hn : In64 n) (hx : X w x a1) : X w ⟨k, n, [x]⟩ (some ⟨g, 0, none⟩) := by
  refine (xg_eq _ _ _ _ _ _).2 ⟨⟨hk, hn⟩, .inr ⟨g, 0, rfl, trivial, fun i hi => ?_⟩⟩
  obtain rfl : i = 0 := by simp at hi; omega
  exact ⟨a1, c1, box_cell h 0, box_cell h 1, box_cell h 2, hx⟩
theorem bin_x (ok : Nat → Nat → Prop) (op : Int) (t1 t2 : Ex) (a1 a2 : Option Addr) (c1 c2 : Nat) (w : World) (hok : ∀ b, w.heap.size ≤ b → ok b 0) (ho : In64 op) (h1 : XG ok w t1 a1) (h2 : XG ok w t2 a2) :
    Calls Tryz.prog 17 #[.int .i64 op, .agg #[.int .i64 t1.kind, .int .i64 t1.num, .slice a1 t1.kids.length c1], .agg #[.int .i64 t2.kind, .int .i64 t2.num, .slice a2 t2.kids.length c2]] w fun e w' => ∃ a', e = .returned (.agg #[.int .i64 5, .int .i64 op, .slice a' 2 2]) ∧ XG ok w' (binE op t1 t2) a' ∧ Below w.heap.size w w' := by
  refine (bin_exact op _ _ _ _ a1 a2 _ _ c1 c2 w).mono ?_
  rintro e w' ⟨he, hw⟩
  have hb : Below w.heap.size w w' := by
    rw [hw]; exact ((((Below.refl _ _).alloc (Nat.le_refl _) _).alloc (by simp) _).alloc (by simp; omega) _).alloc (by simp; omega) _
  refine ⟨_, he, x_bin (g := w.heap.size + 1 + 1 + 1) (c1 := c1) (c2 := c2) (fz := (0, 0)) (t := 24) ?_ (hok _ (by omega)) ho (h1.below hb) (h2.below hb), hb⟩
  rw [hw]
  have e : w.heap.size + 1 + 1 + 1 = (((w.alloc (.cells #[.int .i64 t1.kind, .int .i64 t1.num, .slice a1 t1.kids.length c1] 24)).alloc (.cells #[.int .i64 t2.kind, .int .i64 t2.num, .slice a2 t2.kids.length c2] 24)).alloc (.cells #[.int .i64 5, .int .i64 op, .slice (some ⟨w.heap.size + 1 + 1 + 1, 0, none⟩) 2 2] 24)).heap.size := by simp
  exact (congrArg _ e).trans (heap_alloc_new _ _)
/-- the cells of an expression -/
def At (ok : Nat → Nat → Prop) (w : World) (t : Ex) (k n : Int) (a : Option Addr) (l : Nat) : Prop := (t.kind = k ∧ t.num = n ∧ t.kids.length = l) ∧ XG ok w t a
theorem at_leaf {ok : Nat → Nat → Prop} {w : World} {k n : Int} {a : Option Addr} (hk : -1000 ≤ k ∧ k ≤ 1000) (hn : -1000 ≤ n ∧ n ≤ 1000) : At ok w (leafE k n) k n a 0 := ⟨⟨rfl, rfl, rfl⟩, x_leaf ok w k n a (in_small _ hk) (in_small _ hn)⟩
theorem bin_at (ok : Nat → Nat → Prop) (op k1 n1 k2 n2 : Int) (t1 t2 : Ex) (a1 a2 : Option Addr) (l1 l2 c1 c2 : Nat) (w : World) (hok : ∀ b, w.heap.size ≤ b → ok b 0) (ho : In64 op) (h1 : At ok w t1 k1 n1 a1 l1) (h2 : At ok w t2 k2 n2 a2 l2) :
    Calls Tryz.prog 17 #[.int .i64 op, .agg #[.int .i64 k1, .int .i64 n1, .slice a1 l1 c1], .agg #[.int .i64 k2, .int .i64 n2, .slice a2 l2 c2]] w fun e w' => ∃ a', e = .returned (.agg #[.int .i64 5, .int .i64 op, .slice a' 2 2]) ∧ XG ok w' (binE op t1 t2) a' ∧ Below w.heap.size w w' := by
  obtain ⟨⟨rfl, rfl, rfl⟩, h1⟩ := h1
  obtain ⟨⟨rfl, rfl, rfl⟩, h2⟩ := h2
  exact bin_x ok op t1 t2 a1 a2 c1 c2 w hok ho h1 h2
theorem cast_drew {B : Nat} {a w : World} (h : Below B a.drew w) : Below B a w := ⟨h.os, h.tape, h.output, h.size, h.block⟩
end Go.Proofs.YtnhhajbfohjlbaaGreatDoor.Expr
