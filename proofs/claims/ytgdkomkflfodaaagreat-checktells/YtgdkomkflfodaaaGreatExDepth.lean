/- Depth and Size of package expr, and of the document's own: contracts of the calls, over the turned program. -/
import Derived.Test.YtgdkomkflfodaaaGreatMaI
namespace Go.Proofs.YtgdkomkflfodaaaGreat.Expr
open Go.RowKit Go.Proofs.YtgdkomkflfodaaaGreat.Frame
set_option linter.unusedVariables false

theorem mx_step {ks : List Ex} {j : Nat} {x : Ex} (h : j < ks.length) (hx : x = ks.getD j nilEx) : mx ((ks.map depthF).take (j + 1)) = max (mx ((ks.map depthF).take j)) (depthF x) := by
  rw [take_snoc 0 (by simpa using h), mx_snoc, List.getD_eq_getElem?_getD, List.getElem?_map, List.getElem?_eq_getElem h, hx, List.getD_eq_getElem?_getD, List.getElem?_eq_getElem h]; rfl
theorem mx_all {ks : List Ex} {j : Nat} (h : ks.length ≤ j) : mx ((ks.map depthF).take j) = mx (ks.map depthF) := by rw [List.take_of_length_le (by simpa using h)]

theorem step {w wr w1 : World} {o : Obj} (h : Below w.heap.size w wr) (hb : Below (wr.alloc o).heap.size (wr.alloc o) w1) : Below w.heap.size w w1 :=
  (h.alloc h.size o).trans (hb.mono (by have := h.size; simp; omega))

theorem sm_step {ks : List Ex} {j : Nat} {x : Ex} (h : j < ks.length) (hx : x = ks.getD j nilEx) : sm ((ks.map sizeF).take (j + 1)) = sm ((ks.map sizeF).take j) + sizeF x := by
  rw [take_snoc 0 (by simpa using h), sm_snoc, List.getD_eq_getElem?_getD, List.getElem?_map, List.getElem?_eq_getElem h, hx, List.getD_eq_getElem?_getD, List.getElem?_eq_getElem h]; rfl
theorem sm_all {ks : List Ex} {j : Nat} (h : ks.length ≤ j) : sm ((ks.map sizeF).take j) = sm (ks.map sizeF) := by rw [List.take_of_length_le (by simpa using h)]