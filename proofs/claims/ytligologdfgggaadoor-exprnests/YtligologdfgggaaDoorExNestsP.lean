/- What ExprNests leans on: its three expressions, in plain Lean and in memory. -/
import Derived.Test.YtligologdfgggaaDoorExLaw
namespace Go.Proofs.YtligologdfgggaaDoor.Expr
open Go.RowKit Go.Proofs.YtligologdfgggaaDoor.Frame Go.Proofs.YtligologdfgggaaDoor.Calc
set_option linter.unusedVariables false
set_option linter.unusedSimpArgs false

def oneE (k : Int) (t : Ex) : Ex := ⟨k, 0, [t]⟩
def notE (t : Ex) : Ex := oneE 4 (oneE 4 t)
def negE (t : Ex) : Ex := oneE 3 (oneE 3 t)
def ifE (t y : Ex) : Ex := ⟨6, 0, [t, y, t]⟩
theorem one_depth (k : Int) (t : Ex) : depthF (oneE k t) = 1 + depthF t := by simp [oneE, depth_eq, mx]
theorem one_size (k : Int) (t : Ex) : sizeF (oneE k t) = 1 + sizeF t := by simp [oneE, size_eq, sm]
theorem one_parts (k vars : Int) (t : Ex) (hk : k = 3 ∨ k = 4) (h : partsB vars t = true) : partsB vars (oneE k t) = true := by
  unfold oneE
  rw [parts_eq]
  rcases hk with rfl | rfl <;> simp [nodeB, h]
theorem right_two (k vars : Int) (t : Ex) (hk : k = 3 ∨ k = 4) (h : rightB vars t = true) (h1 : depthF t ≤ 35) (h2 : sizeF t ≤ 120) : rightB vars (oneE k (oneE k t)) = true := by
  have h3 := one_parts k vars _ hk (one_parts k vars t hk (rightB_parts h))
  unfold rightB
  rw [h3, one_depth, one_depth, one_size, one_size]
  simp; omega
theorem right_if (vars : Int) (t y : Ex) (h : rightB vars t = true) (hy : rightB vars y = true) (h1 : depthF t ≤ 35) (h2 : sizeF t ≤ 120) (h3 : depthF y ≤ 35) (h4 : sizeF y ≤ 120) : rightB vars (ifE t y) = true := by
  have h5 : partsB vars (ifE t y) = true := by
    unfold ifE
    rw [parts_eq]
    simp [nodeB, rightB_parts h, rightB_parts hy]
  unfold rightB
  rw [h5]
  unfold ifE
  rw [depth_eq, size_eq]
  simp [mx, sm]; omega
theorem eval_right {zs : List Int} {n : Nat} {t : Ex} (hl : zs.length = n) (h : rightB n t = true) : evalF zs t = valF zs t := by
  unfold evalF; rw [hl, h]; rfl
theorem val_one (zs : List Int) (k : Int) (t : Ex) : valF zs (oneE k t) = nodeF zs k 0 [valF zs t] := by unfold oneE; rw [val_eq]; rfl
theorem val_if (zs : List Int) (t y : Ex) : valF zs (ifE t y) = nodeF zs 6 0 [valF zs t, valF zs y, valF zs t] := by unfold ifE; rw [val_eq]; rfl
theorem not_bad (zs : List Int) (t : Ex) (n z : Int) (h : valF zs t = (n, z)) (hz : ¬ z = 0) : valF zs (notE t) = (0, z) := by
  unfold notE; rw [val_one, val_one, h]; simp [nodeF, hz]
theorem neg_bad (zs : List Int) (t : Ex) (n z : Int) (h : valF zs t = (n, z)) (hz : ¬ z = 0) : valF zs (negE t) = (0, z) := by
  unfold negE; rw [val_one, val_one, h]; simp [nodeF, hz]
theorem if_bad (zs : List Int) (t y : Ex) (n z : Int) (h : valF zs t = (n, z)) (hz : ¬ z = 0) : valF zs (ifE t y) = (0, z) := by
  rw [val_if, h]; simp [nodeF, hz]
theorem not_ok (zs : List Int) (t : Ex) (n : Int) (h : valF zs t = (n, 0)) : valF zs (notE t) = (if n = 0 then 0 else 1, 0) := by
  unfold notE; rw [val_one, val_one, h]; simp [nodeF]
theorem neg_ok (zs : List Int) (t : Ex) (n : Int) (h : valF zs t = (n, 0)) (hn : In64 n) (hm : ¬ n = -9223372036854775808) : valF zs (negE t) = (n, 0) := by
  unfold negE
  have h1 : doF 2 0 n = (-n, 0) := by
    rw [do2]; unfold subF; rw [ovf_in (by have := hn.1; have := hn.2; omega) (by have := hn.1; omega)]; simp
  have h2 : doF 2 0 (-n) = (n, 0) := by
    rw [do2]; unfold subF; rw [ovf_in (by have := hn.1; have := hn.2; omega) (by have := hn.1; have := hn.2; omega)]; simp
  rw [val_one, val_one, h]
  simp [nodeF, h1, h2]
theorem neg_min (zs : List Int) (t : Ex) (h : valF zs t = (-9223372036854775808, 0)) : valF zs (negE t) = (0, 6) := by
  unfold negE
  have h1 : doF 2 0 (-9223372036854775808) = (0, 6) := by decide
  rw [val_one, val_one, h]
  simp [nodeF, h1]
theorem if_zero (zs : List Int) (t y : Ex) (h : valF zs t = (0, 0)) : valF zs (ifE t y) = (0, 0) := by
  rw [val_if, h]; simp [nodeF]
theorem if_other (zs : List Int) (t y : Ex) (n : Int) (h : valF zs t = (n, 0)) (hn : ¬ n = 0) : valF zs (ifE t y) = valF zs y := by
  rw [val_if, h]; simp [nodeF, hn]

abbrev exO (t : Ex) (a : Option Addr) (c : Nat) : Obj := .cells #[.int .i64 t.kind, .int .i64 t.num, .slice a t.kids.length c] 24
abbrev nodeO (k : Int) (p l : Nat) : Obj := .cells #[.int .i64 k, .int .i64 0, .slice (some ⟨p, 0, none⟩) l l] 24
abbrev ifO (t y : Ex) (a b : Option Addr) (c d : Nat) : Obj := .cells #[.int .i64 t.kind, .int .i64 t.num, .slice a t.kids.length c, .int .i64 y.kind, .int .i64 y.num, .slice b y.kids.length d, .int .i64 t.kind, .int .i64 t.num, .slice a t.kids.length c] 24
/-- two rows and a box, one in another; p: the heap's end -/
abbrev nest3 (k : Int) (w : World) (t : Ex) (a : Option Addr) (c p : Nat) : World := ((w.alloc (exO t a c)).alloc (nodeO k p 1)).alloc (nodeO k (p + 1) 1)
theorem nest3_facts (k : Int) (w : World) (t : Ex) (a : Option Addr) (c p : Nat) (hp : w.heap.size = p) (hk : In64 k) (hx : X w t a) : X (nest3 k w t a c p) (oneE k (oneE k t)) (some ⟨p + 1, 0, none⟩) ∧ Below w.heap.size w (nest3 k w t a c p) ∧ Cell3 (nest3 k w t a c p) (p + 1 + 1) (.int .i64 k) (.int .i64 0) (.slice (some ⟨p + 1, 0, none⟩) 1 1) := by
  have hb1 : Below w.heap.size w (w.alloc (exO t a c)) := al1 _ _
  have hb2 : Below (w.alloc (exO t a c)).heap.size (w.alloc (exO t a c)) ((w.alloc (exO t a c)).alloc (nodeO k p 1)) := al1 _ _
  have hb3 : Below ((w.alloc (exO t a c)).alloc (nodeO k p 1)).heap.size ((w.alloc (exO t a c)).alloc (nodeO k p 1)) (nest3 k w t a c p) := al1 _ _
  have hz : In64 0 := ⟨by decide, by decide⟩
  have hn0 := heap_alloc_new w (exO t a c)
  rw [hp] at hn0
  have h1 : X (w.alloc (exO t a c)) (oneE k t) (some ⟨p, 0, none⟩) := x_one (c1 := c) (fz := (0, 0)) (t := 24) hn0 hk hz (hx.below hb1)
  have hn := heap_alloc_new (w.alloc (exO t a c)) (nodeO k p 1)
  rw [sZ, hp] at hn
  have h2 : X ((w.alloc (exO t a c)).alloc (nodeO k p 1)) (oneE k (oneE k t)) (some ⟨p + 1, 0, none⟩) := x_one (x := oneE k t) (c1 := 1) (fz := (0, 0)) (t := 24) hn hk hz (h1.below hb2)
  refine ⟨h2.below hb3, hb1.trans ((hb2.mono (by simp)).trans (hb3.mono (by simp; omega))), ?_⟩
  have hc := cell3_new ((w.alloc (exO t a c)).alloc (nodeO k p 1)) (.int .i64 k) (.int .i64 0) (.slice (some ⟨p + 1, 0, none⟩) 1 1) 24
  rw [sZ, sZ, hp] at hc
  exact hc
theorem nest3_size (k : Int) (w : World) (t : Ex) (a : Option Addr) (c p : Nat) : (nest3 k w t a c p).heap.size = w.heap.size + 1 + 1 + 1 := by simp
abbrev nestV (w : World) (t y : Ex) (a b : Option Addr) (c d : Nat) : World := nest3 3 (nest3 4 w t a c w.heap.size) t a c (w.heap.size + 1 + 1 + 1)
abbrev nestW (w : World) (t y : Ex) (a b : Option Addr) (c d : Nat) : World := ((nestV w t y a b c d).alloc (ifO t y a b c d)).alloc (nodeO 6 (w.heap.size + 1 + 1 + 1 + 1 + 1 + 1) 3)
theorem nest_facts (w : World) (t y : Ex) (a b : Option Addr) (c d : Nat) (hx : X w t a) (hy : X w y b) :
    (X (nestW w t y a b c d) (notE t) (some ⟨w.heap.size + 1, 0, none⟩) ∧ X (nestW w t y a b c d) (negE t) (some ⟨w.heap.size + 1 + 1 + 1 + 1, 0, none⟩) ∧ X (nestW w t y a b c d) (ifE t y) (some ⟨w.heap.size + 1 + 1 + 1 + 1 + 1 + 1, 0, none⟩)) ∧ Below w.heap.size w (nestW w t y a b c d) ∧
    Bs (nestW w t y a b c d) (w.heap.size + 1 + 1 + 1 + 1 + 1) (w.heap.size + 1 + 1 + 1 + 1 + 1 + 1 + 1) (negE t) (ifE t y) (some ⟨w.heap.size + 1 + 1 + 1 + 1, 0, none⟩) (some ⟨w.heap.size + 1 + 1 + 1 + 1 + 1 + 1, 0, none⟩) 1 3 (nestW w t y a b c d) := by
  obtain ⟨n1, n2, n3⟩ := nest3_facts 4 w t a c w.heap.size rfl ⟨by decide, by decide⟩ hx
  obtain ⟨m1, m2, m3⟩ := nest3_facts 3 (nest3 4 w t a c w.heap.size) t a c (w.heap.size + 1 + 1 + 1) (nest3_size ..) ⟨by decide, by decide⟩ (hx.below n2)
  have hb1 : Below (nestV w t y a b c d).heap.size (nestV w t y a b c d) ((nestV w t y a b c d).alloc (ifO t y a b c d)) := al1 _ _
  have hb2 : Below ((nestV w t y a b c d).alloc (ifO t y a b c d)).heap.size ((nestV w t y a b c d).alloc (ifO t y a b c d)) (nestW w t y a b c d) := al1 _ _
  have hs : (nestV w t y a b c d).heap.size = w.heap.size + 1 + 1 + 1 + 1 + 1 + 1 := by simp
  have hb3 : Below (nestV w t y a b c d).heap.size (nestV w t y a b c d) (nestW w t y a b c d) := hb1.trans (hb2.mono (by simp))
  have hb4 : Below (nest3 4 w t a c w.heap.size).heap.size (nest3 4 w t a c w.heap.size) (nestW w t y a b c d) := m2.trans (hb3.mono m2.size)
  have hh := heap_alloc_new (nestV w t y a b c d) (ifO t y a b c d)
  have hc := cell3_new ((nestV w t y a b c d).alloc (ifO t y a b c d)) (.int .i64 6) (.int .i64 0) (.slice (some ⟨w.heap.size + 1 + 1 + 1 + 1 + 1 + 1, 0, none⟩) 3 3) 24
  have hs2 : ((nestV w t y a b c d).alloc (ifO t y a b c d)).heap.size = w.heap.size + 1 + 1 + 1 + 1 + 1 + 1 + 1 := by simp
  have hcm := m3.below hb3
  rw [hs2] at hc
  rw [hs] at hh
  have hi : X ((nestV w t y a b c d).alloc (ifO t y a b c d)) (ifE t y) (some ⟨w.heap.size + 1 + 1 + 1 + 1 + 1 + 1, 0, none⟩) :=
    x_if (c1 := c) (c2 := d) (c3 := c) (fz := (0, 0)) (t := 24) hh (((hx.below n2).below m2).below hb1) (((hy.below n2).below m2).below hb1) (((hx.below n2).below m2).below hb1)
  exact ⟨⟨n1.below hb4, m1.below hb3, hi.below hb2⟩, n2.trans (hb4.mono n2.size), Below.refl _ _, ⟨hcm, World.block_lt_of_cell? _ _ hcm.1⟩, hc, World.block_lt_of_cell? _ _ hc.1⟩
end Go.Proofs.YtligologdfgggaaDoor.Expr
