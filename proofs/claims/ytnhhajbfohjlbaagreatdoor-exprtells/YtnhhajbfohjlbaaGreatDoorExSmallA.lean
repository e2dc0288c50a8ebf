/- The small case of the laws of layer 4: its two expressions are built. -/
import Derived.Test.YtnhhajbfohjlbaaGreatDoorExSmall0
namespace Go.Proofs.YtnhhajbfohjlbaaGreatDoor.Expr
open Go.RowKit Go.Proofs.YtnhhajbfohjlbaaGreatDoor.Frame
set_option linter.unusedVariables false
set_option linter.unusedSimpArgs false

theorem sD (w : World) : w.drew.heap = w.heap := rfl
theorem sZ (w : World) (o : Obj) : (w.alloc o).heap.size = w.heap.size + 1 := by simp
theorem boxKept {B : Nat} {wx w' : World} (hs : B < wx.heap.size) (h : Below wx.heap.size wx w') : w'.cell? ⟨B, 0, none⟩ = wx.cell? ⟨B, 0, none⟩ ∧ w'.cell? ⟨B, 1, none⟩ = wx.cell? ⟨B, 1, none⟩ ∧ w'.cell? ⟨B, 2, none⟩ = wx.cell? ⟨B, 2, none⟩ :=
  ⟨h.cell (p := ⟨B, 0, none⟩) hs, h.cell (p := ⟨B, 1, none⟩) hs, h.cell (p := ⟨B, 2, none⟩) hs⟩
/-- three cells side by side -/
def Cell3 (w : World) (b : Nat) (u0 u1 u2 : Value) : Prop := w.cell? ⟨b, 0, none⟩ = some u0 ∧ w.cell? ⟨b, 1, none⟩ = some u1 ∧ w.cell? ⟨b, 2, none⟩ = some u2
theorem Cell3.below {w w' : World} {b : Nat} {u0 u1 u2 : Value} (h : Cell3 w b u0 u1 u2) (hb : Below w.heap.size w w') : Cell3 w' b u0 u1 u2 :=
  have hl : b < w.heap.size := World.block_lt_of_cell? w _ h.1
  ⟨(hb.cell (p := ⟨b, 0, none⟩) hl).trans h.1, (hb.cell (p := ⟨b, 1, none⟩) hl).trans h.2.1, (hb.cell (p := ⟨b, 2, none⟩) hl).trans h.2.2⟩
def xV (k : Nat) : Value := #[Value.int IntKind.i64 2, Value.int IntKind.i64 0, Value.slice none 0 0].getD k undef
/-- the variable's box at B, boxes that were made, and expressions none of whose rows lies there -/
def Acc (B : Nat) (w : World) (L : List (Ex × Option Addr)) (R : List (Nat × Obj)) (wx : World) : Prop :=
  Below w.heap.size w wx ∧ (B < wx.heap.size ∧ Cell3 wx B (.int .i64 2) (.int .i64 0) (.slice none 0 0)) ∧ (∀ p, p ∈ L → XG (fun b _ => ∀ r, r ∈ R → b ≠ r.1) wx p.1 p.2) ∧ ∀ p, p ∈ R → wx.heap[p.1]? = some p.2 ∧ B ≠ p.1 ∧ w.heap.size ≤ p.1
theorem Acc.start {B : Nat} {w wx : World} (hb : Below w.heap.size w wx) (h : Cell3 wx B (.int .i64 2) (.int .i64 0) (.slice none 0 0)) : Acc B w [] [] wx := ⟨hb, ⟨World.block_lt_of_cell? wx _ h.1, h⟩, fun p h => (by cases h), fun p h => (by cases h)⟩
theorem Acc.on {B : Nat} {w wx w' : World} {L : List (Ex × Option Addr)} {R : List (Nat × Obj)} (h : Acc B w L R wx) (hb : Below wx.heap.size wx w') : Acc B w L R w' := ⟨h.1.trans (hb.mono h.1.size), ⟨Nat.lt_of_lt_of_le h.2.1.1 hb.size, h.2.1.2.below hb⟩, fun p hp => (h.2.2.1 p hp).below hb, fun p hp => ⟨(hb.block _ (Array.getElem?_eq_some_iff.1 (h.2.2.2 p hp).1).1).trans (h.2.2.2 p hp).1, (h.2.2.2 p hp).2⟩⟩
theorem Acc.drew {B : Nat} {w wx : World} {L : List (Ex × Option Addr)} {R : List (Nat × Obj)} (h : Acc B w L R wx) : Acc B w L R wx.drew := h.on ((Below.refl _ _).drew)
theorem Acc.alloc {B : Nat} {w wx : World} {L : List (Ex × Option Addr)} {R : List (Nat × Obj)} (h : Acc B w L R wx) (o : Obj) : Acc B w L ((wx.heap.size, o) :: R) (wx.alloc o) := by
  have hb := (Below.refl _ wx).alloc (Nat.le_refl _) o
  have h1 := h.on hb
  refine ⟨h1.1, h1.2.1, fun p hp => ?_, fun p hp => ?_⟩
  · exact ((h.2.2.1 p hp).lt2.mono fun b _ hb r hr => by
      rcases List.mem_cons.1 hr with rfl | hr
      · exact Nat.ne_of_lt hb.2
      · exact hb.1 r hr).below hb
  · rcases List.mem_cons.1 hp with rfl | hp
    · exact ⟨heap_alloc_new _ _, Nat.ne_of_lt h.2.1.1, h.1.size⟩
    · exact h1.2.2.2 p hp
theorem Acc.one {B : Nat} {w wx : World} {L : List (Ex × Option Addr)} {p : Nat} {u0 u1 u2 : Value} {t : TypeId} (h : Acc B w L [(p, .cells #[u0, u1, u2] t)] wx) : (wx.cell? ⟨p, 0, none⟩ = some u0 ∧ wx.cell? ⟨p, 1, none⟩ = some u1 ∧ wx.cell? ⟨p, 2, none⟩ = some u2) ∧ (wx.frozen? ⟨p, 0, none⟩ = false ∧ wx.frozen? ⟨p, 1, none⟩ = false ∧ wx.frozen? ⟨p, 2, none⟩ = false) ∧ p < wx.heap.size ∧ ¬ p = wx.heap.size ∧ ¬ wx.heap.size = p ∧ ¬ p = B ∧ ¬ B = p := by
  obtain ⟨h1, h2⟩ := h.2.2.2 (p, .cells #[u0, u1, u2] t) (by simp)
  replace h1 : wx.heap[p]? = some (.cells #[u0, u1, u2] t) := h1
  replace h2 : B ≠ p := h2.1
  have hl : p < wx.heap.size := (Array.getElem?_eq_some_iff.1 h1).1
  exact ⟨⟨box_cell h1 0, box_cell h1 1, box_cell h1 2⟩, ⟨by simp [World.frozen?, h1], by simp [World.frozen?, h1], by simp [World.frozen?, h1]⟩, hl, by omega, by omega, fun e => h2 e.symm, h2⟩
theorem num_from (B : Nat) (w : World) (L : List (Ex × Option Addr)) (R : List (Nat × Obj)) (n : Int) (wx : World) (h : Acc B w L R wx) :
    Calls Tryz.prog 18 #[.int .i64 n] wx fun e w' => e = .returned (.agg #[.int .i64 1, .int .i64 n, .slice none 0 0]) ∧ Hid (Acc B w L R w') ∧ (w'.cell? ⟨B, 0, none⟩ = wx.cell? ⟨B, 0, none⟩ ∧ w'.cell? ⟨B, 1, none⟩ = wx.cell? ⟨B, 1, none⟩ ∧ w'.cell? ⟨B, 2, none⟩ = wx.cell? ⟨B, 2, none⟩) := by
  refine (num_exact n wx).mono ?_
  rintro e w' ⟨he, hw⟩
  have hb : Below wx.heap.size wx w' := by rw [hw]; exact (Below.refl _ _).alloc (Nat.le_refl _) _
  exact ⟨he, h.on hb, boxKept h.2.1.1 hb⟩
theorem bin_from (B : Nat) (w : World) (L : List (Ex × Option Addr)) (R : List (Nat × Obj)) (op k1 n1 k2 n2 : Int) (t1 t2 : Ex) (a1 a2 : Option Addr) (l1 l2 c1 c2 : Nat) (wx : World) (h : Acc B w L R wx) (ho : -1000 ≤ op ∧ op ≤ 1000) (h1 : At (fun b _ => ∀ r, r ∈ R → b ≠ r.1) wx t1 k1 n1 a1 l1) (h2 : At (fun b _ => ∀ r, r ∈ R → b ≠ r.1) wx t2 k2 n2 a2 l2) :
    Calls Tryz.prog 17 #[.int .i64 op, .agg #[.int .i64 k1, .int .i64 n1, .slice a1 l1 c1], .agg #[.int .i64 k2, .int .i64 n2, .slice a2 l2 c2]] wx fun e w' => ∃ a', e = .returned (.agg #[.int .i64 5, .int .i64 op, .slice a' 2 2]) ∧ Hid (Acc B w ((binE op t1 t2, a') :: L) R w') ∧ (w'.cell? ⟨B, 0, none⟩ = wx.cell? ⟨B, 0, none⟩ ∧ w'.cell? ⟨B, 1, none⟩ = wx.cell? ⟨B, 1, none⟩ ∧ w'.cell? ⟨B, 2, none⟩ = wx.cell? ⟨B, 2, none⟩) := by
  refine (bin_at (fun b _ => ∀ r, r ∈ R → b ≠ r.1) op k1 n1 k2 n2 t1 t2 a1 a2 l1 l2 c1 c2 wx (fun b hb r hr => ?_) (in_small _ ho) h1 h2).mono ?_
  · have : r.1 < wx.heap.size := (Array.getElem?_eq_some_iff.1 (h.2.2.2 r hr).1).1
    omega
  rintro e w' ⟨a', he, hx, hb⟩
  refine ⟨a', he, ⟨(h.on hb).1, (h.on hb).2.1, fun p hp => ?_, (h.on hb).2.2.2⟩, boxKept h.2.1.1 hb⟩
  rcases List.mem_cons.1 hp with rfl | hp
  · exact hx
  · exact (h.on hb).2.2.1 p hp
theorem Acc.head {B : Nat} {w wx : World} {L : List (Ex × Option Addr)} {R : List (Nat × Obj)} {op : Int} {t1 t2 : Ex} {a' : Option Addr} (h : Acc B w ((binE op t1 t2, a') :: L) R wx) : At (fun b _ => ∀ r, r ∈ R → b ≠ r.1) wx (binE op t1 t2) 5 op a' 2 :=
  ⟨⟨rfl, rfl, rfl⟩, h.2.2.1 (binE op t1 t2, a') (by simp)⟩

/-- an expression behind a box -/
def Sm (t : Ex) (B : Nat) (w wc : World) (p : Nat) : Prop := (B < wc.heap.size ∧ Cell3 wc B (.int .i64 2) (.int .i64 0) (.slice none 0 0)) ∧ (∃ ae, Cell3 wc p (.int .i64 t.kind) (.int .i64 t.num) (.slice ae t.kids.length t.kids.length) ∧ X wc t ae) ∧ Below w.heap.size w wc
abbrev row9 (a2 a4 a6 : Option Addr) : Obj := .cells #[.int .i64 5, .int .i64 6, .slice a2 2 2, .int .i64 5, .int .i64 4, .slice a4 2 2, .int .i64 5, .int .i64 2, .slice a6 2 2] 24
theorem sm_if {B : Nat} {w wx wc : World} {R : List (Nat × Obj)} {a2 a4 a6 : Option Addr} {g p : Nat} (h : Acc B w [(binE 2 (leafE 2 0) (leafE 1 7), a6), (binE 4 (leafE 1 1) (leafE 2 0), a4), (binE 6 (leafE 2 0) (leafE 1 0), a2)] R wc) (hr : wc.heap[g]? = some (row9 a2 a4 a6)) (hp : Cell3 wc p (.int .i64 6) (.int .i64 0) (.slice (some ⟨g, 0, none⟩) 3 3)) : Sm smE B w wc p :=
  ⟨h.2.1, ⟨_, hp, x_if (x := binE 6 (leafE 2 0) (leafE 1 0)) (y := binE 4 (leafE 1 1) (leafE 2 0)) (z := binE 2 (leafE 2 0) (leafE 1 7)) (fz := (0, 0)) (t := 24) hr (h.2.2.1 (binE 6 (leafE 2 0) (leafE 1 0), a2) (by simp)).x (h.2.2.1 (binE 4 (leafE 1 1) (leafE 2 0), a4) (by simp)).x (h.2.2.1 (binE 2 (leafE 2 0) (leafE 1 7), a6) (by simp)).x⟩, h.1⟩
theorem cell3_new (w : World) (u0 u1 u2 : Value) (t : TypeId) : Cell3 (w.alloc (.cells #[u0, u1, u2] t)) w.heap.size u0 u1 u2 := by
  have h := heap_alloc_new w (.cells #[u0, u1, u2] t)
  exact ⟨box_cell h 0, box_cell h 1, box_cell h 2⟩
theorem fin1 {B : Nat} {w wx : World} {R : List (Nat × Obj)} {a2 a4 a6 : Option Addr} (h : Acc B w [(binE 2 (leafE 2 0) (leafE 1 7), a6), (binE 4 (leafE 1 1) (leafE 2 0), a4), (binE 6 (leafE 2 0) (leafE 1 0), a2)] R wx) :
    Sm smE B w ((wx.alloc (row9 a2 a4 a6)).alloc (.cells #[.int .i64 6, .int .i64 0, .slice (some ⟨wx.heap.size, 0, none⟩) 3 3] 24)) (wx.heap.size + 1) := by
  have h1 := (h.alloc (row9 a2 a4 a6)).alloc (.cells #[.int .i64 6, .int .i64 0, .slice (some ⟨wx.heap.size, 0, none⟩) 3 3] 24)
  refine sm_if (wx := wx) h1 (h1.2.2.2 (wx.heap.size, row9 a2 a4 a6) (by simp)).1 ?_
  have h2 := cell3_new (wx.alloc (row9 a2 a4 a6)) (.int .i64 6) (.int .i64 0) (.slice (some ⟨wx.heap.size, 0, none⟩) 3 3) 24
  rw [sZ] at h2
  exact h2
theorem fin2 {B : Nat} {w wx : World} {R : List (Nat × Obj)} {a2 a4 a6 : Option Addr} (h : Acc B w [(binE 2 (leafE 2 0) (leafE 1 7), a6), (binE 4 (leafE 1 1) (leafE 2 0), a4), (binE 6 (leafE 2 0) (leafE 1 0), a2)] R wx) :
    Sm smE B w ((wx.alloc (.cells #[.int .i64 6, .int .i64 0, .slice (some ⟨wx.heap.size + 1, 0, none⟩) 3 3] 24)).alloc (row9 a2 a4 a6)) wx.heap.size := by
  have h1 := (h.alloc (.cells #[.int .i64 6, .int .i64 0, .slice (some ⟨wx.heap.size + 1, 0, none⟩) 3 3] 24)).alloc (row9 a2 a4 a6)
  rw [sZ] at h1
  refine sm_if (wx := wx) h1 (h1.2.2.2 (wx.heap.size + 1, row9 a2 a4 a6) (by simp)).1 ?_
  exact (cell3_new wx _ _ _ _).below ((Below.refl _ _).alloc (Nat.le_refl _) _)
/-- a box that was made ahead, written into -/
theorem Acc.put {B p : Nat} {w wx : World} {L : List (Ex × Option Addr)} {u0 u1 u2 : Value} {t : TypeId} (h : Acc B w L [(p, .cells #[u0, u1, u2] t)] wx) (v0 v1 v2 : Value) :
    Acc B w L [] (((wx.setCell ⟨p, 0, none⟩ v0).setCell ⟨p, 1, none⟩ v1).setCell ⟨p, 2, none⟩ v2) ∧ Cell3 (((wx.setCell ⟨p, 0, none⟩ v0).setCell ⟨p, 1, none⟩ v1).setCell ⟨p, 2, none⟩ v2) p v0 v1 v2 := by
  obtain ⟨⟨r0, r1, r2⟩, ⟨f0, f1, f2⟩, n0, n1, n2, n3, n4⟩ := h.one
  have hB : w.heap.size ≤ p := (h.2.2.2 (p, .cells #[u0, u1, u2] t) (by simp)).2.2
  have hc : ∀ b o, b ≠ p → (((wx.setCell ⟨p, 0, none⟩ v0).setCell ⟨p, 1, none⟩ v1).setCell ⟨p, 2, none⟩ v2).cell? ⟨b, o, none⟩ = wx.cell? ⟨b, o, none⟩ := fun b o hb => by
    have hne : ∀ j, (⟨p, j, none⟩ : Addr) ≠ ⟨b, o, none⟩ := fun j e => hb (congrArg Addr.block e).symm
    rw [World.cell?_setCell_other _ _ _ _ (hne 2), World.cell?_setCell_other _ _ _ _ (hne 1), World.cell?_setCell_other _ _ _ _ (hne 0)]
  refine ⟨⟨((h.1.setCell (p := ⟨p, 0, none⟩) hB _).setCell (p := ⟨p, 1, none⟩) hB _).setCell (p := ⟨p, 2, none⟩) hB _, ⟨by simpa [World.setCell] using h.2.1.1, ?_⟩, fun q hq => ?_, fun q hq => (by cases hq)⟩, ?_⟩
  · exact ⟨(hc B 0 n4).trans h.2.1.2.1, (hc B 1 n4).trans h.2.1.2.2.1, (hc B 2 n4).trans h.2.1.2.2.2⟩
  · exact ((h.2.2.1 q hq).carry fun b off o hok v hv => (hc b o (hok (p, .cells #[u0, u1, u2] t) (by simp))).trans hv).mono fun b _ _ r hr => (by cases hr)
  · have e1 : (wx.setCell ⟨p, 0, none⟩ v0).cell? ⟨p, 1, none⟩ = some u1 := (World.cell?_setCell_other _ _ _ _ (by simp)).trans r1
    have e2 : ((wx.setCell ⟨p, 0, none⟩ v0).setCell ⟨p, 1, none⟩ v1).cell? ⟨p, 2, none⟩ = some u2 := (World.cell?_setCell_other _ _ _ _ (by simp)).trans ((World.cell?_setCell_other _ _ _ _ (by simp)).trans r2)
    exact ⟨(World.cell?_setCell_other _ _ _ _ (by simp)).trans ((World.cell?_setCell_other _ _ _ _ (by simp)).trans (World.cell?_setCell_same _ _ _ r0)), (World.cell?_setCell_other _ _ _ _ (by simp)).trans (World.cell?_setCell_same _ _ _ e1), World.cell?_setCell_same _ _ _ e2⟩
theorem fin3 {B p : Nat} {w wx : World} {a2 a4 a6 : Option Addr} {u0 u1 u2 : Value} {t : TypeId} (h : Acc B w [(binE 2 (leafE 2 0) (leafE 1 7), a6), (binE 4 (leafE 1 1) (leafE 2 0), a4), (binE 6 (leafE 2 0) (leafE 1 0), a2)] [(p, .cells #[u0, u1, u2] t)] wx) :
    Sm smE B w ((((wx.setCell ⟨p, 0, none⟩ (.int .i64 6)).setCell ⟨p, 1, none⟩ (.int .i64 0)).setCell ⟨p, 2, none⟩ (.slice (some ⟨wx.heap.size, 0, none⟩) 3 3)).alloc (row9 a2 a4 a6)) p := by
  obtain ⟨h1, h2⟩ := h.put (.int .i64 6) (.int .i64 0) (.slice (some ⟨wx.heap.size, 0, none⟩) 3 3)
  have hs : (((wx.setCell ⟨p, 0, none⟩ (.int .i64 6)).setCell ⟨p, 1, none⟩ (.int .i64 0)).setCell ⟨p, 2, none⟩ (.slice (some ⟨wx.heap.size, 0, none⟩) 3 3)).heap.size = wx.heap.size := by simp [World.setCell]
  have h3 := h1.alloc (row9 a2 a4 a6)
  rw [hs] at h3
  exact sm_if (wx := wx) h3 (h3.2.2.2 (wx.heap.size, row9 a2 a4 a6) (by simp)).1 (h2.below ((Below.refl _ _).alloc (Nat.le_refl _) _))

theorem fin4 {B : Nat} {w wx : World} {L : List (Ex × Option Addr)} {R : List (Nat × Obj)} {t1 t2 : Ex} {op : Int} {a' : Option Addr} (h : Acc B w ((binE op t1 t2, a') :: L) R wx) :
    Sm (binE op t1 t2) B w (wx.alloc (.cells #[.int .i64 5, .int .i64 op, .slice a' 2 2] 24)) wx.heap.size := by
  have h1 := h.alloc (.cells #[.int .i64 5, .int .i64 op, .slice a' 2 2] 24)
  exact ⟨h1.2.1, ⟨a', cell3_new _ _ _ _ _, (h1.2.2.1 (binE op t1 t2, a') (by simp)).x⟩, h1.1⟩
theorem fin5 {B p : Nat} {w wx : World} {L : List (Ex × Option Addr)} {t1 t2 : Ex} {op : Int} {a' : Option Addr} {u0 u1 u2 : Value} {t : TypeId} (h : Acc B w ((binE op t1 t2, a') :: L) [(p, .cells #[u0, u1, u2] t)] wx) :
    Sm (binE op t1 t2) B w (((wx.setCell ⟨p, 0, none⟩ (.int .i64 5)).setCell ⟨p, 1, none⟩ (.int .i64 op)).setCell ⟨p, 2, none⟩ (.slice a' 2 2)) p := by
  obtain ⟨h1, h2⟩ := h.put (.int .i64 5) (.int .i64 op) (.slice a' 2 2)
  exact ⟨h1.2.1, ⟨a', h2, (h1.2.2.1 (binE op t1 t2, a') (by simp)).x⟩, h1.1⟩
end Go.Proofs.YtnhhajbfohjlbaaGreatDoor.Expr
