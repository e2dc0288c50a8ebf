/- The writers of package expr: a kid behind its sign; an if. -/
import Derived.Test.YtnhhajbfohjlbaaGreatDoorExText2
namespace Go.Proofs.YtnhhajbfohjlbaaGreatDoor.Expr
open Go.RowKit Go.Proofs.YtnhhajbfohjlbaaGreatDoor.Frame Go.Proofs.YtnhhajbfohjlbaaGreatDoor.Calc
set_option linter.unusedVariables false
set_option linter.unusedSimpArgs false

theorem bl_trans {w w1 w2 : World} (h : Below w.heap.size w w1) (k : Below w1.heap.size w1 w2) : Below w.heap.size w w2 := h.trans (k.mono h.size)
theorem bl_step {w w1 : World} {o : Obj} (h : Below (w.alloc o).heap.size (w.alloc o) w1) : Below w.heap.size w w1 := bl_trans (al1 w o) h

/-- what the writer of a signed kid tells -/
def SiAt (names : List ByteArray) (k n : Int) (ks : List Ex) : Prop := ∀ (B : Nat) (w : World) (a na : Option Addr) (c nc : Nat) (bs : List UInt8) (v : Value), XG (fun b _ => b < B) w ⟨k, n, ks⟩ a → Env B na names w → Row B bs v w → bs.length + (br (isBin (ks.getD 0 nilEx)) (textF names (ks.getD 0 nilEx))).length ≤ 1000000 →
  Calls Tryz.prog 71 #[.slice na names.length nc, v, .agg #[.int .i64 k, .int .i64 n, .slice a ks.length c]] w (TPost B (bs ++ br (isBin (ks.getD 0 nilEx)) (textF names (ks.getD 0 nilEx))) w)

set_option maxRecDepth 100000 in
set_option maxHeartbeats 2000000 in
theorem signed_any (names : List ByteArray) (k n : Int) (ks : List Ex) (hlen : ks.length ≤ 1000000) (hB : ∀ b, BrAt names (ks.getD 0 nilEx) b) : SiAt names k n ks := by
  intro B w a na c nc bs v hX hE hr hl
  have R0 : Hid (Row B bs v w) := hr
  obtain ⟨ai, ci, hx, hk⟩ := kidAt_any B w k n ks a c 0 hX hlen (by omega)
  have CK : Hid (∀ wx, Below B w wx → _) := hk
  generalize ks.getD 0 nilEx = x at *
  obtain ⟨bb, hbb⟩ : ∃ bb, bb = isBin x := ⟨_, rfl⟩
  have CB : Hid (∀ wx, Below w.heap.size w wx → Calls Tryz.prog 74 #[.slice na names.length nc, v, .agg #[.int .i64 x.kind, .int .i64 x.num, .slice ai x.kids.length ci], .bool bb] wx (TPost B (bs ++ br (isBin x) (textF names x)) wx)) := fun wx hb => by
    rw [hbb]; exact hB (isBin x) B wx ai na ci nc bs v (hx.belowB (fun _ _ h => h) (hb.mono R0.out.2)) (hE.on (hb.mono R0.out.2)) (R0.out.up hb) hl
  have hq : (x.kind == 5) = bb := by rw [hbb]; unfold isBin; cases h : (x.kind == 5) <;> simp_all
  clear hr hX hE hB hl hbb hx hk
  generalize names.length = nl at *
  generalize ks.length = len at *
  generalize br (isBin x) (textF names x) = q at *
  go_enter Tryz.func71, Tryz.ntmps71
  go_wp2_with (go_at_call 72; refine (CK.out _ ((al1 _ _).mono R0.out.2)).mono ?_; rintro e w1 ⟨he, hb⟩; subst he; have K1 : Hid (Below w.heap.size w w1) := bl_step hb; clear hb; refine Hid.out ?_)
  refine Lib.hid ?_
  go_wp2_with (go_at_call 74; refine (CB.out _ (bl_trans K1.out (al1 _ _))).mono ?_; rintro e w2 ⟨v2, he, hr, hk⟩; subst he; have R2 : Hid (Row B (bs ++ q) v2 w2) := hr; have K2 : Hid (Keep B w w2) := (Keep.of R0.out.2 (bl_trans K1.out (al1 _ _))).trans hk; clear hr hk)
  go_ret
  exact ⟨_, rfl, R2.out, K2.out⟩

set_option maxRecDepth 100000 in
set_option maxHeartbeats 4000000 in
theorem tnegated_any (names : List ByteArray) (n : Int) (ks : List Ex) (hlen : ks.length ≤ 1000000) (hS : SiAt names 3 n ks) (B : Nat) (w : World) (a na : Option Addr) (c nc : Nat) (bs : List UInt8) (v : Value) (hX : XG (fun b _ => b < B) w ⟨3, n, ks⟩ a) (hE : Env B na names w) (hr : Row B bs v w) (hl : bs.length + (textF names ⟨3, n, ks⟩).length ≤ 1000000) :
    Calls Tryz.prog 48 #[.slice na names.length nc, v, .agg #[.int .i64 3, .int .i64 n, .slice a ks.length c]] w (TPost B (bs ++ textF names ⟨3, n, ks⟩) w) := by
  have R0 : Hid (Row B bs v w) := hr
  have e : textF names ⟨3, n, ks⟩ = [45] ++ br (isBin (ks.getD 0 nilEx)) (textF names (ks.getD 0 nilEx)) := by rw [text_eq, ← text_kid]; rfl
  rw [e] at hl ⊢
  have CS : Hid (∀ wx vx, Keep B w wx → Row B (bs ++ [45]) vx wx → Calls Tryz.prog 71 #[.slice na names.length nc, vx, .agg #[.int .i64 3, .int .i64 n, .slice a ks.length c]] wx (TPost B (bs ++ [45] ++ br (isBin (ks.getD 0 nilEx)) (textF names (ks.getD 0 nilEx))) wx)) := fun wx vx hk hr' =>
    hS B wx a na c nc (bs ++ [45]) vx (hX.belowB (fun _ _ h => h) hk.1) (hE.on hk.1) hr' (by simp at hl ⊢; omega)
  rw [← List.append_assoc]
  have L0 : Hid (bs.length ≤ 10000000) := by unfold Hid; omega
  clear hr hX hE hS hl e
  generalize br (isBin (ks.getD 0 nilEx)) (textF names (ks.getD 0 nilEx)) = q at *
  generalize names.length = nl at *
  generalize ks.length = len at *
  go_enter Tryz.func48, Tryz.ntmps48
  go_wp2_with fail
  go_region_held3 (fun w' => w'.cell? ⟨w.heap.size, 0, none⟩ = some (.int .i64 3) ∧ w'.cell? ⟨w.heap.size, 1, none⟩ = some (.int .i64 n) ∧ w'.cell? ⟨w.heap.size, 2, none⟩ = some (.slice a len c)) (go_keep)
    (first
      | (refine step_app1 (B := B) (bs := bs) (z := 45) 45 rfl _ _ rfl rfl rfl rfl (R0.out.up (by first | exact ((al1 _ _).drew.alloc (by simp) _) | exact (al2 _ _ _).drew | exact ((al1 _ _).drew.alloc (by simp) _).drew)) (by simp) L0.out ?_; intro v1 w1 hr hk; have R1 : Hid (Row B (bs ++ [45]) v1 w1) := hr; have K1 : Hid (Keep B w w1) := (Keep.of R0.out.2 (by first | exact ((al1 _ _).drew.alloc (by simp) _) | exact (al2 _ _ _).drew | exact ((al1 _ _).drew.alloc (by simp) _).drew)).trans hk; have b1 : w1.heap[w.heap.size]? = some (.cells #[Value.int IntKind.i64 3, Value.int IntKind.i64 n, Value.slice a len c] 24) := hk.box (by exact hpU (hp1 _ _) _); have g0 : w1.cell? ⟨w.heap.size, 0, none⟩ = some (.int .i64 3) := (box_cell b1 0).trans rfl; have g1 : w1.cell? ⟨w.heap.size, 1, none⟩ = some (.int .i64 n) := (box_cell b1 1).trans rfl; have g2 : w1.cell? ⟨w.heap.size, 2, none⟩ = some (.slice a len c) := (box_cell b1 2).trans rfl; replace b1 : Hid (_ = _) := b1; clear hr hk)
      | (go_at_call 71; refine (CS.out _ _ K1.out R1.out).mono ?_; rintro e w2 ⟨v2, he, hr, hk⟩; subst he; have R2 : Hid (Row B (bs ++ [45] ++ q) v2 w2) := hr; have K2 : Hid (Keep B w w2) := K1.out.trans hk; have b2 : w2.heap[w.heap.size]? = some (.cells #[Value.int IntKind.i64 3, Value.int IntKind.i64 n, Value.slice a len c] 24) := hk.box b1.out; have g0 : w2.cell? ⟨w.heap.size, 0, none⟩ = some (.int .i64 3) := (box_cell b2 0).trans rfl; have g1 : w2.cell? ⟨w.heap.size, 1, none⟩ = some (.int .i64 n) := (box_cell b2 1).trans rfl; have g2 : w2.cell? ⟨w.heap.size, 2, none⟩ = some (.slice a len c) := (box_cell b2 2).trans rfl; clear hr hk b2))
  all_goals
    go_wp2_with fail
    go_ret
    exact ⟨_, rfl, R2.out, K2.out⟩

set_option maxRecDepth 100000 in
set_option maxHeartbeats 4000000 in
theorem tturned_any (names : List ByteArray) (n : Int) (ks : List Ex) (hlen : ks.length ≤ 1000000) (hS : SiAt names 4 n ks) (B : Nat) (w : World) (a na : Option Addr) (c nc : Nat) (bs : List UInt8) (v : Value) (hX : XG (fun b _ => b < B) w ⟨4, n, ks⟩ a) (hE : Env B na names w) (hr : Row B bs v w) (hl : bs.length + (textF names ⟨4, n, ks⟩).length ≤ 1000000) :
    Calls Tryz.prog 49 #[.slice na names.length nc, v, .agg #[.int .i64 4, .int .i64 n, .slice a ks.length c]] w (TPost B (bs ++ textF names ⟨4, n, ks⟩) w) := by
  have R0 : Hid (Row B bs v w) := hr
  have e : textF names ⟨4, n, ks⟩ = [33] ++ br (isBin (ks.getD 0 nilEx)) (textF names (ks.getD 0 nilEx)) := by rw [text_eq, ← text_kid]; rfl
  rw [e] at hl ⊢
  have CS : Hid (∀ wx vx, Keep B w wx → Row B (bs ++ [33]) vx wx → Calls Tryz.prog 71 #[.slice na names.length nc, vx, .agg #[.int .i64 4, .int .i64 n, .slice a ks.length c]] wx (TPost B (bs ++ [33] ++ br (isBin (ks.getD 0 nilEx)) (textF names (ks.getD 0 nilEx))) wx)) := fun wx vx hk hr' =>
    hS B wx a na c nc (bs ++ [33]) vx (hX.belowB (fun _ _ h => h) hk.1) (hE.on hk.1) hr' (by simp at hl ⊢; omega)
  rw [← List.append_assoc]
  have L0 : Hid (bs.length ≤ 10000000) := by unfold Hid; omega
  clear hr hX hE hS hl e
  generalize br (isBin (ks.getD 0 nilEx)) (textF names (ks.getD 0 nilEx)) = q at *
  generalize names.length = nl at *
  generalize ks.length = len at *
  go_enter Tryz.func49, Tryz.ntmps49
  go_wp2_with fail
  go_region_held3 (fun w' => w'.cell? ⟨w.heap.size, 0, none⟩ = some (.int .i64 4) ∧ w'.cell? ⟨w.heap.size, 1, none⟩ = some (.int .i64 n) ∧ w'.cell? ⟨w.heap.size, 2, none⟩ = some (.slice a len c)) (go_keep)
    (first
      | (refine step_app1 (B := B) (bs := bs) (z := 33) 33 rfl _ _ rfl rfl rfl rfl (R0.out.up (by first | exact ((al1 _ _).drew.alloc (by simp) _) | exact (al2 _ _ _).drew | exact ((al1 _ _).drew.alloc (by simp) _).drew)) (by simp) L0.out ?_; intro v1 w1 hr hk; have R1 : Hid (Row B (bs ++ [33]) v1 w1) := hr; have K1 : Hid (Keep B w w1) := (Keep.of R0.out.2 (by first | exact ((al1 _ _).drew.alloc (by simp) _) | exact (al2 _ _ _).drew | exact ((al1 _ _).drew.alloc (by simp) _).drew)).trans hk; have b1 : w1.heap[w.heap.size]? = some (.cells #[Value.int IntKind.i64 4, Value.int IntKind.i64 n, Value.slice a len c] 24) := hk.box (by exact hpU (hp1 _ _) _); have g0 : w1.cell? ⟨w.heap.size, 0, none⟩ = some (.int .i64 4) := (box_cell b1 0).trans rfl; have g1 : w1.cell? ⟨w.heap.size, 1, none⟩ = some (.int .i64 n) := (box_cell b1 1).trans rfl; have g2 : w1.cell? ⟨w.heap.size, 2, none⟩ = some (.slice a len c) := (box_cell b1 2).trans rfl; replace b1 : Hid (_ = _) := b1; clear hr hk)
      | (go_at_call 71; refine (CS.out _ _ K1.out R1.out).mono ?_; rintro e w2 ⟨v2, he, hr, hk⟩; subst he; have R2 : Hid (Row B (bs ++ [33] ++ q) v2 w2) := hr; have K2 : Hid (Keep B w w2) := K1.out.trans hk; have b2 : w2.heap[w.heap.size]? = some (.cells #[Value.int IntKind.i64 4, Value.int IntKind.i64 n, Value.slice a len c] 24) := hk.box b1.out; have g0 : w2.cell? ⟨w.heap.size, 0, none⟩ = some (.int .i64 4) := (box_cell b2 0).trans rfl; have g1 : w2.cell? ⟨w.heap.size, 1, none⟩ = some (.int .i64 n) := (box_cell b2 1).trans rfl; have g2 : w2.cell? ⟨w.heap.size, 2, none⟩ = some (.slice a len c) := (box_cell b2 2).trans rfl; clear hr hk b2))
  all_goals
    go_wp2_with fail
    go_ret
    exact ⟨_, rfl, R2.out, K2.out⟩

end Go.Proofs.YtnhhajbfohjlbaaGreatDoor.Expr
