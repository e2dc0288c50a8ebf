/- The writers of package expr: contracts of the calls, over the turned program. -/
import Derived.Test.YtnhhajbfohjlbaaGreatDoorExText
import Derived.Test.YtnhhajbfohjlbaaGreatDoorShelf
namespace Go.Proofs.YtnhhajbfohjlbaaGreatDoor.Expr
open Go.RowKit Go.Proofs.YtnhhajbfohjlbaaGreatDoor.Frame Go.Proofs.YtnhhajbfohjlbaaGreatDoor.Calc
set_option linter.unusedVariables false
set_option linter.unusedSimpArgs false

theorem hp1 (w : World) (o : Obj) : (w.alloc o).heap[w.heap.size]? = some o := heap_alloc_new w o
theorem hpU {w : World} {C : Nat} {o : Obj} (h : w.heap[C]? = some o) (p : Obj) : (w.alloc p).heap[C]? = some o := by
  have hlt : C < w.heap.size := (Array.getElem?_eq_some_iff.1 h).1
  exact (Below.heap_alloc w p C hlt).trans h
theorem hpB {w w' : World} {C : Nat} {o : Obj} (h : w.heap[C]? = some o) (hb : Below w.heap.size w w') : w'.heap[C]? = some o := by
  have hlt : C < w.heap.size := (Array.getElem?_eq_some_iff.1 h).1
  exact (hb.block C hlt).trans h
theorem al1 (w : World) (o : Obj) : Below w.heap.size w (w.alloc o) := (Below.refl _ _).alloc (Nat.le_refl _) _
theorem al2 (w : World) (o p : Obj) : Below w.heap.size w ((w.alloc o).alloc p) := ((Below.refl _ _).alloc (Nat.le_refl _) _).alloc (by simp) _
theorem Keep.then {B : Nat} {u w w' : World} (h : Keep B u w) (hB : B ≤ w.heap.size) (hb : Below w.heap.size w w') : Keep B u w' := h.trans (Keep.of hB hb)

theorem appendInt_row (B : Nat) (bs : List UInt8) (v : Value) (w : World) (n : Int) (hn : In64 n) (hr : Row B bs v w) (hT : Lib.TabBelow Tryz.prog B w tabName .u64 Lib.pow10Tab) (hl : bs.length ≤ 1000000) :
    Calls Tryz.prog 70 #[v, .int .i64 n, .int .i64 10] w (TPost B (bs ++ Lib.itoa n) w) := by
  refine (Tryz.strconv_AppendInt_10 B bs.length n hn.1 hn.2 v _ w hr.1 hr.2 (by omega) hT).mono ?_
  rintro e w' ⟨v', he, ho, hb, hk⟩
  exact ⟨v', he, ⟨by rw [bytes_append, List.length_append]; exact ho, Nat.le_trans hr.2 hb.size⟩, hb, hk⟩

/-- what write tells of an expression -/
def WrAt (names : List ByteArray) (t : Ex) : Prop := ∀ (B : Nat) (w : World) (a na : Option Addr) (c nc : Nat) (bs : List UInt8) (v : Value), XG (fun b _ => b < B) w t a → Env B na names w → Row B bs v w → bs.length + (textF names t).length ≤ 1000000 →
  Calls Tryz.prog 24 #[.slice na names.length nc, v, .agg #[.int .i64 t.kind, .int .i64 t.num, .slice a t.kids.length c]] w (TPost B (bs ++ textF names t) w)
def BrAt (names : List ByteArray) (t : Ex) (b : Bool) : Prop := ∀ (B : Nat) (w : World) (a na : Option Addr) (c nc : Nat) (bs : List UInt8) (v : Value), XG (fun b _ => b < B) w t a → Env B na names w → Row B bs v w → bs.length + (br b (textF names t)).length ≤ 1000000 →
  Calls Tryz.prog 74 #[.slice na names.length nc, v, .agg #[.int .i64 t.kind, .int .i64 t.num, .slice a t.kids.length c], .bool b] w (TPost B (bs ++ br b (textF names t)) w)

set_option maxRecDepth 100000 in
set_option maxHeartbeats 2000000 in
theorem tnumber_any (B : Nat) (bs : List UInt8) (names : List ByteArray) (u v : Value) (na : Option Addr) (n : Int) (a : Option Addr) (len c : Nat) (w : World) (hn : In64 n) (hE : Env B na names w) (hr : Row B bs v w) (hl : bs.length + (textF names ⟨1, n, []⟩).length ≤ 1000000) :
    Calls Tryz.prog 46 #[u, v, .agg #[.int .i64 1, .int .i64 n, .slice a len c]] w (TPost B (bs ++ textF names ⟨1, n, []⟩) w) := by
  have R0 : Hid (Row B bs v w) := hr
  have E0 : Hid (Env B na names w) := hE
  have HN : Hid (In64 n) := hn
  clear hr hE hn
  by_cases h0 : n < 0
  · have e : textF names ⟨1, n, []⟩ = [40] ++ Lib.itoa n ++ [41] := by rw [text_eq]; simp [textN, br, h0]
    rw [e] at hl ⊢
    generalize hq : Lib.itoa n = q at hl ⊢
    have HQ : Hid (Lib.itoa n = q) := hq
    clear hq e
    have L0 : Hid ((bs).length ≤ 1000000) := by unfold Hid; simp at hl ⊢; omega
    have L1 : Hid ((bs ++ [40]).length ≤ 1000000) := by unfold Hid; simp at hl ⊢; omega
    have L2 : Hid ((bs ++ [40] ++ q).length ≤ 1000000) := by unfold Hid; simp at hl ⊢; omega
    rw [← List.append_assoc, ← List.append_assoc]
    go_enter Tryz.func46, Tryz.ntmps46
    replace L0 : Hid (bs.length ≤ 10000000) := Nat.le_trans L0.out (by decide)
    replace L2 : Hid ((bs ++ [40] ++ q).length ≤ 10000000) := Nat.le_trans L2.out (by decide)
    go_wp2_with (at_builtin; refine wp_app1 (B := B) (bs := bs) (z := 40) 40 rfl _ _ rfl rfl rfl rfl (R0.out.up (al2 _ _ _)) (by simp) L0.out ?_; intro v1 w1 hr hk; have R1 : Hid (Row B (bs ++ [40]) v1 w1) := hr; have K1 : Hid (Keep B w w1) := (Keep.of R0.out.2 (al2 _ _ _)).trans hk; have b1_0 : w1.heap[w.heap.size]? = some (.cells #[Value.int IntKind.i64 1, Value.int IntKind.i64 n, Value.slice a len c] 24) := hk.box (by first | exact hp1 _ _ | exact hpU (hp1 _ _) _ | exact hpU (hpU (hp1 _ _) _) _ | exact b0_0.out | exact hpU b0_0.out _); clear hr hk; refine Hid.out ?_)
    refine Lib.hid ?_
    have c1_0_0 : w1.cell? ⟨w.heap.size, 0, none⟩ = some (Value.int IntKind.i64 1) := (box_cell b1_0 0).trans rfl
    have c1_0_1 : w1.cell? ⟨w.heap.size, 1, none⟩ = some (Value.int IntKind.i64 n) := (box_cell b1_0 1).trans rfl
    have c1_0_2 : w1.cell? ⟨w.heap.size, 2, none⟩ = some (Value.slice a len c) := (box_cell b1_0 2).trans rfl
    replace b1_0 : Hid (_ = _) := b1_0
    have z1_0 : w.heap.size < w1.heap.size := World.block_lt_of_cell? w1 _ c1_0_0
    have CA : Hid (∀ wx, wx = w1 → Calls Tryz.prog 70 #[v1, .int .i64 n, .int .i64 10] wx (TPost B (bs ++ [40] ++ q) wx)) := fun wx hx => by rw [hx, ← HQ.out]; exact appendInt_row B _ v1 w1 n HN.out R1.out ((E0.out.on K1.out.1).2) L1.out
    go_wp2_with (go_at_call 70; refine (CA.out _ rfl).mono ?_; rintro e w2 ⟨v2, he, hr, hk⟩; subst he; have R2 : Hid (Row B (bs ++ [40] ++ q) v2 w2) := hr; have K2 : Hid (Keep B w w2) := (K1.out.then R1.out.2 (Below.refl _ _)).trans hk; have b2_0 : w2.heap[w.heap.size]? = some (.cells #[Value.int IntKind.i64 1, Value.int IntKind.i64 n, Value.slice a len c] 24) := hk.box (by first | exact hp1 _ _ | exact hpU (hp1 _ _) _ | exact hpU (hpU (hp1 _ _) _) _ | exact b1_0.out | exact hpU b1_0.out _); clear hr hk; refine Hid.out ?_)
    refine Lib.hid ?_
    clear c1_0_0 c1_0_1 c1_0_2 z1_0
    have c2_0_0 : w2.cell? ⟨w.heap.size, 0, none⟩ = some (Value.int IntKind.i64 1) := (box_cell b2_0 0).trans rfl
    have c2_0_1 : w2.cell? ⟨w.heap.size, 1, none⟩ = some (Value.int IntKind.i64 n) := (box_cell b2_0 1).trans rfl
    have c2_0_2 : w2.cell? ⟨w.heap.size, 2, none⟩ = some (Value.slice a len c) := (box_cell b2_0 2).trans rfl
    replace b2_0 : Hid (_ = _) := b2_0
    have z2_0 : w.heap.size < w2.heap.size := World.block_lt_of_cell? w2 _ c2_0_0
    go_wp2_with (at_builtin; refine wp_app1 (B := B) (bs := bs ++ [40] ++ q) (z := 41) 41 rfl _ _ rfl rfl rfl rfl (R2.out.up (al1 _ _)) (by simp) L2.out ?_; intro v3 w3 hr hk; have R3 : Hid (Row B (bs ++ [40] ++ q ++ [41]) v3 w3) := hr; have K3 : Hid (Keep B w w3) := (K2.out.then R2.out.2 (al1 _ _)).trans hk; have b3_0 : w3.heap[w.heap.size]? = some (.cells #[Value.int IntKind.i64 1, Value.int IntKind.i64 n, Value.slice a len c] 24) := hk.box (by first | exact hp1 _ _ | exact hpU (hp1 _ _) _ | exact hpU (hpU (hp1 _ _) _) _ | exact b2_0.out | exact hpU b2_0.out _); clear hr hk; refine Hid.out ?_)
    refine Lib.hid ?_
    go_wp2_with fail
    go_ret
    exact ⟨_, rfl, R3.out, K3.out⟩
  · have e : textF names ⟨1, n, []⟩ = Lib.itoa n := by rw [text_eq]; simp [textN, br, h0]
    rw [e] at hl ⊢
    generalize hq : Lib.itoa n = q at hl ⊢
    have HQ : Hid (Lib.itoa n = q) := hq
    clear hq e
    have h1 : 0 ≤ n := by omega
    have hl0 : bs.length ≤ 1000000 := by omega
    have CA : Hid (∀ wx, Below w.heap.size w wx → Calls Tryz.prog 70 #[v, .int .i64 n, .int .i64 10] wx (TPost B (bs ++ q) wx)) := fun wx hx => by rw [← HQ.out]; exact appendInt_row B _ v wx n HN.out (R0.out.up hx) ((E0.out.on (hx.mono R0.out.2)).2) hl0
    go_enter Tryz.func46, Tryz.ntmps46
    go_wp2_with (go_at_call 70; refine (CA.out _ (al1 _ _)).mono ?_; rintro e w1 ⟨v1, he, hr, hk⟩; subst he; have R1 : Hid (Row B (bs ++ q) v1 w1) := hr; have K1 : Hid (Keep B w w1) := (Keep.of R0.out.2 (al1 _ _)).trans hk; clear hr hk)
    go_ret
    exact ⟨_, rfl, R1.out, K1.out⟩

set_option maxRecDepth 100000 in
set_option maxHeartbeats 2000000 in
theorem bracketed_any (names : List ByteArray) (t : Ex) (b : Bool) (hW : WrAt names t) : BrAt names t b := by
  intro B w a na c nc bs v hX hE hr hl
  have R0 : Hid (Row B bs v w) := hr
  have CW : Hid (∀ wx bs' v', Below B w wx → Row B bs' v' wx → bs'.length + (textF names t).length ≤ 1000000 → Calls Tryz.prog 24 #[.slice na names.length nc, v', .agg #[.int .i64 t.kind, .int .i64 t.num, .slice a t.kids.length c]] wx (TPost B (bs' ++ textF names t) wx)) :=
    fun wx bs' v' hb hr' hl' => hW B wx a na c nc bs' v' (hX.belowB (fun _ _ h => h) hb) (hE.on hb) hr' hl'
  clear hr hX hE hW
  cases b with
  | false =>
    have e : br false (textF names t) = textF names t := rfl
    rw [e] at hl ⊢
    generalize textF names t = q at *
    have L0 : Hid (bs.length + q.length ≤ 1000000) := hl
    clear hl e
    generalize names.length = nl at *
    obtain ⟨k, n, ks⟩ := t
    generalize ks.length = len at *
    go_enter Tryz.func74, Tryz.ntmps74
    go_wp2_with (go_at_call 24; refine (CW.out _ _ _ ((al1 _ _).mono R0.out.2) (R0.out.up (al1 _ _)) L0.out).mono ?_; rintro e w1 ⟨v1, he, hr, hk⟩; subst he; have R1 : Hid (Row B (bs ++ q) v1 w1) := hr; have K1 : Hid (Keep B w w1) := (Keep.of R0.out.2 (al1 _ _)).trans hk; clear hr hk)
    go_ret
    exact ⟨_, rfl, R1.out, K1.out⟩
  | true =>
    have e : br true (textF names t) = [40] ++ textF names t ++ [41] := by simp [br]
    rw [e] at hl ⊢
    generalize textF names t = q at *
    clear e
    rw [← List.append_assoc, ← List.append_assoc]
    have L0 : Hid ((bs).length ≤ 1000000) := by unfold Hid; simp at hl ⊢; omega
    have L1 : Hid ((bs ++ [40]).length ≤ 1000000) := by unfold Hid; simp at hl ⊢; omega
    have L2 : Hid ((bs ++ [40] ++ q).length ≤ 1000000) := by unfold Hid; simp at hl ⊢; omega
    replace L0 : Hid (bs.length ≤ 10000000) := Nat.le_trans L0.out (by decide)
    replace L1 : Hid ((bs ++ [40]).length + q.length ≤ 1000000) := by unfold Hid; simp at hl ⊢; omega
    replace L2 : Hid ((bs ++ [40] ++ q).length ≤ 10000000) := Nat.le_trans L2.out (by decide)
    clear hl
    generalize names.length = nl at *
    obtain ⟨k, n, ks⟩ := t
    generalize ks.length = len at *
    go_enter Tryz.func74, Tryz.ntmps74
    go_wp2_with (at_builtin; refine wp_app1 (B := B) (bs := bs) (z := 40) 40 rfl _ _ rfl rfl rfl rfl (R0.out.up (al2 _ _ _)) (by simp) L0.out ?_; intro v1 w1 hr hk; have R1 : Hid (Row B (bs ++ [40]) v1 w1) := hr; have K1 : Hid (Keep B w w1) := (Keep.of R0.out.2 (al2 _ _ _)).trans hk; have b1_0 : w1.heap[w.heap.size]? = some (.cells #[Value.int IntKind.i64 k, Value.int IntKind.i64 n, Value.slice a len c] 24) := hk.box (by first | exact hp1 _ _ | exact hpU (hp1 _ _) _ | exact hpU (hpU (hp1 _ _) _) _ | exact b0_0.out | exact hpU b0_0.out _); clear hr hk; refine Hid.out ?_)
    refine Lib.hid ?_
    have c1_0_0 : w1.cell? ⟨w.heap.size, 0, none⟩ = some (Value.int IntKind.i64 k) := (box_cell b1_0 0).trans rfl
    have c1_0_1 : w1.cell? ⟨w.heap.size, 1, none⟩ = some (Value.int IntKind.i64 n) := (box_cell b1_0 1).trans rfl
    have c1_0_2 : w1.cell? ⟨w.heap.size, 2, none⟩ = some (Value.slice a len c) := (box_cell b1_0 2).trans rfl
    replace b1_0 : Hid (_ = _) := b1_0
    have z1_0 : w.heap.size < w1.heap.size := World.block_lt_of_cell? w1 _ c1_0_0
    go_wp2_with (go_at_call 24; refine (CW.out _ _ _ K1.out.1 R1.out L1.out).mono ?_; rintro e w2 ⟨v2, he, hr, hk⟩; subst he; have R2 : Hid (Row B (bs ++ [40] ++ q) v2 w2) := hr; have K2 : Hid (Keep B w w2) := (K1.out.then R1.out.2 (Below.refl _ _)).trans hk; have b2_0 : w2.heap[w.heap.size]? = some (.cells #[Value.int IntKind.i64 k, Value.int IntKind.i64 n, Value.slice a len c] 24) := hk.box (by first | exact hp1 _ _ | exact hpU (hp1 _ _) _ | exact hpU (hpU (hp1 _ _) _) _ | exact b1_0.out | exact hpU b1_0.out _); clear hr hk; refine Hid.out ?_)
    refine Lib.hid ?_
    clear c1_0_0 c1_0_1 c1_0_2 z1_0
    have c2_0_0 : w2.cell? ⟨w.heap.size, 0, none⟩ = some (Value.int IntKind.i64 k) := (box_cell b2_0 0).trans rfl
    have c2_0_1 : w2.cell? ⟨w.heap.size, 1, none⟩ = some (Value.int IntKind.i64 n) := (box_cell b2_0 1).trans rfl
    have c2_0_2 : w2.cell? ⟨w.heap.size, 2, none⟩ = some (Value.slice a len c) := (box_cell b2_0 2).trans rfl
    replace b2_0 : Hid (_ = _) := b2_0
    have z2_0 : w.heap.size < w2.heap.size := World.block_lt_of_cell? w2 _ c2_0_0
    go_wp2_with (at_builtin; refine wp_app1 (B := B) (bs := bs ++ [40] ++ q) (z := 41) 41 rfl _ _ rfl rfl rfl rfl (R2.out.up (al1 _ _)) (by simp) L2.out ?_; intro v3 w3 hr hk; have R3 : Hid (Row B (bs ++ [40] ++ q ++ [41]) v3 w3) := hr; have K3 : Hid (Keep B w w3) := (K2.out.then R2.out.2 (al1 _ _)).trans hk; have b3_0 : w3.heap[w.heap.size]? = some (.cells #[Value.int IntKind.i64 k, Value.int IntKind.i64 n, Value.slice a len c] 24) := hk.box (by first | exact hp1 _ _ | exact hpU (hp1 _ _) _ | exact hpU (hpU (hp1 _ _) _) _ | exact b2_0.out | exact hpU b2_0.out _); clear hr hk; refine Hid.out ?_)
    refine Lib.hid ?_
    go_wp2_with fail
    go_ret
    exact ⟨_, rfl, R3.out, K3.out⟩
end Go.Proofs.YtnhhajbfohjlbaaGreatDoor.Expr
