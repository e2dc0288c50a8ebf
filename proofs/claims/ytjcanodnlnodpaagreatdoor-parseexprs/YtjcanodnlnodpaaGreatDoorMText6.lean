/- Contracts and plain mathematics, together: ExText6, ExText7. -/
import Derived.Test.YtjcanodnlnodpaaGreatDoorMText5
import Derived.Laws.IdiomStrings
/- write and Text of package expr: contracts of the calls, over the turned program. -/
namespace Go.Proofs.YtjcanodnlnodpaaGreatDoor.Expr
open Go.RowKit Go.Proofs.YtjcanodnlnodpaaGreatDoor.Frame Go.Proofs.YtjcanodnlnodpaaGreatDoor.Calc
set_option linter.unusedVariables false
set_option linter.unusedSimpArgs false

def twayN (k : Int) : Nat := if k = 1 then 163 else if k = 2 then 164 else if k = 3 then 165 else if k = 4 then 166 else if k = 5 then 167 else if k = 6 then 168 else 169
theorem tway_fn {a b : Nat} (h : a = b) (v : Value) : Ending.returned (.func (.func a) #[v] #[]) = .returned (.func (.func b) #[v] #[]) := by rw [h]

set_option maxHeartbeats 1000000 in
theorem tway_any (v : Value) (k : Int) (w : World) :
    Calls Tryz.prog 118 #[v, .int .i64 k] w fun e w' => e = .returned (.func (.func (twayN k)) #[v] #[]) ∧ w' = w := by
  by_cases h1 : k = 1
  · subst h1
    go_enter Tryz.func118, Tryz.ntmps118
    go_wp2
    go_ret
    exact ⟨rfl, rfl⟩
  by_cases h2 : k = 2
  · subst h2
    go_enter Tryz.func118, Tryz.ntmps118
    go_wp2
    go_ret
    exact ⟨rfl, rfl⟩
  by_cases h3 : k = 3
  · subst h3
    go_enter Tryz.func118, Tryz.ntmps118
    go_wp2
    go_ret
    exact ⟨rfl, rfl⟩
  by_cases h4 : k = 4
  · subst h4
    go_enter Tryz.func118, Tryz.ntmps118
    go_wp2
    go_ret
    exact ⟨rfl, rfl⟩
  by_cases h5 : k = 5
  · subst h5
    go_enter Tryz.func118, Tryz.ntmps118
    go_wp2
    go_ret
    exact ⟨rfl, rfl⟩
  by_cases h6 : k = 6
  · subst h6
    go_enter Tryz.func118, Tryz.ntmps118
    go_wp2
    go_ret
    exact ⟨rfl, rfl⟩
  have N : Hid (twayN k = 169) := by simp [Hid, twayN, h1, h2, h3, h4, h5, h6]
  go_enter Tryz.func118, Tryz.ntmps118
  go_wp2
  go_ret
  exact ⟨tway_fn N.out.symm v, rfl⟩

set_option maxRecDepth 100000 in
set_option maxHeartbeats 2000000 in
theorem wr_number (k n : Int) (u v : Value) (a : Option Addr) (len c B : Nat) (bs : List UInt8) (w : World) (hB : B ≤ w.heap.size) (hk : twayN k = 163)
    (hM : ∀ wx, Below w.heap.size w wx → Calls Tryz.prog 163 #[u, v, .agg #[.int .i64 k, .int .i64 n, .slice a len c]] wx (TPost B bs wx)) :
    Calls Tryz.prog 60 #[u, v, .agg #[.int .i64 k, .int .i64 n, .slice a len c]] w (TPost B bs w) := by
  have hb : Below w.heap.size w (w.alloc (Obj.cells #[Value.int IntKind.i64 k, Value.int IntKind.i64 n, Value.slice a len c] 40)).drew := (al1 _ _).drew
  have CX : Hid (Calls Tryz.prog 163 #[u, v, .agg #[.int .i64 k, .int .i64 n, .slice a len c]] (w.alloc (Obj.cells #[Value.int IntKind.i64 k, Value.int IntKind.i64 n, Value.slice a len c] 40)).drew fun e wd => ∃ v1, e = .returned v1 ∧ Hid (Row B bs v1 wd) ∧ Hid (Keep B w wd)) := (hM _ hb).mono fun e wd h => by
    obtain ⟨v1, he, hr, hk'⟩ := h
    exact ⟨v1, he, hr, (Keep.of hB hb).trans hk'⟩
  have WY : Hid (∀ wx, Calls Tryz.prog 118 #[u, .int .i64 k] wx fun e w' => e = .returned (.func (.func 163) #[u] #[]) ∧ w' = wx) := fun wx => by rw [← hk]; exact tway_any u k wx
  have d0 : (w.alloc (Obj.cells #[Value.int IntKind.i64 k, Value.int IntKind.i64 n, Value.slice a len c] 40)).drew.cell? ⟨w.heap.size, 0, none⟩ = some (Value.int IntKind.i64 k) := (box_cell (hp1 _ _) 0).trans rfl
  have d1 : (w.alloc (Obj.cells #[Value.int IntKind.i64 k, Value.int IntKind.i64 n, Value.slice a len c] 40)).drew.cell? ⟨w.heap.size, 1, none⟩ = some (Value.int IntKind.i64 n) := (box_cell (hp1 _ _) 1).trans rfl
  have d2 : (w.alloc (Obj.cells #[Value.int IntKind.i64 k, Value.int IntKind.i64 n, Value.slice a len c] 40)).drew.cell? ⟨w.heap.size, 2, none⟩ = some (Value.slice a len c) := (box_cell (hp1 _ _) 2).trans rfl
  clear hM hk hb
  go_enter Tryz.func60, Tryz.ntmps60
  go_upto_region 1 with (fail)
  refine wp_region_still_tail 6 mixed (by kernel_rfl) ?_
  change wpStill _ _ (w.alloc (Obj.cells #[Value.int IntKind.i64 k, Value.int IntKind.i64 n, Value.slice a len c] 40)).drew (fun a' => wpList _ _ _ _ a' (w.alloc (Obj.cells #[Value.int IntKind.i64 k, Value.int IntKind.i64 n, Value.slice a len c] 40)).drew) _ _
  simp only [List.take_succ_cons, List.take_zero, List.drop_succ_cons, List.drop_zero]
  generalize (w.alloc (Obj.cells #[Value.int IntKind.i64 k, Value.int IntKind.i64 n, Value.slice a len c] 40)).drew = W at d0 d1 d2 CX ⊢
  repeat still_step
  still_call (WY.out _)
  repeat still_step
  refine wpStill_nil ?_
  go_wp2_with (go_at_call 163; refine CX.out.mono ?_; rintro e wd ⟨v1, he, R2, K2⟩; subst he)
  go_ret
  exact ⟨_, rfl, R2.out, K2.out⟩

set_option maxRecDepth 100000 in
set_option maxHeartbeats 2000000 in
theorem wr_variable (k n : Int) (u v : Value) (a : Option Addr) (len c B : Nat) (bs : List UInt8) (w : World) (hB : B ≤ w.heap.size) (hk : twayN k = 164)
    (hM : ∀ wx, Below w.heap.size w wx → Calls Tryz.prog 164 #[u, v, .agg #[.int .i64 k, .int .i64 n, .slice a len c]] wx (TPost B bs wx)) :
    Calls Tryz.prog 60 #[u, v, .agg #[.int .i64 k, .int .i64 n, .slice a len c]] w (TPost B bs w) := by
  have hb : Below w.heap.size w (w.alloc (Obj.cells #[Value.int IntKind.i64 k, Value.int IntKind.i64 n, Value.slice a len c] 40)).drew := (al1 _ _).drew
  have CX : Hid (Calls Tryz.prog 164 #[u, v, .agg #[.int .i64 k, .int .i64 n, .slice a len c]] (w.alloc (Obj.cells #[Value.int IntKind.i64 k, Value.int IntKind.i64 n, Value.slice a len c] 40)).drew fun e wd => ∃ v1, e = .returned v1 ∧ Hid (Row B bs v1 wd) ∧ Hid (Keep B w wd)) := (hM _ hb).mono fun e wd h => by
    obtain ⟨v1, he, hr, hk'⟩ := h
    exact ⟨v1, he, hr, (Keep.of hB hb).trans hk'⟩
  have WY : Hid (∀ wx, Calls Tryz.prog 118 #[u, .int .i64 k] wx fun e w' => e = .returned (.func (.func 164) #[u] #[]) ∧ w' = wx) := fun wx => by rw [← hk]; exact tway_any u k wx
  have d0 : (w.alloc (Obj.cells #[Value.int IntKind.i64 k, Value.int IntKind.i64 n, Value.slice a len c] 40)).drew.cell? ⟨w.heap.size, 0, none⟩ = some (Value.int IntKind.i64 k) := (box_cell (hp1 _ _) 0).trans rfl
  have d1 : (w.alloc (Obj.cells #[Value.int IntKind.i64 k, Value.int IntKind.i64 n, Value.slice a len c] 40)).drew.cell? ⟨w.heap.size, 1, none⟩ = some (Value.int IntKind.i64 n) := (box_cell (hp1 _ _) 1).trans rfl
  have d2 : (w.alloc (Obj.cells #[Value.int IntKind.i64 k, Value.int IntKind.i64 n, Value.slice a len c] 40)).drew.cell? ⟨w.heap.size, 2, none⟩ = some (Value.slice a len c) := (box_cell (hp1 _ _) 2).trans rfl
  clear hM hk hb
  go_enter Tryz.func60, Tryz.ntmps60
  go_upto_region 1 with (fail)
  refine wp_region_still_tail 6 mixed (by kernel_rfl) ?_
  change wpStill _ _ (w.alloc (Obj.cells #[Value.int IntKind.i64 k, Value.int IntKind.i64 n, Value.slice a len c] 40)).drew (fun a' => wpList _ _ _ _ a' (w.alloc (Obj.cells #[Value.int IntKind.i64 k, Value.int IntKind.i64 n, Value.slice a len c] 40)).drew) _ _
  simp only [List.take_succ_cons, List.take_zero, List.drop_succ_cons, List.drop_zero]
  generalize (w.alloc (Obj.cells #[Value.int IntKind.i64 k, Value.int IntKind.i64 n, Value.slice a len c] 40)).drew = W at d0 d1 d2 CX ⊢
  repeat still_step
  still_call (WY.out _)
  repeat still_step
  refine wpStill_nil ?_
  go_wp2_with (go_at_call 164; refine CX.out.mono ?_; rintro e wd ⟨v1, he, R2, K2⟩; subst he)
  go_ret
  exact ⟨_, rfl, R2.out, K2.out⟩

set_option maxRecDepth 100000 in
set_option maxHeartbeats 2000000 in
theorem wr_negated (k n : Int) (u v : Value) (a : Option Addr) (len c B : Nat) (bs : List UInt8) (w : World) (hB : B ≤ w.heap.size) (hk : twayN k = 165)
    (hM : ∀ wx, Below w.heap.size w wx → Calls Tryz.prog 165 #[u, v, .agg #[.int .i64 k, .int .i64 n, .slice a len c]] wx (TPost B bs wx)) :
    Calls Tryz.prog 60 #[u, v, .agg #[.int .i64 k, .int .i64 n, .slice a len c]] w (TPost B bs w) := by
  have hb : Below w.heap.size w (w.alloc (Obj.cells #[Value.int IntKind.i64 k, Value.int IntKind.i64 n, Value.slice a len c] 40)).drew := (al1 _ _).drew
  have CX : Hid (Calls Tryz.prog 165 #[u, v, .agg #[.int .i64 k, .int .i64 n, .slice a len c]] (w.alloc (Obj.cells #[Value.int IntKind.i64 k, Value.int IntKind.i64 n, Value.slice a len c] 40)).drew fun e wd => ∃ v1, e = .returned v1 ∧ Hid (Row B bs v1 wd) ∧ Hid (Keep B w wd)) := (hM _ hb).mono fun e wd h => by
    obtain ⟨v1, he, hr, hk'⟩ := h
    exact ⟨v1, he, hr, (Keep.of hB hb).trans hk'⟩
  have WY : Hid (∀ wx, Calls Tryz.prog 118 #[u, .int .i64 k] wx fun e w' => e = .returned (.func (.func 165) #[u] #[]) ∧ w' = wx) := fun wx => by rw [← hk]; exact tway_any u k wx
  have d0 : (w.alloc (Obj.cells #[Value.int IntKind.i64 k, Value.int IntKind.i64 n, Value.slice a len c] 40)).drew.cell? ⟨w.heap.size, 0, none⟩ = some (Value.int IntKind.i64 k) := (box_cell (hp1 _ _) 0).trans rfl
  have d1 : (w.alloc (Obj.cells #[Value.int IntKind.i64 k, Value.int IntKind.i64 n, Value.slice a len c] 40)).drew.cell? ⟨w.heap.size, 1, none⟩ = some (Value.int IntKind.i64 n) := (box_cell (hp1 _ _) 1).trans rfl
  have d2 : (w.alloc (Obj.cells #[Value.int IntKind.i64 k, Value.int IntKind.i64 n, Value.slice a len c] 40)).drew.cell? ⟨w.heap.size, 2, none⟩ = some (Value.slice a len c) := (box_cell (hp1 _ _) 2).trans rfl
  clear hM hk hb
  go_enter Tryz.func60, Tryz.ntmps60
  go_upto_region 1 with (fail)
  refine wp_region_still_tail 6 mixed (by kernel_rfl) ?_
  change wpStill _ _ (w.alloc (Obj.cells #[Value.int IntKind.i64 k, Value.int IntKind.i64 n, Value.slice a len c] 40)).drew (fun a' => wpList _ _ _ _ a' (w.alloc (Obj.cells #[Value.int IntKind.i64 k, Value.int IntKind.i64 n, Value.slice a len c] 40)).drew) _ _
  simp only [List.take_succ_cons, List.take_zero, List.drop_succ_cons, List.drop_zero]
  generalize (w.alloc (Obj.cells #[Value.int IntKind.i64 k, Value.int IntKind.i64 n, Value.slice a len c] 40)).drew = W at d0 d1 d2 CX ⊢
  repeat still_step
  still_call (WY.out _)
  repeat still_step
  refine wpStill_nil ?_
  go_wp2_with (go_at_call 165; refine CX.out.mono ?_; rintro e wd ⟨v1, he, R2, K2⟩; subst he)
  go_ret
  exact ⟨_, rfl, R2.out, K2.out⟩

set_option maxRecDepth 100000 in
set_option maxHeartbeats 2000000 in
theorem wr_turned (k n : Int) (u v : Value) (a : Option Addr) (len c B : Nat) (bs : List UInt8) (w : World) (hB : B ≤ w.heap.size) (hk : twayN k = 166)
    (hM : ∀ wx, Below w.heap.size w wx → Calls Tryz.prog 166 #[u, v, .agg #[.int .i64 k, .int .i64 n, .slice a len c]] wx (TPost B bs wx)) :
    Calls Tryz.prog 60 #[u, v, .agg #[.int .i64 k, .int .i64 n, .slice a len c]] w (TPost B bs w) := by
  have hb : Below w.heap.size w (w.alloc (Obj.cells #[Value.int IntKind.i64 k, Value.int IntKind.i64 n, Value.slice a len c] 40)).drew := (al1 _ _).drew
  have CX : Hid (Calls Tryz.prog 166 #[u, v, .agg #[.int .i64 k, .int .i64 n, .slice a len c]] (w.alloc (Obj.cells #[Value.int IntKind.i64 k, Value.int IntKind.i64 n, Value.slice a len c] 40)).drew fun e wd => ∃ v1, e = .returned v1 ∧ Hid (Row B bs v1 wd) ∧ Hid (Keep B w wd)) := (hM _ hb).mono fun e wd h => by
    obtain ⟨v1, he, hr, hk'⟩ := h
    exact ⟨v1, he, hr, (Keep.of hB hb).trans hk'⟩
  have WY : Hid (∀ wx, Calls Tryz.prog 118 #[u, .int .i64 k] wx fun e w' => e = .returned (.func (.func 166) #[u] #[]) ∧ w' = wx) := fun wx => by rw [← hk]; exact tway_any u k wx
  have d0 : (w.alloc (Obj.cells #[Value.int IntKind.i64 k, Value.int IntKind.i64 n, Value.slice a len c] 40)).drew.cell? ⟨w.heap.size, 0, none⟩ = some (Value.int IntKind.i64 k) := (box_cell (hp1 _ _) 0).trans rfl
  have d1 : (w.alloc (Obj.cells #[Value.int IntKind.i64 k, Value.int IntKind.i64 n, Value.slice a len c] 40)).drew.cell? ⟨w.heap.size, 1, none⟩ = some (Value.int IntKind.i64 n) := (box_cell (hp1 _ _) 1).trans rfl
  have d2 : (w.alloc (Obj.cells #[Value.int IntKind.i64 k, Value.int IntKind.i64 n, Value.slice a len c] 40)).drew.cell? ⟨w.heap.size, 2, none⟩ = some (Value.slice a len c) := (box_cell (hp1 _ _) 2).trans rfl
  clear hM hk hb
  go_enter Tryz.func60, Tryz.ntmps60
  go_upto_region 1 with (fail)
  refine wp_region_still_tail 6 mixed (by kernel_rfl) ?_
  change wpStill _ _ (w.alloc (Obj.cells #[Value.int IntKind.i64 k, Value.int IntKind.i64 n, Value.slice a len c] 40)).drew (fun a' => wpList _ _ _ _ a' (w.alloc (Obj.cells #[Value.int IntKind.i64 k, Value.int IntKind.i64 n, Value.slice a len c] 40)).drew) _ _
  simp only [List.take_succ_cons, List.take_zero, List.drop_succ_cons, List.drop_zero]
  generalize (w.alloc (Obj.cells #[Value.int IntKind.i64 k, Value.int IntKind.i64 n, Value.slice a len c] 40)).drew = W at d0 d1 d2 CX ⊢
  repeat still_step
  still_call (WY.out _)
  repeat still_step
  refine wpStill_nil ?_
  go_wp2_with (go_at_call 166; refine CX.out.mono ?_; rintro e wd ⟨v1, he, R2, K2⟩; subst he)
  go_ret
  exact ⟨_, rfl, R2.out, K2.out⟩

set_option maxRecDepth 100000 in
set_option maxHeartbeats 2000000 in
theorem wr_joined (k n : Int) (u v : Value) (a : Option Addr) (len c B : Nat) (bs : List UInt8) (w : World) (hB : B ≤ w.heap.size) (hk : twayN k = 167)
    (hM : ∀ wx, Below w.heap.size w wx → Calls Tryz.prog 167 #[u, v, .agg #[.int .i64 k, .int .i64 n, .slice a len c]] wx (TPost B bs wx)) :
    Calls Tryz.prog 60 #[u, v, .agg #[.int .i64 k, .int .i64 n, .slice a len c]] w (TPost B bs w) := by
  have hb : Below w.heap.size w (w.alloc (Obj.cells #[Value.int IntKind.i64 k, Value.int IntKind.i64 n, Value.slice a len c] 40)).drew := (al1 _ _).drew
  have CX : Hid (Calls Tryz.prog 167 #[u, v, .agg #[.int .i64 k, .int .i64 n, .slice a len c]] (w.alloc (Obj.cells #[Value.int IntKind.i64 k, Value.int IntKind.i64 n, Value.slice a len c] 40)).drew fun e wd => ∃ v1, e = .returned v1 ∧ Hid (Row B bs v1 wd) ∧ Hid (Keep B w wd)) := (hM _ hb).mono fun e wd h => by
    obtain ⟨v1, he, hr, hk'⟩ := h
    exact ⟨v1, he, hr, (Keep.of hB hb).trans hk'⟩
  have WY : Hid (∀ wx, Calls Tryz.prog 118 #[u, .int .i64 k] wx fun e w' => e = .returned (.func (.func 167) #[u] #[]) ∧ w' = wx) := fun wx => by rw [← hk]; exact tway_any u k wx
  have d0 : (w.alloc (Obj.cells #[Value.int IntKind.i64 k, Value.int IntKind.i64 n, Value.slice a len c] 40)).drew.cell? ⟨w.heap.size, 0, none⟩ = some (Value.int IntKind.i64 k) := (box_cell (hp1 _ _) 0).trans rfl
  have d1 : (w.alloc (Obj.cells #[Value.int IntKind.i64 k, Value.int IntKind.i64 n, Value.slice a len c] 40)).drew.cell? ⟨w.heap.size, 1, none⟩ = some (Value.int IntKind.i64 n) := (box_cell (hp1 _ _) 1).trans rfl
  have d2 : (w.alloc (Obj.cells #[Value.int IntKind.i64 k, Value.int IntKind.i64 n, Value.slice a len c] 40)).drew.cell? ⟨w.heap.size, 2, none⟩ = some (Value.slice a len c) := (box_cell (hp1 _ _) 2).trans rfl
  clear hM hk hb
  go_enter Tryz.func60, Tryz.ntmps60
  go_upto_region 1 with (fail)
  refine wp_region_still_tail 6 mixed (by kernel_rfl) ?_
  change wpStill _ _ (w.alloc (Obj.cells #[Value.int IntKind.i64 k, Value.int IntKind.i64 n, Value.slice a len c] 40)).drew (fun a' => wpList _ _ _ _ a' (w.alloc (Obj.cells #[Value.int IntKind.i64 k, Value.int IntKind.i64 n, Value.slice a len c] 40)).drew) _ _
  simp only [List.take_succ_cons, List.take_zero, List.drop_succ_cons, List.drop_zero]
  generalize (w.alloc (Obj.cells #[Value.int IntKind.i64 k, Value.int IntKind.i64 n, Value.slice a len c] 40)).drew = W at d0 d1 d2 CX ⊢
  repeat still_step
  still_call (WY.out _)
  repeat still_step
  refine wpStill_nil ?_
  go_wp2_with (go_at_call 167; refine CX.out.mono ?_; rintro e wd ⟨v1, he, R2, K2⟩; subst he)
  go_ret
  exact ⟨_, rfl, R2.out, K2.out⟩

set_option maxRecDepth 100000 in
set_option maxHeartbeats 2000000 in
theorem wr_chosen (k n : Int) (u v : Value) (a : Option Addr) (len c B : Nat) (bs : List UInt8) (w : World) (hB : B ≤ w.heap.size) (hk : twayN k = 168)
    (hM : ∀ wx, Below w.heap.size w wx → Calls Tryz.prog 168 #[u, v, .agg #[.int .i64 k, .int .i64 n, .slice a len c]] wx (TPost B bs wx)) :
    Calls Tryz.prog 60 #[u, v, .agg #[.int .i64 k, .int .i64 n, .slice a len c]] w (TPost B bs w) := by
  have hb : Below w.heap.size w (w.alloc (Obj.cells #[Value.int IntKind.i64 k, Value.int IntKind.i64 n, Value.slice a len c] 40)).drew := (al1 _ _).drew
  have CX : Hid (Calls Tryz.prog 168 #[u, v, .agg #[.int .i64 k, .int .i64 n, .slice a len c]] (w.alloc (Obj.cells #[Value.int IntKind.i64 k, Value.int IntKind.i64 n, Value.slice a len c] 40)).drew fun e wd => ∃ v1, e = .returned v1 ∧ Hid (Row B bs v1 wd) ∧ Hid (Keep B w wd)) := (hM _ hb).mono fun e wd h => by
    obtain ⟨v1, he, hr, hk'⟩ := h
    exact ⟨v1, he, hr, (Keep.of hB hb).trans hk'⟩
  have WY : Hid (∀ wx, Calls Tryz.prog 118 #[u, .int .i64 k] wx fun e w' => e = .returned (.func (.func 168) #[u] #[]) ∧ w' = wx) := fun wx => by rw [← hk]; exact tway_any u k wx
  have d0 : (w.alloc (Obj.cells #[Value.int IntKind.i64 k, Value.int IntKind.i64 n, Value.slice a len c] 40)).drew.cell? ⟨w.heap.size, 0, none⟩ = some (Value.int IntKind.i64 k) := (box_cell (hp1 _ _) 0).trans rfl
  have d1 : (w.alloc (Obj.cells #[Value.int IntKind.i64 k, Value.int IntKind.i64 n, Value.slice a len c] 40)).drew.cell? ⟨w.heap.size, 1, none⟩ = some (Value.int IntKind.i64 n) := (box_cell (hp1 _ _) 1).trans rfl
  have d2 : (w.alloc (Obj.cells #[Value.int IntKind.i64 k, Value.int IntKind.i64 n, Value.slice a len c] 40)).drew.cell? ⟨w.heap.size, 2, none⟩ = some (Value.slice a len c) := (box_cell (hp1 _ _) 2).trans rfl
  clear hM hk hb
  go_enter Tryz.func60, Tryz.ntmps60
  go_upto_region 1 with (fail)
  refine wp_region_still_tail 6 mixed (by kernel_rfl) ?_
  change wpStill _ _ (w.alloc (Obj.cells #[Value.int IntKind.i64 k, Value.int IntKind.i64 n, Value.slice a len c] 40)).drew (fun a' => wpList _ _ _ _ a' (w.alloc (Obj.cells #[Value.int IntKind.i64 k, Value.int IntKind.i64 n, Value.slice a len c] 40)).drew) _ _
  simp only [List.take_succ_cons, List.take_zero, List.drop_succ_cons, List.drop_zero]
  generalize (w.alloc (Obj.cells #[Value.int IntKind.i64 k, Value.int IntKind.i64 n, Value.slice a len c] 40)).drew = W at d0 d1 d2 CX ⊢
  repeat still_step
  still_call (WY.out _)
  repeat still_step
  refine wpStill_nil ?_
  go_wp2_with (go_at_call 168; refine CX.out.mono ?_; rintro e wd ⟨v1, he, R2, K2⟩; subst he)
  go_ret
  exact ⟨_, rfl, R2.out, K2.out⟩

set_option maxRecDepth 100000 in
set_option maxHeartbeats 2000000 in
theorem wr_unknown (k n : Int) (u v : Value) (a : Option Addr) (len c B : Nat) (bs : List UInt8) (w : World) (hB : B ≤ w.heap.size) (hk : twayN k = 169)
    (hM : ∀ wx, Below w.heap.size w wx → Calls Tryz.prog 169 #[u, v, .agg #[.int .i64 k, .int .i64 n, .slice a len c]] wx (TPost B bs wx)) :
    Calls Tryz.prog 60 #[u, v, .agg #[.int .i64 k, .int .i64 n, .slice a len c]] w (TPost B bs w) := by
  have hb : Below w.heap.size w (w.alloc (Obj.cells #[Value.int IntKind.i64 k, Value.int IntKind.i64 n, Value.slice a len c] 40)).drew := (al1 _ _).drew
  have CX : Hid (Calls Tryz.prog 169 #[u, v, .agg #[.int .i64 k, .int .i64 n, .slice a len c]] (w.alloc (Obj.cells #[Value.int IntKind.i64 k, Value.int IntKind.i64 n, Value.slice a len c] 40)).drew fun e wd => ∃ v1, e = .returned v1 ∧ Hid (Row B bs v1 wd) ∧ Hid (Keep B w wd)) := (hM _ hb).mono fun e wd h => by
    obtain ⟨v1, he, hr, hk'⟩ := h
    exact ⟨v1, he, hr, (Keep.of hB hb).trans hk'⟩
  have WY : Hid (∀ wx, Calls Tryz.prog 118 #[u, .int .i64 k] wx fun e w' => e = .returned (.func (.func 169) #[u] #[]) ∧ w' = wx) := fun wx => by rw [← hk]; exact tway_any u k wx
  have d0 : (w.alloc (Obj.cells #[Value.int IntKind.i64 k, Value.int IntKind.i64 n, Value.slice a len c] 40)).drew.cell? ⟨w.heap.size, 0, none⟩ = some (Value.int IntKind.i64 k) := (box_cell (hp1 _ _) 0).trans rfl
  have d1 : (w.alloc (Obj.cells #[Value.int IntKind.i64 k, Value.int IntKind.i64 n, Value.slice a len c] 40)).drew.cell? ⟨w.heap.size, 1, none⟩ = some (Value.int IntKind.i64 n) := (box_cell (hp1 _ _) 1).trans rfl
  have d2 : (w.alloc (Obj.cells #[Value.int IntKind.i64 k, Value.int IntKind.i64 n, Value.slice a len c] 40)).drew.cell? ⟨w.heap.size, 2, none⟩ = some (Value.slice a len c) := (box_cell (hp1 _ _) 2).trans rfl
  clear hM hk hb
  go_enter Tryz.func60, Tryz.ntmps60
  go_upto_region 1 with (fail)
  refine wp_region_still_tail 6 mixed (by kernel_rfl) ?_
  change wpStill _ _ (w.alloc (Obj.cells #[Value.int IntKind.i64 k, Value.int IntKind.i64 n, Value.slice a len c] 40)).drew (fun a' => wpList _ _ _ _ a' (w.alloc (Obj.cells #[Value.int IntKind.i64 k, Value.int IntKind.i64 n, Value.slice a len c] 40)).drew) _ _
  simp only [List.take_succ_cons, List.take_zero, List.drop_succ_cons, List.drop_zero]
  generalize (w.alloc (Obj.cells #[Value.int IntKind.i64 k, Value.int IntKind.i64 n, Value.slice a len c] 40)).drew = W at d0 d1 d2 CX ⊢
  repeat still_step
  still_call (WY.out _)
  repeat still_step
  refine wpStill_nil ?_
  go_wp2_with (go_at_call 169; refine CX.out.mono ?_; rintro e wd ⟨v1, he, R2, K2⟩; subst he)
  go_ret
  exact ⟨_, rfl, R2.out, K2.out⟩

/-- an operation between its kids -/
theorem tjoined_any (names : List ByteArray) (n : Int) (ks : List Ex) (hlen : ks.length ≤ 1000000) (hW : ∀ i b, BrAt names (ks.getD i nilEx) b) (B : Nat) (w : World) (a na : Option Addr) (c nc : Nat) (bs : List UInt8) (v : Value) (hX : XG (fun b _ => b < B) w ⟨5, n, ks⟩ a) (hE : Env B na names w) (hr : Row B bs v w) (hl : bs.length + (textF names ⟨5, n, ks⟩).length ≤ 1000000) :
    Calls Tryz.prog 167 #[.slice na names.length nc, v, .agg #[.int .i64 5, .int .i64 n, .slice a ks.length c]] w (TPost B (bs ++ textF names ⟨5, n, ks⟩) w) := by
  have e : textF names ⟨5, n, ks⟩ = br (isBin (ks.getD 0 nilEx) && decide (strengthF (ks.getD 0 nilEx).num < strengthF n)) (textF names (ks.getD 0 nilEx)) ++ [32] ++ (signF n).data.toList ++ [32] ++ br (isBin (ks.getD 1 nilEx) && decide (strengthF (ks.getD 1 nilEx).num ≤ strengthF n)) (textF names (ks.getD 1 nilEx)) := by rw [text_eq, ← text_kid, ← text_kid]; rfl
  rw [e] at hl ⊢
  clear e
  obtain ⟨a0, c0, hx0, hk0⟩ := kidAt_exact B w 5 n ks a c 0 hX hlen (by omega)
  obtain ⟨a1, c1, hx1, hk1⟩ := kidAt_exact B w 5 n ks a c 1 hX hlen (by omega)
  have W0 := hW 0
  have W1 := hW 1
  generalize ks.getD 0 nilEx = x0 at *
  generalize ks.getD 1 nilEx = x1 at *
  have hl' : (bs ++ br (isBin x0 && decide (strengthF x0.num < strengthF n)) (textF names x0) ++ [32] ++ (signF n).data.toList ++ [32] ++ br (isBin x1 && decide (strengthF x1.num ≤ strengthF n)) (textF names x1)).length ≤ 1000000 := by
    simp only [List.length_append] at hl ⊢; omega
  have hs := tjoined_walk n names.length B w a na a0 a1 c nc ks.length c0 c1 x0 x1 bs (br (isBin x0 && decide (strengthF x0.num < strengthF n)) (textF names x0)) (br (isBin x1 && decide (strengthF x1.num ≤ strengthF n)) (textF names x1)) v
    (fun i => if i = 0 then #[Value.int IntKind.i64 x0.kind, Value.int IntKind.i64 x0.num, Value.slice a0 x0.kids.length c0] else #[Value.int IntKind.i64 x1.kind, Value.int IntKind.i64 x1.num, Value.slice a1 x1.kids.length c1])
    (isBin x0 && decide (strengthF x0.num < strengthF n)) (isBin x1 && decide (strengthF x1.num ≤ strengthF n)) (signF n) strengthF (fun m wx => strength_any m wx) hr.2 rfl
    (fun wx i hb hi => by
      rcases hi with rfl | rfl
      · exact hk0 wx hb
      · exact hk1 wx hb) rfl rfl hr rfl rfl
    (fun wx hb => W0 _ B wx a0 na c0 nc bs v (hx0.belowB (fun _ _ h => h) (hb.mono hr.2)) (hE.on (hb.mono hr.2)) (hr.up hb) (by simp only [List.length_append] at hl ⊢; omega))
    (fun wx vx hb hr' => W1 _ B wx a1 na c1 nc _ vx (hx1.belowB (fun _ _ h => h) hb) (hE.on hb) hr' (by simp only [List.length_append] at hl ⊢; omega)) hl'
  simpa only [List.append_assoc] using hs

theorem size_getD {k n : Int} {ks : List Ex} (h : sizeF ⟨k, n, ks⟩ ≤ 1000000) (i : Nat) : sizeF (ks.getD i nilEx) ≤ 1000000 := by
  by_cases hi : i < ks.length
  · have := size_kid (k := k) (n := n) (getD_mem hi); omega
  · rw [List.getD_eq_getElem?_getD, List.getElem?_eq_none (by omega)]
    show sizeF nilEx ≤ 1000000
    unfold nilEx
    rw [size_eq]
    simp [sm]

theorem wr_nil (names : List ByteArray) : WrAt names nilEx := by
  intro B w a na c nc bs v hX hE hr hl
  rw [text_nil] at hl ⊢
  exact wr_unknown 0 0 _ v a 0 c B _ w hr.2 rfl fun wx hb => tunknown_any B bs _ v 0 0 a 0 c wx (hr.up hb) (by simpa using hl)

/-- write, of any expression -/
theorem write_all (names : List ByteArray) : ∀ t, sizeF t ≤ 1000000 → WrAt names t := by
  refine Ex.ind fun k n ks ih hs => ?_
  have hlen : ks.length ≤ 1000000 := by have := len_size k n ks; omega
  have hW : ∀ i, WrAt names (ks.getD i nilEx) := fun i => by
    by_cases hi : i < ks.length
    · exact ih _ (getD_mem hi) (size_getD hs i)
    · rw [List.getD_eq_getElem?_getD, List.getElem?_eq_none (by omega)]; exact wr_nil names
  have hB : ∀ i b, BrAt names (ks.getD i nilEx) b := fun i b => bracketed_any names _ b (hW i)
  intro B w a na c nc bs v hX hE hr hl
  have hn : In64 n := hX.x.node.2
  show Calls Tryz.prog 60 #[.slice na names.length nc, v, .agg #[.int .i64 k, .int .i64 n, .slice a ks.length c]] w _
  have up : ∀ wx, Below w.heap.size w wx → XG (fun b _ => b < B) wx ⟨k, n, ks⟩ a ∧ Env B na names wx ∧ Row B bs v wx := fun wx hb => ⟨hX.belowB (fun _ _ h => h) (hb.mono hr.2), hE.on (hb.mono hr.2), hr.up hb⟩
  by_cases h1 : k = 1
  · subst h1
    have e : textF names ⟨1, n, ks⟩ = textF names ⟨1, n, []⟩ := by rw [text_eq, text_eq]; rfl
    rw [e] at hl ⊢
    exact wr_number 1 n _ v a _ c B _ w hr.2 rfl fun wx hb => tnumber_any B bs names _ v na n a _ c wx hn (up wx hb).2.1 (up wx hb).2.2 hl
  by_cases h2 : k = 2
  · subst h2
    have e : textF names ⟨2, n, ks⟩ = textF names ⟨2, n, []⟩ := by rw [text_eq, text_eq]; rfl
    rw [e] at hl ⊢
    exact wr_variable 2 n _ v a _ c B _ w hr.2 rfl fun wx hb => tvariable_any B bs na names v n a _ _ nc c wx rfl (up wx hb).2.1 (up wx hb).2.2 hl
  by_cases h3 : k = 3
  · subst h3
    exact wr_negated 3 n _ v a _ c B _ w hr.2 rfl fun wx hb => tnegated_any names n ks hlen (signed_any names 3 n ks hlen (hB 0)) B wx a na c nc bs v (up wx hb).1 (up wx hb).2.1 (up wx hb).2.2 hl
  by_cases h4 : k = 4
  · subst h4
    exact wr_turned 4 n _ v a _ c B _ w hr.2 rfl fun wx hb => tturned_any names n ks hlen (signed_any names 4 n ks hlen (hB 0)) B wx a na c nc bs v (up wx hb).1 (up wx hb).2.1 (up wx hb).2.2 hl
  by_cases h5 : k = 5
  · subst h5
    exact wr_joined 5 n _ v a _ c B _ w hr.2 rfl fun wx hb => tjoined_any names n ks hlen hB B wx a na c nc bs v (up wx hb).1 (up wx hb).2.1 (up wx hb).2.2 hl
  by_cases h6 : k = 6
  · subst h6
    exact wr_chosen 6 n _ v a _ c B _ w hr.2 rfl fun wx hb => tchosen_any names n ks hlen hW B wx a na c nc bs v (up wx hb).1 (up wx hb).2.1 (up wx hb).2.2 hl
  have e : textF names ⟨k, n, ks⟩ = [63] := by rw [text_eq]; simp [textN, h1, h2, h3, h4, h5, h6]
  rw [e] at hl ⊢
  exact wr_unknown k n _ v a _ c B _ w hr.2 (by simp [twayN, h1, h2, h3, h4, h5, h6]) fun wx hb => tunknown_any B bs _ v k n a _ c wx (up wx hb).2.2 (by simpa using hl)
end Go.Proofs.YtjcanodnlnodpaaGreatDoor.Expr
/- Text of package expr: a contract of the call, over the turned program. -/
namespace Go.Proofs.YtjcanodnlnodpaaGreatDoor.Expr
open Go.RowKit Go.Proofs.YtjcanodnlnodpaaGreatDoor.Frame Go.Proofs.YtjcanodnlnodpaaGreatDoor.Calc
set_option linter.unusedVariables false
set_option linter.unusedSimpArgs false

theorem row_string {B : Nat} {bs : List UInt8} {v : Value} {w : World} (h : Row B bs v w) : (convert 101 9 v).run Tryz.prog w = .ok (.string ⟨bs.toArray⟩) w := by
  rcases h.1.2 with ⟨rfl, h0⟩ | ⟨g, cap, cur, rfl, h1, h2, h3⟩
  · have e := List.eq_nil_of_length_eq_zero h0
    subst e
    rw [run_convert_bytes_string w 101 9 5 none 0 0 Tryz.underlying101 Tryz.underlying5 Tryz.underlying9]
    rfl
  · exact run_convert_bytes_back (P := Tryz.prog) w 101 9 5 ⟨g, 0, none⟩ cap bs Tryz.underlying101 Tryz.underlying5 Tryz.underlying9 (fun j hj => h.1.cells (g := g) rfl j _ (by simp [Lib.byteCells, hj]))

set_option maxRecDepth 100000 in
set_option maxHeartbeats 1000000 in
theorem text_any (names : List ByteArray) (t : Ex) (w : World) (a na : Option Addr) (c nc nl : Nat) (hnl : nl = names.length) (h : X w t a) (hE : Env w.heap.size na names w) (hs : sizeF t ≤ 1000000) (hl : (textF names t).length ≤ 1000000) :
    Calls Tryz.prog 27 #[.agg #[.int .i64 t.kind, .int .i64 t.num, .slice a t.kids.length c], .slice na nl nc] w fun e w' => e = .returned (.string ⟨(textF names t).toArray⟩) ∧ Below w.heap.size w w' := by
  have CW : Hid (∀ wx, Below w.heap.size w wx → Calls Tryz.prog 60 #[.slice na nl nc, .slice none 0 0, .agg #[.int .i64 t.kind, .int .i64 t.num, .slice a t.kids.length c]] wx (TPost w.heap.size (textF names t) wx)) := fun wx hb => by
    have := write_all names t hs w.heap.size wx a na c nc [] (.slice none 0 0) (h.lt.belowB (fun _ _ h => h) hb) (hE.on hb) ⟨World.ownsRow_nil _ _ _ _, hb.size⟩ (by simpa using hl)
    rw [hnl]
    simpa using this
  clear h hE hs hl hnl
  generalize textF names t = q at *
  go_enter Tryz.func27, Tryz.ntmps27
  go_wp2_with (go_at_call 60; refine (CW.out _ (al1 _ _)).mono ?_; rintro e w1 ⟨v1, he, hr, hk⟩; subst he; have R1 : Hid (Row w.heap.size q v1 w1) := hr; have K1 : Hid (Below w.heap.size w w1) := (al1 _ _).trans hk.1; clear hr hk; refine Hid.out ?_)
  refine Lib.hid ?_
  have hcv := row_string R1.out
  go_wp2
  go_ret
  exact ⟨rfl, K1.out⟩
end Go.Proofs.YtjcanodnlnodpaaGreatDoor.Expr
