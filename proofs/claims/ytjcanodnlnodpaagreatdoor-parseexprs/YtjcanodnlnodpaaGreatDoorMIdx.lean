/- Which clause is next: contracts of the calls, over the turned program. -/
import Derived.Test.YtjcanodnlnodpaaGreatDoorMTK
namespace Go.Proofs.YtjcanodnlnodpaaGreatDoor.Parse
open Go.RowKit Go.Maps Go.Proofs.YtjcanodnlnodpaaGreatDoor.Frame Go.Proofs.YtjcanodnlnodpaaGreatDoor.Token Go.Proofs.YtjcanodnlnodpaaGreatDoor.Expr Go.Proofs.YtjcanodnlnodpaaGreatDoor.Calc
set_option linter.unusedVariables false
set_option linter.unusedSimpArgs false

def fnN : Nat → Nat
  | 0 => 218
  | 1 => 219
  | 2 => 220
  | 3 => 221
  | 4 => 222
  | 5 => 223
  | 6 => 224
  | 7 => 225
  | _ => 226
def fnV (q i : Nat) : Value := .func (.func (fnN i)) #[.pointer (some ⟨q, 0, none⟩)] #[]
/-- the row of clauses -/
def ClAt (W : World) (b q : Nat) (stood : Nat → Bool) : Prop := (∀ i, i < 9 → W.cell? ⟨b, i * 4, none⟩ = some (.string (str (wordN i))) ∧ W.cell? ⟨b, i * 4 + 1, none⟩ = some (fnV q i) ∧ W.cell? ⟨b, i * 4 + 2, none⟩ = some (.bool (onceN i)) ∧ W.cell? ⟨b, i * 4 + 3, none⟩ = some (.bool (stood i))) ∧ (∀ o, W.frozen? ⟨b, o, none⟩ = false) ∧ b < W.heap.size
theorem ClAt.keep {W W' : World} {b q : Nat} {stood : Nat → Bool} (h : ClAt W b q stood) (hb : W'.heap[b]? = W.heap[b]?) (hs : W.heap.size ≤ W'.heap.size) : ClAt W' b q stood :=
  ⟨fun i hi => ⟨(cell_of_block hb _).trans (h.1 i hi).1, (cell_of_block hb _).trans (h.1 i hi).2.1, (cell_of_block hb _).trans (h.1 i hi).2.2.1, (cell_of_block hb _).trans (h.1 i hi).2.2.2⟩, fun o => (frozen_of_block hb o).trans (h.2.1 o), Nat.lt_of_lt_of_le h.2.2 hs⟩
theorem ClAt.below {W W' : World} {b q : Nat} {stood : Nat → Bool} (h : ClAt W b q stood) (hb : Below W.heap.size W W') : ClAt W' b q stood := h.keep (hb.block b h.2.2) hb.size

set_option maxRecDepth 100000 in
set_option maxHeartbeats 4000000 in
theorem clauses_any (q : Nat) (w : World) : Calls Tryz.prog 196 #[ptr q] w fun e w' => e = .returned (.slice (some ⟨w.heap.size, 0, none⟩) 9 9) ∧ ClAt w' w.heap.size q (fun _ => false) ∧ Below w.heap.size w w' := by
  unfold ptr
  go_enter Tryz.func196, Tryz.ntmps196
  go_wp2_with fail
  go_ret
  refine ⟨rfl, ⟨fun i hi => ?_, fun o => World.frozen?_alloc_at _ _ _ _ rfl, by simp⟩, (Below.refl _ _).alloc (Nat.le_refl _) _⟩
  have : i = 0 ∨ i = 1 ∨ i = 2 ∨ i = 3 ∨ i = 4 ∨ i = 5 ∨ i = 6 ∨ i = 7 ∨ i = 8 := by omega
  rcases this with rfl | rfl | rfl | rfl | rfl | rfl | rfl | rfl | rfl <;> refine ⟨?_, ?_, ?_, ?_⟩ <;> (rw [World.cell?_alloc_at _ _ _ _ rfl]; rfl)

set_option maxRecDepth 100000 in
set_option maxHeartbeats 4000000 in
theorem says1_any (B p q tb : Nat) (en : Int) (st : St) (s : ByteArray) (fv : Value) (o d : Bool) (w : World) (h : RS B w p en st) (hq : TRp w q p) (ht : w.cell? ⟨tb, 0, none⟩ = some (.pointer (some ⟨q, 0, none⟩))) (hs : s.data.toList ≠ []) (hf : fv.oneCell' = true) :
    Calls Tryz.prog 228 #[.agg #[.string s, fv, .bool o, .bool d], .pointer (some ⟨tb, 0, none⟩)] w fun e w' => e = .returned (.bool (tookB st s.data.toList)) ∧ Below w.heap.size w w' := by
  have hal : Below w.heap.size w (w.alloc (.cells #[.string s, fv, .bool o, .bool d] 223)) := (Below.refl _ _).alloc (Nat.le_refl _) _
  have IS : Hid (Calls Tryz.prog 189 #[.pointer (some ⟨p, 0, none⟩), .string s] (w.alloc (.cells #[.string s, fv, .bool o, .bool d] 223)).drew fun e w' => e = .returned (.bool (tookB st s.data.toList)) ∧ Below (w.alloc (.cells #[.string s, fv, .bool o, .bool d] 223)).drew.heap.size (w.alloc (.cells #[.string s, fv, .bool o, .bool d] 223)).drew w') := is_any B p en st s _ (h.below hal.drew) hs
  have HB : Hid (Below w.heap.size w (w.alloc (.cells #[.string s, fv, .bool o, .bool d] 223)).drew) := hal.drew
  have pl := h.lt
  obtain ⟨q0, ql, qp⟩ := hq
  have tl : tb < w.heap.size := World.block_lt_of_cell? w _ ht
  clear h hal hs
  obtain ⟨bb, hbb⟩ : ∃ bb, bb = tookB st s.data.toList := ⟨_, rfl⟩
  rw [← hbb] at IS ⊢
  clear hbb
  go_enter Tryz.func228, Tryz.ntmps228
  go_wp2_with fail
  go_region_law (first
    | (go_simp; go_at_call 189; refine IS.out.mono ?_; rintro e w1 ⟨he, hb1⟩; subst he; have K1 : Hid (Below w.heap.size w w1) := then_ HB.out hb1; clear hb1))
  all_goals
    go_wp2_with fail
    go_ret
    exact ⟨rfl, K1.out⟩

def IdxPost (st : St) (w : World) (e : Ending) (w' : World) : Prop := (∃ k : Int, e = .returned (.int .i64 k) ∧ ((k = -1 ∧ ∀ i, i < 9 → tookB st (wordN i) = false) ∨ ∃ i : Nat, i < 9 ∧ k = (i : Int) ∧ tookB st (wordN i) = true)) ∧ Below w.heap.size w w'
theorem wordN_str (i : Nat) : (str (wordN i)).data.toList = wordN i := str_data _

set_option maxRecDepth 100000 in
set_option maxHeartbeats 4000000 in
theorem index_any (B p q tb b : Nat) (stood : Nat → Bool) (en : Int) (st : St) (w : World) (h : RS B w p en st) (hq : TRp w q p) (ht : w.cell? ⟨tb, 0, none⟩ = some (.pointer (some ⟨q, 0, none⟩))) (hc : ClAt w b q stood) :
    Calls Tryz.prog 227 #[.slice (some ⟨b, 0, none⟩) 9 9, .func (.func 228) #[] #[.pointer (some ⟨tb, 0, none⟩)]] w (IdxPost st w) := by
  have H0 : Hid (∀ W, Below w.heap.size w W → RS B W p en st ∧ TRp W q p ∧ W.cell? ⟨tb, 0, none⟩ = some (.pointer (some ⟨q, 0, none⟩)) ∧ ClAt W b q stood) := fun W hW => ⟨h.below hW, hq.on (RCh.of_below h.lt hW), (hW.cell (p := ⟨tb, 0, none⟩) (World.block_lt_of_cell? w _ ht)).trans ht, hc.below hW⟩
  clear h hq ht hc
  go_enter Tryz.func227, Tryz.ntmps227
  go_wp2_with fail
  go_loopw [8] (fun v wr => ∃ i : Nat, v = .int .i64 (i : Int) ∧ i ≤ 9 ∧ Hid (Below w.heap.size w wr ∧ ∀ j, j < i → tookB st (wordN j) = false)) (fun v _ => match v with | .int _ z => 9 - z.toNat | _ => 0)
  case atStart => exact ⟨0, rfl, by decide, ⟨Below.refl _ _, fun j hj => absurd hj (Nat.not_lt_zero _)⟩⟩
  case round =>
    obtain ⟨i, rfl, hi9, HI⟩ := hrel
    by_cases hi : i < 9
    · have hi' : (i : Int) < 9 := by omega
      obtain ⟨c0, c1, c2, c3⟩ := (H0.out wr HI.out.1).2.2.2.1 i hi
      have cl := (H0.out wr HI.out.1).2.2.2.2.2
      have CL : Hid (Calls Tryz.prog 228 #[.agg #[.string (str (wordN i)), fnV q i, .bool (onceN i), .bool (stood i)], .pointer (some ⟨tb, 0, none⟩)] wr fun e w' => e = .returned (.bool (tookB st (wordN i))) ∧ Below wr.heap.size wr w') := by
        obtain ⟨g1, g2, g3, g4⟩ := H0.out wr HI.out.1
        have := says1_any B p q tb en st (str (wordN i)) (fnV q i) (onceN i) (stood i) wr g1 g2 g3 (by rw [wordN_str]; exact word_ne hi) rfl
        rw [wordN_str] at this
        exact this
      generalize fnV q i = fv at *
      generalize str (wordN i) = sw at *
      generalize onceN i = on at *
      generalize stood i = sd at *
      cases hb : tookB st (wordN i) with
      | true =>
        have HB : Hid (tookB st (wordN i) = true) := hb
        rw [hb] at CL
        clear hb
        go_wp2_with fail
        refine CL.out.mono ?_
        rintro e w1 ⟨he, hb1⟩
        subst he
        have K1 : Hid (Below w.heap.size w w1) := then_ HI.out.1 hb1
        clear hb1 c0 c1 c2 c3
        go_wp2_with fail
        go_ret
        exact ⟨⟨_, rfl, .inr ⟨i, hi, rfl, HB.out⟩⟩, K1.out⟩
      | false =>
        have HB : Hid (tookB st (wordN i) = false) := hb
        rw [hb] at CL
        clear hb
        go_wp2_with fail
        refine CL.out.mono ?_
        rintro e w1 ⟨he, hb1⟩
        subst he
        have NX : Hid (Below w.heap.size w w1 ∧ ∀ j, j < i + 1 → tookB st (wordN j) = false) := ⟨then_ HI.out.1 hb1, fun j hj => by
          by_cases e : j = i
          · subst e; exact HB.out
          · exact HI.out.2 j (by omega)⟩
        clear hb1 c0 c1 c2 c3
        go_wp2_with fail
        go_roundw
        case rel => exact ⟨i + 1, by simp, by omega, NX⟩
        case measure => simp; omega
    · obtain rfl : i = 9 := by omega
      go_wp2_with fail
      go_ret
      exact ⟨⟨-1, rfl, .inl ⟨rfl, HI.out.2⟩⟩, HI.out.1⟩
end Go.Proofs.YtjcanodnlnodpaaGreatDoor.Parse
