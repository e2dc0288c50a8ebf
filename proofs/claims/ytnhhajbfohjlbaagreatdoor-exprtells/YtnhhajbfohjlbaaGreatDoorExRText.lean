/- The document's own loose and kid: contracts of the calls, over the turned program. -/
import Derived.Test.YtnhhajbfohjlbaaGreatDoorExDec
import Derived.Test.YtnhhajbfohjlbaaGreatDoorExLaw
import Derived.Test.YtnhhajbfohjlbaaGreatDoorExOpen
import Derived.Deep.CutBlock
namespace Go.Proofs.YtnhhajbfohjlbaaGreatDoor.Expr
open Go.RowKit Go.Proofs.YtnhhajbfohjlbaaGreatDoor.Frame Go.Proofs.YtnhhajbfohjlbaaGreatDoor.Calc
set_option linter.unusedVariables false
set_option linter.unusedSimpArgs false

def looseB (ks : List Ex) (i : Nat) (s : Int) : Bool := decide (i < ks.length) && (isBin (ks.getD i nilEx) && decide (strengthF (ks.getD i nilEx).num < s))
theorem loose_nil {ks : List Ex} {i : Nat} {s : Int} (h : ¬ i < ks.length) : looseB ks i s = false := by simp [looseB, h]
theorem loose_kind {ks : List Ex} {i : Nat} {s : Int} (h : ¬ (ks.getD i nilEx).kind = 5) : looseB ks i s = false := by
  unfold looseB isBin
  rw [decide_eq_false h]; simp
theorem loose_bin {ks : List Ex} {i : Nat} {s : Int} (hi : i < ks.length) (h : (ks.getD i nilEx).kind = 5) : looseB ks i s = decide (strengthF (ks.getD i nilEx).num < s) := by
  unfold looseB isBin
  rw [decide_eq_true h, decide_eq_true hi]; simp

set_option maxRecDepth 100000 in
set_option maxHeartbeats 2000000 in
theorem loose_any (k n : Int) (ks : List Ex) (w : World) (a : Option Addr) (c i : Nat) (s : Int) (hx : X w ⟨k, n, ks⟩ a) (hi : i ≤ 3) (hl : ks.length ≤ 1000000) :
    Calls Tryz.prog 27 #[.agg #[.int .i64 k, .int .i64 n, .slice a ks.length c], .int .i64 i, .int .i64 s] w fun e w' => e = .returned (.bool (looseB ks i s)) ∧ Below w.heap.size w w' := by
  by_cases hlt : i < ks.length
  · obtain ⟨b, off, x, ai, ci, ha, hbl, hxm, hxe, c0, c1, c2, hxx⟩ := hx.kid hlt
    subst ha
    by_cases h5 : x.kind = 5
    · have E : Hid (looseB ks i s = decide (strengthF x.num < s)) := by rw [Hid, loose_bin hlt (by rw [← hxe]; exact h5), hxe]
      rw [h5] at c0
      rw [E.out]
      generalize ks.length = len at *
      have hlt' : (i : Int) < len := by omega
      clear hx hxx hxm hxe
      go_enter Tryz.func27, Tryz.ntmps27
      go_wp2_with (go_at_call 28; refine (rstrength_any _ _).mono ?_; rintro e w' ⟨he, hb⟩; subst he)
      go_ret
      exact ⟨rfl, fstep (al1 _ _) hb⟩
    · have E : Hid (looseB ks i s = false) := loose_kind (by rw [← hxe]; exact h5)
      rw [E.out]
      generalize ks.length = len at *
      have hlt' : (i : Int) < len := by omega
      clear hx hxx hxm hxe
      go_enter Tryz.func27, Tryz.ntmps27
      go_wp2_with fail
      go_ret
      exact ⟨rfl, al1 _ _⟩
  · have E : Hid (looseB ks i s = false) := loose_nil hlt
    rw [E.out]
    generalize ks.length = len at *
    have hlt' : ¬ (i : Int) < len := by omega
    clear hx
    go_enter Tryz.func27, Tryz.ntmps27
    go_wp2_with fail
    go_ret
    exact ⟨rfl, al1 _ _⟩

/-- what the document's own Text tells of an expression -/
def RText (names : List ByteArray) (t : Ex) : Prop := ∀ (w : World) (a na : Option Addr) (c nc nl : Nat), X w t a → Nms w na nl names → sizeF t ≤ 1000000 → (textF names t).length ≤ 1000000 →
  Calls Tryz.prog 13 #[exV t a c, .slice na nl nc] w fun e w' => e = .returned (.string (strB (textF names t))) ∧ Below w.heap.size w w'
theorem Nms.below {w w' : World} {a : Option Addr} {len : Nat} {zs : List ByteArray} (h : Nms w a len zs) (hb : Below w.heap.size w w') : Nms w' a len zs := by
  refine ⟨h.1, ?_⟩
  rcases h.2 with h0 | ⟨b, off, ha, hB, hc⟩
  · exact .inl h0
  · exact .inr ⟨b, off, ha, Nat.lt_of_lt_of_le hB hb.size, fun i hi => (hb.cell (p := ⟨b, off + i, none⟩) hB).trans (hc i hi)⟩

set_option maxRecDepth 100000 in
set_option maxHeartbeats 2000000 in
theorem kid_any (names : List ByteArray) (k n : Int) (ks : List Ex) (w : World) (a na : Option Addr) (c nc nl i : Nat) (ar : Bool) (hx : X w ⟨k, n, ks⟩ a) (hn : Nms w na nl names) (hi : i ≤ 3) (hl : ks.length ≤ 1000000) (hs : sizeF (ks.getD i nilEx) ≤ 1000000) (hlt : (textF names (ks.getD i nilEx)).length ≤ 1000000) (hr : ∀ x, x ∈ ks → RText names x) (har : ¬ i < ks.length → ar = false) :
    Calls Tryz.prog 26 #[.agg #[.int .i64 k, .int .i64 n, .slice a ks.length c], .int .i64 i, .slice na nl nc, .bool ar] w fun e w' => e = .returned (.string (strB (br ar (textF names (ks.getD i nilEx))))) ∧ Below w.heap.size w w' := by
  by_cases hlt2 : i < ks.length
  · obtain ⟨b, off, x, ai, ci, ha, hbl, hxm, hxe, c0, c1, c2, hxx⟩ := hx.kid hlt2
    subst ha
    rw [← hxe] at hs hlt ⊢
    have CL : Hid (∀ o, Calls Tryz.prog 13 #[exV x ai ci, .slice na nl nc] (w.alloc o) fun e w' => e = .returned (.string (strB (textF names x))) ∧ Hid (Below w.heap.size w w')) := fun o =>
      (hr x hxm _ ai na ci nc nl (hxx.below (al1 _ _)) (hn.below (al1 _ _)) hs hlt).mono fun e w' h => ⟨h.1, (al1 w o).trans (h.2.mono (by simp))⟩
    generalize textF names x = q at *
    generalize ks.length = len at *
    have hlt' : (i : Int) < len := by omega
    have hsz1 : ¬ 9223372036854775807 < (ByteArray.mk #[40]).size + (strB q).size := by rw [strB_size]; show ¬ 9223372036854775807 < 1 + q.length; omega
    have hsz2 : ¬ 9223372036854775807 < (ByteArray.mk #[40] ++ strB q).size + (ByteArray.mk #[41]).size := by
      rw [show ByteArray.mk #[40] ++ strB q = strB ([40] ++ q) from strB_append [40] q, strB_size, List.length_append]; show ¬ 9223372036854775807 < (1 + q.length) + 1; omega
    clear hx hn hxx hxm hxe hr har hlt hs
    cases ar with
    | true =>
      have E : Hid (strB (br true q) = ByteArray.mk #[40] ++ strB q ++ ByteArray.mk #[41]) := by
        have e1 : ByteArray.mk #[40] ++ strB q = strB ([40] ++ q) := strB_append [40] q
        have e2 : strB ([40] ++ q) ++ ByteArray.mk #[41] = strB ([40] ++ q ++ [41]) := strB_append ([40] ++ q) [41]
        rw [Hid, e1, e2]; rfl
      rw [E.out]
      go_enter Tryz.func26, Tryz.ntmps26
      go_wp2_with (go_at_call 13; refine (CL.out _).mono ?_; rintro e w1 ⟨he, hb1⟩; subst he)
      go_ret
      exact ⟨rfl, hb1.out⟩
    | false =>
      have E : Hid (br false q = q) := rfl
      rw [E.out]
      go_enter Tryz.func26, Tryz.ntmps26
      go_wp2_with (go_at_call 13; refine (CL.out _).mono ?_; rintro e w1 ⟨he, hb1⟩; subst he)
      go_ret
      exact ⟨rfl, hb1.out⟩
  · have e : ks.getD i nilEx = nilEx := by rw [List.getD_eq_getElem?_getD, List.getElem?_eq_none (by omega)]; rfl
    have hf := har hlt2
    subst hf
    rw [e, text_nil]
    generalize ks.length = len at *
    have hlt' : (len : Int) ≤ i := by omega
    clear hx hn hr
    go_enter Tryz.func26, Tryz.ntmps26
    go_wp2_with fail
    go_ret
    exact ⟨rfl, al1 _ _⟩
end Go.Proofs.YtnhhajbfohjlbaaGreatDoor.Expr
