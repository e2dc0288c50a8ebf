/- The walk of ColourNested: it returns true, and leaves what was there as it was. -/
import Derived.Test.YtlcbpkdggppkaaaDoorColSmall
import Derived.Test.YtlcbpkdggppkaaaDoorColFew
namespace Go.Proofs.YtlcbpkdggppkaaaDoor.Colour
open Go.RowKit Go.Proofs.YtlcbpkdggppkaaaDoor.Frame Go.Deep
set_option linter.unusedVariables false
attribute [local go_sem ↓] Go.wp_at_zero Go.wp_at_succ

def partsF (n t m : Int) : Int × Int × Bool := if withinB m n then (m / t, m % t, true) else (0, 0, false)
theorem parts_any (a : Option Addr) (len cap : Nat) (cs : List Col) (ns : List Int) (k q : Nat) (m : Int) (w : World) (h : Cols w a len cs) (hn : sizesF cs = some ns) (hk : k < len) (h3 : (cs.getD k nilCol).kind = 3) (hq : (cs.getD k nilCol).thn = q) (hqk : q < k) :
    Calls Tryd.prog 8 #[.slice a len cap, .int .i64 k, .int .i64 m] w fun e w' => e = .returned (.tuple #[.int .i64 (partsF (ns.getD k 0) (ns.getD q 0) m).1, .int .i64 (partsF (ns.getD k 0) (ns.getD q 0) m).2.1, .bool (partsF (ns.getD k 0) (ns.getD q 0) m).2.2]) ∧ Below w.heap.size w w' := by
  unfold partsF
  cases hm : withinB m (ns.getD k 0) with
  | true => exact parts_in a len cap cs ns k q m w h hn hk h3 hq hqk hm
  | false => exact parts_out a len cap cs ns k m w h hn hk h3 hm

set_option maxRecDepth 100000 in
set_option maxHeartbeats 4000000 in
/-- it is not asked for more: the head is told -/
theorem nest_head (a : Option Addr) (len cap : Nat) (cs : List Col) (k m : Int) (w : World) (h : Cols w a len cs)
    (hc : k < 0 ∨ (0 ≤ k ∧ (len : Int) ≤ k) ∨ ∃ p : Nat, k = p ∧ p < len ∧ (¬ (cs.getD p nilCol).kind = 3 ∨ ((cs.getD p nilCol).kind = 3 ∧ sizesF cs = none))) :
    Calls Tryd.prog 3 #[.slice a len cap, .int .i64 k, .int .i64 m] w fun e w' => e = .returned (.bool true) ∧ Below w.heap.size w w' := by
  have HC : Hid (Cols w a len cs) := h
  have HH : Hid (k < 0 ∨ (0 ≤ k ∧ (len : Int) ≤ k) ∨ ∃ p : Nat, k = p ∧ p < len ∧ (¬ (cs.getD p nilCol).kind = 3 ∨ ((cs.getD p nilCol).kind = 3 ∧ sizesF cs = none))) := hc
  clear h hc
  go_enter Tryd.func3, Tryd.ntmps3
  go_wp2_with fail
  refine (small_any _).mono ?_
  rintro e w1 ⟨he, hb1⟩
  subst he
  have C1 : Hid (Cols w1 a len cs) := HC.out.below hb1
  go_wp2_with fail
  refine (few_any _ _ _ cs _ C1.out).mono ?_
  rintro e w2 ⟨⟨b, he⟩, hb2⟩
  subst he
  have K2 := then_ hb1 hb2
  cases b with
  | false =>
    go_wp2
    go_ret
    exact ⟨rfl, K2⟩
  | true =>
    rcases HH.out with h | ⟨h0, h⟩ | ⟨p, rfl, hp, h⟩
    · clear HH
      go_wp2
      go_ret
      exact ⟨rfl, K2⟩
    · have h0' : ¬ k < 0 := by omega
      clear HH
      go_wp2
      go_ret
      exact ⟨rfl, K2⟩
    · obtain ⟨bb, off, rfl, hbl, hcol⟩ := (HC.out.below K2).at hp
      have hp' : (p : Int) < len := by omega
      have hck := hcol.1.2.1
      have C2 : Hid (Cols w2 (some ⟨bb, off, none⟩) len cs) := HC.out.below K2
      rcases h with h | ⟨h, hn⟩
      · have hk3 : ((cs.getD p nilCol).kind != 3) = true := bne_iff_ne.2 h
        generalize (cs.getD p nilCol).kind = kd at *
        clear HH hcol h
        go_wp2
        go_ret
        exact ⟨rfl, K2⟩
      · rw [h] at hck
        have N : Hid (sizesF cs = none) := hn
        clear HH hcol h hn
        go_wp2_with (go_at_call 6; refine (right_any _ _ _ cs _ C2.out).mono ?_; rintro e w3 ⟨he, hb3⟩; subst he; rw [N.out])
        go_ret
        exact ⟨rfl, then_ K2 hb3⟩
end Go.Proofs.YtlcbpkdggppkaaaDoor.Colour
