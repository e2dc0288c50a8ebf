/- Right, Size, pairSizes, Parts, base and Number of package colour: contracts of the calls, over the turned program. -/
import Derived.Test.YtgdkomkflfodaaaGreatColSizeP
namespace Go.Proofs.YtgdkomkflfodaaaGreat.Colour
open Go.RowKit Go.Proofs.YtgdkomkflfodaaaGreat.Frame Go.Deep
set_option linter.unusedVariables false

theorem sizes_no (a : Option Addr) (len cap : Nat) (cs : List Col) (w : World) (h : Cols w a len cs) (hn : sizesF cs = none) :
    Calls Tryz.prog 60 #[.slice a len cap] w fun e w' => e = .returned (.tuple #[.slice none 0 0, .bool false]) ∧ Below w.heap.size w w' := by
  refine (sizes_any a len cap cs w h).mono ?_
  rintro e w' ⟨h1 | ⟨ns, g, h1, _⟩, hb⟩
  · exact ⟨h1.2, hb⟩
  · rw [hn] at h1; cases h1
theorem sizes_yes (a : Option Addr) (len cap : Nat) (cs : List Col) (ns : List Int) (w : World) (h : Cols w a len cs) (hn : sizesF cs = some ns) :
    Calls Tryz.prog 60 #[.slice a len cap] w fun e w' => ∃ g, e = .returned (.tuple #[.slice (some ⟨g, 0, none⟩) len len, .bool true]) ∧ (w.heap.size ≤ g ∧ ∀ j, j < len → w'.cell? ⟨g, j, none⟩ = some (.int .i64 (ns.getD j 0))) ∧ Below w.heap.size w w' := by
  refine (sizes_any a len cap cs w h).mono ?_
  rintro e w' ⟨h1 | ⟨ns', g, h1, he, hg, _, hc⟩, hb⟩
  · rw [hn] at h1; cases h1.1
  · rw [hn] at h1; cases h1
    exact ⟨g, he, ⟨hg, hc⟩, hb⟩

set_option maxHeartbeats 1000000 in
theorem right_any (a : Option Addr) (len cap : Nat) (cs : List Col) (w : World) (h : Cols w a len cs) :
    Calls Tryz.prog 17 #[.slice a len cap] w fun e w' => e = .returned (.bool (sizesF cs).isSome) ∧ Below w.heap.size w w' := by
  have HC : Hid (Cols w a len cs) := h
  clear h
  cases hs : sizesF cs with
  | none =>
    have H : Hid (sizesF cs = none) := hs
    clear hs
    go_enter Tryz.func17, Tryz.ntmps17
    go_wp2_with (go_at_call 60; refine (sizes_no _ _ _ cs _ HC.out H.out).mono ?_; rintro e w' ⟨he, hb⟩; subst he)
    go_ret
    exact ⟨rfl, hb⟩
  | some ns =>
    have H : Hid (sizesF cs = some ns) := hs
    clear hs
    go_enter Tryz.func17, Tryz.ntmps17
    go_wp2_with (go_at_call 60; refine (sizes_yes _ _ _ cs ns _ HC.out H.out).mono ?_; rintro e w' ⟨g, he, hg, hb⟩; subst he; have HG : Hid (_ ∧ _) := hg; clear hg)
    go_ret
    exact ⟨rfl, hb⟩

set_option maxHeartbeats 1000000 in
theorem size_any (a : Option Addr) (len cap : Nat) (cs : List Col) (k : Int) (w : World) (h : Cols w a len cs) :
    Calls Tryz.prog 68 #[.slice a len cap, .int .i64 k] w fun e w' => e = .returned (.int .i64 (sizeF cs k)) ∧ Below w.heap.size w w' := by
  have HC : Hid (Cols w a len cs) := h
  have hlen : cs.length = len := h.1
  clear h
  cases hs : sizesF cs with
  | none =>
    have H : Hid (sizesF cs = none) := hs
    have R : Hid (sizeF cs k = 0) := sizeF_none hs k
    clear hs hlen
    go_enter Tryz.func68, Tryz.ntmps68
    go_wp2_with (go_at_call 60; refine (sizes_no _ _ _ cs _ HC.out H.out).mono ?_; rintro e w' ⟨he, hb⟩; subst he)
    go_ret
    exact ⟨by rw [R.out]; rfl, hb⟩
  | some ns =>
    have H : Hid (sizesF cs = some ns) := hs
    obtain ⟨hl32, hnl, hall⟩ := sizesF_out hs
    have hnl' : ns.length = len := by omega
    have hl32' : len ≤ 32 := by omega
    clear hall
    cases hk : withinB k len with
    | false =>
      have K : Hid (withinB k len = false) := hk
      have R : Hid (sizeF cs k = 0) := sizeF_out hs (by rw [hnl']; exact hk)
      clear hs hlen hk hnl hnl' hl32
      go_enter Tryz.func68, Tryz.ntmps68
      go_wp2_with (first
        | (go_at_call 60; refine (sizes_yes _ _ _ cs ns _ HC.out H.out).mono ?_; rintro e w' ⟨g, he, hg, hb⟩; subst he; have HG : Hid (_ ∧ _) := hg; clear hg)
        | (go_at_call 113; refine (within_any _ _ _).mono ?_; rintro e w' ⟨he, hw⟩; subst he; have hw := hw.symm; subst hw; rw [K.out]))
      go_ret
      exact ⟨by rw [R.out]; rfl, hb⟩
    | true =>
      have hw := of_decide_eq_true (show decide _ = true from hk)
      obtain ⟨p, rfl⟩ := Int.eq_ofNat_of_zero_le hw.1
      have hp : p < len := by omega
      have hp' : (p : Int) < len := by omega
      have K : Hid (withinB p len = true) := hk
      have R : Hid (sizeF cs p = ns.getD p 0) := sizeF_in hs (by omega)
      clear hs hlen hk hnl hnl' hl32 hw
      go_enter Tryz.func68, Tryz.ntmps68
      go_wp2_with (first
        | (go_at_call 60; refine (sizes_yes _ _ _ cs ns _ HC.out H.out).mono ?_; rintro e w' ⟨g, he, hg, hb⟩; subst he; have hcp := hg.2 p hp; clear hg; obtain ⟨x, hx⟩ : ∃ x, x = ns.getD p 0 := ⟨_, rfl⟩; rw [← hx] at hcp R; clear hx)
        | (go_at_call 113; refine (within_any _ _ _).mono ?_; rintro e w' ⟨he, hw⟩; subst he; have hw := hw.symm; subst hw; rw [K.out]))
      go_ret
      exact ⟨by rw [R.out]; rfl, hb⟩
end Go.Proofs.YtgdkomkflfodaaaGreat.Colour
