/- The walk of ColourNested, of a pair of right colours: it returns true, and leaves what was there as it was. -/
import Derived.Test.YtlcbpkdggppkaaaDoorColNestW
namespace Go.Proofs.YtlcbpkdggppkaaaDoor.Colour
open Go.RowKit Go.Proofs.YtlcbpkdggppkaaaDoor.Frame Go.Deep
set_option linter.unusedVariables false
attribute [local go_sem ↓] Go.wp_at_zero Go.wp_at_succ

theorem partsF_out {n t m : Int} (h : withinB m n = false) : partsF n t m = (0, 0, false) := by unfold partsF; rw [h]; rfl
theorem partsF_in {n t m : Int} (h : withinB m n = true) : partsF n t m = (m / t, m % t, true) := by unfold partsF; rw [h]; rfl
theorem div_same {m t : Int} (ht : 1 ≤ t) (h : m % t + 1 < t) : (m + 1) / t = m / t ∧ (m + 1) % t = m % t + 1 := by
  have e := Int.mul_ediv_add_emod m t
  have h0 := Int.emod_nonneg m (show t ≠ 0 by omega)
  have e1 : m + 1 = (m % t + 1) + t * (m / t) := by omega
  constructor
  · rw [e1, Int.add_mul_ediv_left _ _ (by omega), Int.ediv_eq_zero_of_lt (by omega) h, Int.zero_add]
  · rw [e1, Int.add_mul_emod_self_left, Int.emod_eq_of_lt (by omega) h]
theorem div_next {m t : Int} (ht : 1 ≤ t) (h : m % t + 1 = t) : (m + 1) / t = m / t + 1 ∧ (m + 1) % t = 0 := by
  have e := Int.mul_ediv_add_emod m t
  have e1 : m + 1 = t * (m / t + 1) := by rw [Int.mul_add]; omega
  constructor
  · rw [e1, Int.mul_ediv_cancel_left _ (by omega)]
  · rw [e1, Int.mul_emod_right]

set_option maxRecDepth 100000 in
set_option maxHeartbeats 4000000 in
theorem nest_main (a : Option Addr) (len cap : Nat) (cs : List Col) (ns : List Int) (k : Nat) (m : Int) (w : World) (h : Cols w a len cs) (hk : k < len) (h3 : (cs.getD k nilCol).kind = 3) (hn : sizesF cs = some ns) (m1 : -9223372036854775808 ≤ m) (m2 : m ≤ 9223372036854775807) :
    Calls Tryd.prog 3 #[.slice a len cap, .int .i64 k, .int .i64 m] w fun e w' => e = .returned (.bool true) ∧ Below w.heap.size w w' := by
  obtain ⟨p, q, hpe, hqe, hpk, hqk, hmul⟩ := sizesF_pair hn k (by rw [h.1]; exact hk) h3
  obtain ⟨hl32, hnl, hall⟩ := sizesF_out hn
  have hal := hall k (by rw [h.1]; exact hk)
  have haq := hall q (by rw [h.1]; omega)
  have hap := hall p (by rw [h.1]; omega)
  have HC : Hid (Cols w a len cs) := h
  have H3 : Hid ((cs.getD k nilCol).kind = 3) := h3
  have HP : Hid ((cs.getD k nilCol).first = p) := hpe
  have HQ : Hid ((cs.getD k nilCol).thn = q) := hqe
  have N : Hid (sizesF cs = some ns) := hn
  have F0 : Hid (sizeF cs k = ns.getD k 0) := sizeF_in hn (by rw [hnl, h.1]; exact hk)
  have F1 : Hid (sizeF cs p = ns.getD p 0) := sizeF_in hn (by rw [hnl, h.1]; omega)
  have F2 : Hid (sizeF cs q = ns.getD q 0) := sizeF_in hn (by rw [hnl, h.1]; omega)
  have PT : Hid (∀ (wx : World) (m' : Int), Cols wx a len cs → Calls Tryd.prog 8 #[.slice a len cap, .int .i64 k, .int .i64 m'] wx fun e w' => e = .returned (.tuple #[.int .i64 (partsF (ns.getD k 0) (ns.getD q 0) m').1, .int .i64 (partsF (ns.getD k 0) (ns.getD q 0) m').2.1, .bool (partsF (ns.getD k 0) (ns.getD q 0) m').2.2]) ∧ Below wx.heap.size wx w') :=
    fun wx m' hx => parts_any a len cap cs ns k q m' wx hx hn hk h3 hqe hqk
  obtain ⟨-, n1, n2⟩ := hal
  obtain ⟨-, t1, t2⟩ := haq
  obtain ⟨-, s1, s2⟩ := hap
  clear h h3 hpe hqe hn hall hl32 hnl
  generalize ns.getD k 0 = n at *
  generalize ns.getD q 0 = t at *
  generalize ns.getD p 0 = s at *
  have hw : IntKind.i64.wrap (s * t) = n := by rw [← hmul, IntKind.wrap_i64]; omega
  have HM : Hid (n = s * t) := hmul
  clear hmul
  have hk' : (k : Int) < len := by omega
  have hk0 : (0 : Int) ≤ (k : Int) := by omega
  go_enter Tryd.func3, Tryd.ntmps3
  go_wp2_with fail
  refine (small_any _).mono ?_
  rintro e w1 ⟨he, hb1⟩
  subst he
  have C1 : Hid (Cols w1 a len cs) := HC.out.below hb1
  go_wp2_with fail
  refine (few_any _ _ _ cs _ C1.out).mono ?_
  rintro e w2 ⟨⟨b, he⟩, hb2⟩
  subst he
  have K2 : Hid (Below w.heap.size w w2) := then_ hb1 hb2
  clear hb1 hb2 C1
  cases b with
  | false =>
    go_wp2
    go_ret
    exact ⟨rfl, K2.out⟩
  | true =>
    obtain ⟨bb, off, rfl, hbl, hcol⟩ := (HC.out.below K2.out).at hk
    have hck := hcol.1.2.1
    have hc5 := hcol.1.2.2.2.2.2.1
    have hc6 := hcol.1.2.2.2.2.2.2
    rw [H3.out] at hck
    rw [HP.out] at hc5
    rw [HQ.out] at hc6
    have C2 : Hid (Cols w2 (some ⟨bb, off, none⟩) len cs) := HC.out.below K2.out
    clear hcol
    go_wp2_with fail
    refine (right_any _ _ _ cs _ C2.out).mono ?_
    rintro e w3 ⟨he, hb3⟩
    subst he
    rw [N.out]
    have C3 : Hid (Cols w3 (some ⟨bb, off, none⟩) len cs) := C2.out.below hb3
    go_wp2_with fail
    refine (size_any _ _ _ cs _ _ C3.out).mono ?_
    rintro e w4 ⟨he, hb4⟩
    subst he
    rw [F0.out]
    have B4 := then_ hb3 hb4
    have C4 : Hid (Cols w4 (some ⟨bb, off, none⟩) len cs) := C2.out.below B4
    have K4 : Hid (Below w.heap.size w w4) := then_ K2.out B4
    have hbl4 : bb < w4.heap.size := Nat.lt_of_lt_of_le hbl B4.size
    have d5 : w4.cell? ⟨bb, off + k * 7 + 5, none⟩ = some (.int .i64 p) := (B4.cell (p := ⟨bb, off + k * 7 + 5, none⟩) hbl).trans hc5
    have d6 : w4.cell? ⟨bb, off + k * 7 + 6, none⟩ = some (.int .i64 q) := (B4.cell (p := ⟨bb, off + k * 7 + 6, none⟩) hbl).trans hc6
    have SZ : Hid (∀ (wx : World) (i : Int), Below w4.heap.size w4 wx → Calls Tryd.prog 7 #[.slice (some ⟨bb, off, none⟩) len cap, .int .i64 i] wx fun e w' => e = .returned (.int .i64 (sizeF cs i)) ∧ Below w4.heap.size w4 w') := fun wx i hx =>
      (size_any _ _ _ cs i wx (C4.out.below hx)).mono fun _ _ h => ⟨h.1, then_ hx h.2⟩
    clear hb3 hb4 B4 C2 C3 K2 hck hc5 hc6
    go_wp2_with fail
    go_region_held3 (fun w' => w'.cell? ⟨bb, off + k * 7 + 5, none⟩ = some (.int .i64 p) ∧ w'.cell? ⟨bb, off + k * 7 + 6, none⟩ = some (.int .i64 q)) (go_keep)
      (first | (go_at_call 7; refine (SZ.out _ _ (by first | exact (Below.refl _ _).drew | exact hbx)).mono ?_; rintro e w5 ⟨he, hbx⟩; subst he; have g5 := (hbx.cell (p := ⟨bb, off + k * 7 + 5, none⟩) hbl4).trans d5; have g6 := (hbx.cell (p := ⟨bb, off + k * 7 + 6, none⟩) hbl4).trans d6; first | rw [F1.out] | rw [F2.out]))
    have K5 : Hid (Below w.heap.size w w5) := then_ K4.out hbx
    have C5 : Hid (Cols w5 (some ⟨bb, off, none⟩) len cs) := C4.out.below hbx
    have hbl5 : bb < w5.heap.size := Nat.lt_of_lt_of_le hbl4 hbx.size
    have G6 : Hid (w5.cell? ⟨bb, off + k * 7 + 6, none⟩ = some (.int .i64 q)) := g6
    clear hbx g5 g6 d5 d6 hbl4 C4 K4 SZ hbl
    cases hm : withinB m n with
    | false =>
      have P1 : Hid (partsF n t m = (0, 0, false)) := partsF_out hm
      clear hm
      go_wp2_with fail
      refine (PT.out _ _ C5.out).mono ?_
      rintro e w6 ⟨he, hb6⟩
      subst he
      rw [P1.out]
      have C6 : Hid (Cols w6 (some ⟨bb, off, none⟩) len cs) := C5.out.below hb6
      go_wp2_with fail
      refine (PT.out _ _ C6.out).mono ?_
      rintro e w7 ⟨he, hb7⟩
      subst he
      generalize partsF n t _ = pr
      obtain ⟨x, y, bq⟩ := pr
      go_wp2
      go_ret
      exact ⟨rfl, then_ (then_ K5.out hb6) hb7⟩
    | true =>
      have hmm := of_decide_eq_true (show decide _ = true from hm)
      obtain ⟨mm0, mm1⟩ := hmm
      have mm2 : m ≤ 1024 := by omega
      have P1 : Hid (partsF n t m = (m / t, m % t, true)) := partsF_in hm
      clear hm
      cases hm' : withinB (m + 1) n with
      | false =>
        have P2 : Hid (partsF n t (m + 1) = (0, 0, false)) := partsF_out hm'
        clear hm'
        go_wp2_with fail
        refine (PT.out _ _ C5.out).mono ?_
        rintro e w6 ⟨he, hb6⟩
        subst he
        rw [P1.out]
        have C6 : Hid (Cols w6 (some ⟨bb, off, none⟩) len cs) := C5.out.below hb6
        go_wp2_with fail
        refine (PT.out _ _ C6.out).mono ?_
        rintro e w7 ⟨he, hb7⟩
        subst he
        rw [P2.out]
        go_wp2
        go_ret
        exact ⟨rfl, then_ (then_ K5.out hb6) hb7⟩
      | true =>
        have hmm := of_decide_eq_true (show decide _ = true from hm')
        have mm3 : m + 1 < n := hmm.2
        clear hmm
        have b0 := Int.emod_nonneg m (show t ≠ 0 by omega)
        have b1 := Int.emod_lt_of_pos m (show 0 < t by omega)
        have a0 : 0 ≤ m / t := Int.ediv_nonneg mm0 (by omega)
        have a1 : m / t ≤ m := Int.ediv_le_self _ mm0
        by_cases hlt : m % t + 1 < t
        · obtain ⟨e1, e2⟩ := div_same t1 hlt
          have P2 : Hid (partsF n t (m + 1) = (m / t, m % t + 1, true)) := by rw [← e1, ← e2]; exact partsF_in hm'
          clear hm' e1 e2
          generalize m / t = x at *
          generalize m % t = y at *
          go_wp2_with fail
          refine (PT.out _ _ C5.out).mono ?_
          rintro e w6 ⟨he, hb6⟩
          subst he
          rw [P1.out]
          have C6 : Hid (Cols w6 (some ⟨bb, off, none⟩) len cs) := C5.out.below hb6
          go_wp2_with fail
          refine (PT.out _ _ C6.out).mono ?_
          rintro e w7 ⟨he, hb7⟩
          subst he
          rw [P2.out]
          go_wp2
          go_ret
          exact ⟨rfl, then_ (then_ K5.out hb6) hb7⟩
        · have heq : m % t + 1 = t := by omega
          obtain ⟨e1, e2⟩ := div_next t1 heq
          have P2 : Hid (partsF n t (m + 1) = (m / t + 1, 0, true)) := by rw [← e1, ← e2]; exact partsF_in hm'
          clear hm' e1 e2
          generalize m / t = x at *
          generalize m % t = y at *
          have f1 : (x + 1 == x) = false := beq_eq_false_iff_ne.2 (by omega)
          have f2 : (y + 1 == t) = true := beq_iff_eq.2 heq
          have HE : Hid (y + 1 = t) := heq
          clear heq
          go_wp2_with fail
          refine (PT.out _ _ C5.out).mono ?_
          rintro e w6 ⟨he, hb6⟩
          subst he
          rw [P1.out]
          have C6 : Hid (Cols w6 (some ⟨bb, off, none⟩) len cs) := C5.out.below hb6
          go_wp2_with fail
          refine (PT.out _ _ C6.out).mono ?_
          rintro e w7 ⟨he, hb7⟩
          subst he
          rw [P2.out]
          have B7 := then_ hb6 hb7
          have C7 : Hid (Cols w7 (some ⟨bb, off, none⟩) len cs) := C5.out.below B7
          have d6 : w7.cell? ⟨bb, off + k * 7 + 6, none⟩ = some (.int .i64 q) := (B7.cell (p := ⟨bb, off + k * 7 + 6, none⟩) hbl5).trans G6.out
          go_wp2_with (go_at_call 7; refine (size_any _ _ _ cs _ _ C7.out).mono ?_; rintro e w8 ⟨he, hb8⟩; subst he; rw [F2.out])
          go_ret
          exact ⟨rfl, then_ (then_ K5.out B7) hb8⟩
end Go.Proofs.YtlcbpkdggppkaaaDoor.Colour
