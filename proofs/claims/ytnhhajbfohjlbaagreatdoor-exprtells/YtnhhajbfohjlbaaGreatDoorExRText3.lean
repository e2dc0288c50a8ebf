/- The document's own Text: two kinds more, and all: contracts of the calls, over the turned program. -/
import Derived.Test.YtnhhajbfohjlbaaGreatDoorExRText2
namespace Go.Proofs.YtnhhajbfohjlbaaGreatDoor.Expr
open Go.RowKit Go.Proofs.YtnhhajbfohjlbaaGreatDoor.Frame Go.Proofs.YtnhhajbfohjlbaaGreatDoor.Calc
set_option linter.unusedVariables false
set_option linter.unusedSimpArgs false

theorem wrap_in {x : Int} (h : In64 x) : IntKind.i64.wrap x = x := by
  unfold In64 at h
  simp [IntKind.wrap, IntKind.signed, IntKind.bits]
  omega
theorem strB_mk (l : List UInt8) : strB l = ByteArray.mk l.toArray := rfl
theorem cat_sz {x y : ByteArray} {l m : List UInt8} (hx : x = strB l) (hy : y = strB m) (h : l.length + m.length ≤ 9000000000000000000) : ¬ 9223372036854775807 < x.size + y.size := by subst hx hy; exact str_sz l m h
theorem cat_eq {x y : ByteArray} {l m : List UInt8} (hx : x = strB l) (hy : y = strB m) : x ++ y = strB (l ++ m) := by subst hx hy; exact strB_append l m

set_option maxRecDepth 100000 in
set_option maxHeartbeats 4000000 in
theorem rtext_if (names : List ByteArray) (n : Int) (ks : List Ex) (w : World) (a na : Option Addr) (c nc nl : Nat) (hx : X w ⟨6, n, ks⟩ a) (hn : Nms w na nl names) (hs : sizeF ⟨6, n, ks⟩ ≤ 1000000) (hl : (textF names ⟨6, n, ks⟩).length ≤ 1000000) (hr : ∀ x, x ∈ ks → RText names x) :
    Calls Tryz.prog 13 #[.agg #[.int .i64 6, .int .i64 n, .slice a ks.length c], .slice na nl nc] w fun e w' => e = .returned (.string (strB (textF names ⟨6, n, ks⟩))) ∧ Below w.heap.size w w' := by
  have ET : textF names ⟨6, n, ks⟩ = [105, 102, 40] ++ textF names (ks.getD 0 nilEx) ++ [44, 32] ++ textF names (ks.getD 1 nilEx) ++ [44, 32] ++ textF names (ks.getD 2 nilEx) ++ [41] := by rw [text_eq]; simp only [textN]; rw [text_kid, text_kid, text_kid]; rfl
  rw [ET] at hl ⊢
  have hlen : ks.length ≤ 1000000 := by have := len_size 6 n ks; omega
  have HLk : Hid (∀ i, sizeF (ks.getD i nilEx) ≤ 1000000) := fun i => size_at (names := names) hs i
  have F1 : Hid (C1 w.heap.size 6 n a ks.length c (w.alloc (.cells #[.int .i64 6, .int .i64 n, .slice a ks.length c] 24))) := cell3_new w _ _ _ _
  have XU : Hid (X (w.alloc (.cells #[.int .i64 6, .int .i64 n, .slice a ks.length c] 24)) ⟨6, n, ks⟩ a) := hx.below (al1 _ _)
  have NU : Hid (Nms (w.alloc (.cells #[.int .i64 6, .int .i64 n, .slice a ks.length c] 24)) na nl names) := hn.below (al1 _ _)
  have HR : Hid (∀ x, x ∈ ks → RText names x) := hr
  have BU : Hid (Below w.heap.size w (w.alloc (.cells #[.int .i64 6, .int .i64 n, .slice a ks.length c] 24))) := al1 _ _
  simp only [List.length_append, List.length_cons, List.length_nil] at hl
  have HT0 : Hid ((textF names (ks.getD 0 nilEx)).length ≤ 1000000) := by unfold Hid; omega
  have HB0 : Hid (¬ 0 < ks.length → false = false) := fun _ => rfl
  have HT1 : Hid ((textF names (ks.getD 1 nilEx)).length ≤ 1000000) := by unfold Hid; omega
  have HB1 : Hid (¬ 1 < ks.length → false = false) := fun _ => rfl
  have HT2 : Hid ((textF names (ks.getD 2 nilEx)).length ≤ 1000000) := by unfold Hid; omega
  have HB2 : Hid (¬ 2 < ks.length → false = false) := fun _ => rfl
  have CK0 : Hid (∀ wx, Below (w.alloc (.cells #[.int .i64 6, .int .i64 n, .slice a ks.length c] 24)).heap.size (w.alloc (.cells #[.int .i64 6, .int .i64 n, .slice a ks.length c] 24)) wx → Calls Tryz.prog 26 #[.agg #[.int .i64 6, .int .i64 n, .slice a ks.length c], .int .i64 0, .slice na nl nc, .bool false] wx fun e w' => e = .returned (.string (strB (br false (textF names (ks.getD 0 nilEx))))) ∧ Below wx.heap.size wx w') := fun wx hb =>
    kid_any names 6 n ks wx a na c nc nl 0 _ (XU.out.below hb) (NU.out.below hb) (by omega) hlen (HLk.out 0) HT0.out HR.out HB0.out
  have CK1 : Hid (∀ wx, Below (w.alloc (.cells #[.int .i64 6, .int .i64 n, .slice a ks.length c] 24)).heap.size (w.alloc (.cells #[.int .i64 6, .int .i64 n, .slice a ks.length c] 24)) wx → Calls Tryz.prog 26 #[.agg #[.int .i64 6, .int .i64 n, .slice a ks.length c], .int .i64 1, .slice na nl nc, .bool false] wx fun e w' => e = .returned (.string (strB (br false (textF names (ks.getD 1 nilEx))))) ∧ Below wx.heap.size wx w') := fun wx hb =>
    kid_any names 6 n ks wx a na c nc nl 1 _ (XU.out.below hb) (NU.out.below hb) (by omega) hlen (HLk.out 1) HT1.out HR.out HB1.out
  have CK2 : Hid (∀ wx, Below (w.alloc (.cells #[.int .i64 6, .int .i64 n, .slice a ks.length c] 24)).heap.size (w.alloc (.cells #[.int .i64 6, .int .i64 n, .slice a ks.length c] 24)) wx → Calls Tryz.prog 26 #[.agg #[.int .i64 6, .int .i64 n, .slice a ks.length c], .int .i64 2, .slice na nl nc, .bool false] wx fun e w' => e = .returned (.string (strB (br false (textF names (ks.getD 2 nilEx))))) ∧ Below wx.heap.size wx w') := fun wx hb =>
    kid_any names 6 n ks wx a na c nc nl 2 _ (XU.out.below hb) (NU.out.below hb) (by omega) hlen (HLk.out 2) HT2.out HR.out HB2.out
  have EF : ∀ l, br false l = l := fun _ => rfl
  simp only [EF] at CK0 CK1 CK2
  clear hx hn hs hr ET HB0 HB1 HB2 EF HLk
  generalize textF names (ks.getD 0 nilEx) = q0 at *
  generalize textF names (ks.getD 1 nilEx) = q1 at *
  generalize textF names (ks.getD 2 nilEx) = q2 at *
  have HQ : Hid (q0.length ≤ 1000000 ∧ q1.length ≤ 1000000 ∧ q2.length ≤ 1000000) := ⟨HT0.out, HT1.out, HT2.out⟩
  have E1 : Hid (ByteArray.mk #[105, 102, 40] ++ strB q0 = strB ([105, 102, 40] ++ q0)) := cat_eq (strB_mk [105, 102, 40]).symm rfl
  have E2 : Hid (ByteArray.mk #[105, 102, 40] ++ strB q0 ++ ByteArray.mk #[44, 32] = strB ([105, 102, 40] ++ q0 ++ [44, 32])) := cat_eq E1.out (strB_mk [44, 32]).symm
  have E3 : Hid (ByteArray.mk #[105, 102, 40] ++ strB q0 ++ ByteArray.mk #[44, 32] ++ strB q1 = strB ([105, 102, 40] ++ q0 ++ [44, 32] ++ q1)) := cat_eq E2.out rfl
  have E4 : Hid (ByteArray.mk #[105, 102, 40] ++ strB q0 ++ ByteArray.mk #[44, 32] ++ strB q1 ++ ByteArray.mk #[44, 32] = strB ([105, 102, 40] ++ q0 ++ [44, 32] ++ q1 ++ [44, 32])) := cat_eq E3.out (strB_mk [44, 32]).symm
  have E5 : Hid (ByteArray.mk #[105, 102, 40] ++ strB q0 ++ ByteArray.mk #[44, 32] ++ strB q1 ++ ByteArray.mk #[44, 32] ++ strB q2 = strB ([105, 102, 40] ++ q0 ++ [44, 32] ++ q1 ++ [44, 32] ++ q2)) := cat_eq E4.out rfl
  have E6 : Hid (ByteArray.mk #[105, 102, 40] ++ strB q0 ++ ByteArray.mk #[44, 32] ++ strB q1 ++ ByteArray.mk #[44, 32] ++ strB q2 ++ ByteArray.mk #[41] = strB ([105, 102, 40] ++ q0 ++ [44, 32] ++ q1 ++ [44, 32] ++ q2 ++ [41])) := cat_eq E5.out (strB_mk [41]).symm
  have z1 : ¬ 9223372036854775807 < (ByteArray.mk #[105, 102, 40]).size + (strB q0).size := cat_sz (strB_mk [105, 102, 40]).symm rfl (by have := HQ.out; simp only [List.length_append, List.length_cons, List.length_nil]; omega)
  have z2 : ¬ 9223372036854775807 < (ByteArray.mk #[105, 102, 40] ++ strB q0).size + (ByteArray.mk #[44, 32]).size := cat_sz E1.out (strB_mk [44, 32]).symm (by have := HQ.out; simp only [List.length_append, List.length_cons, List.length_nil]; omega)
  have z3 : ¬ 9223372036854775807 < (ByteArray.mk #[105, 102, 40] ++ strB q0 ++ ByteArray.mk #[44, 32]).size + (strB q1).size := cat_sz E2.out rfl (by have := HQ.out; simp only [List.length_append, List.length_cons, List.length_nil]; omega)
  have z4 : ¬ 9223372036854775807 < (ByteArray.mk #[105, 102, 40] ++ strB q0 ++ ByteArray.mk #[44, 32] ++ strB q1).size + (ByteArray.mk #[44, 32]).size := cat_sz E3.out (strB_mk [44, 32]).symm (by have := HQ.out; simp only [List.length_append, List.length_cons, List.length_nil]; omega)
  have z5 : ¬ 9223372036854775807 < (ByteArray.mk #[105, 102, 40] ++ strB q0 ++ ByteArray.mk #[44, 32] ++ strB q1 ++ ByteArray.mk #[44, 32]).size + (strB q2).size := cat_sz E4.out rfl (by have := HQ.out; simp only [List.length_append, List.length_cons, List.length_nil]; omega)
  have z6 : ¬ 9223372036854775807 < (ByteArray.mk #[105, 102, 40] ++ strB q0 ++ ByteArray.mk #[44, 32] ++ strB q1 ++ ByteArray.mk #[44, 32] ++ strB q2).size + (ByteArray.mk #[41]).size := cat_sz E5.out (strB_mk [41]).symm (by have := HQ.out; simp only [List.length_append, List.length_cons, List.length_nil]; omega)
  clear HT0 HT1 HT2 hl E1 E2 E3 E4 E5
  rw [← E6.out]
  obtain ⟨b0, b1, b2⟩ := F1.out
  have K : Hid (Below (w.alloc (.cells #[.int .i64 6, .int .i64 n, .slice a ks.length c] 24)).heap.size (w.alloc (.cells #[.int .i64 6, .int .i64 n, .slice a ks.length c] 24)) (w.alloc (.cells #[.int .i64 6, .int .i64 n, .slice a ks.length c] 24))) := Below.refl _ _
  go_enter Tryz.func13, Tryz.ntmps13
  go_wp2_with fail
  refine (c1_call K.out F1.out (fun hb => CK0.out _ hb)).mono ?_
  clear K b0 b1 b2
  rintro e w0 ⟨he, K, b0, b1, b2⟩
  subst he
  go_wp2_with fail
  refine (c1_call K.out F1.out (fun hb => CK1.out _ hb)).mono ?_
  clear K b0 b1 b2
  rintro e w1 ⟨he, K, b0, b1, b2⟩
  subst he
  go_wp2_with fail
  refine (c1_call K.out F1.out (fun hb => CK2.out _ hb)).mono ?_
  clear K b0 b1 b2
  rintro e w2 ⟨he, K, b0, b1, b2⟩
  subst he
  go_wp2_with fail
  go_ret
  exact ⟨rfl, fstep BU.out K.out⟩

set_option maxRecDepth 100000 in
set_option maxHeartbeats 4000000 in
theorem rtext_bin (names : List ByteArray) (n : Int) (ks : List Ex) (w : World) (a na : Option Addr) (c nc nl : Nat) (hx : X w ⟨5, n, ks⟩ a) (hn : Nms w na nl names) (hs : sizeF ⟨5, n, ks⟩ ≤ 1000000) (hl : (textF names ⟨5, n, ks⟩).length ≤ 1000000) (hr : ∀ x, x ∈ ks → RText names x) :
    Calls Tryz.prog 13 #[.agg #[.int .i64 5, .int .i64 n, .slice a ks.length c], .slice na nl nc] w fun e w' => e = .returned (.string (strB (textF names ⟨5, n, ks⟩))) ∧ Below w.heap.size w w' := by
  have ET : textF names ⟨5, n, ks⟩ = br (isBin (ks.getD 0 nilEx) && decide (strengthF (ks.getD 0 nilEx).num < strengthF n)) (textF names (ks.getD 0 nilEx)) ++ [32] ++ (signF n).data.toList ++ [32] ++ br (isBin (ks.getD 1 nilEx) && decide (strengthF (ks.getD 1 nilEx).num ≤ strengthF n)) (textF names (ks.getD 1 nilEx)) := by rw [text_eq]; simp only [textN]; rw [text_kid, text_kid]; rfl
  rw [ET] at hl ⊢
  have hlen : ks.length ≤ 1000000 := by have := len_size 5 n ks; omega
  have HLk : Hid (∀ i, sizeF (ks.getD i nilEx) ≤ 1000000) := fun i => size_at (names := names) hs i
  have F1 : Hid (C1 w.heap.size 5 n a ks.length c (w.alloc (.cells #[.int .i64 5, .int .i64 n, .slice a ks.length c] 24))) := cell3_new w _ _ _ _
  have XU : Hid (X (w.alloc (.cells #[.int .i64 5, .int .i64 n, .slice a ks.length c] 24)) ⟨5, n, ks⟩ a) := hx.below (al1 _ _)
  have NU : Hid (Nms (w.alloc (.cells #[.int .i64 5, .int .i64 n, .slice a ks.length c] 24)) na nl names) := hn.below (al1 _ _)
  have HR : Hid (∀ x, x ∈ ks → RText names x) := hr
  have BU : Hid (Below w.heap.size w (w.alloc (.cells #[.int .i64 5, .int .i64 n, .slice a ks.length c] 24))) := al1 _ _
  simp only [List.length_append, List.length_cons, List.length_nil] at hl
  have bl0 := br_len (isBin (ks.getD 0 nilEx) && decide (strengthF (ks.getD 0 nilEx).num < strengthF n)) (textF names (ks.getD 0 nilEx))
  have bl1 := br_len (isBin (ks.getD 1 nilEx) && decide (strengthF (ks.getD 1 nilEx).num ≤ strengthF n)) (textF names (ks.getD 1 nilEx))
  have HT0 : Hid ((textF names (ks.getD 0 nilEx)).length ≤ 1000000) := by unfold Hid; omega
  have HT1 : Hid ((textF names (ks.getD 1 nilEx)).length ≤ 1000000) := by unfold Hid; omega
  have HB0 : Hid (¬ 0 < ks.length → (isBin (ks.getD 0 nilEx) && decide (strengthF (ks.getD 0 nilEx).num < strengthF n)) = false) := fun h => by rw [bin_not h]; rfl
  have HB1 : Hid (¬ 1 < ks.length → (isBin (ks.getD 1 nilEx) && decide (strengthF (ks.getD 1 nilEx).num ≤ strengthF n)) = false) := fun h => by rw [bin_not h]; rfl
  have LB0 : Hid (looseB ks 0 (strengthF n) = (isBin (ks.getD 0 nilEx) && decide (strengthF (ks.getD 0 nilEx).num < strengthF n))) := loose_at ks 0 _
  have LB1 : Hid (looseB ks 1 (strengthF n + 1) = (isBin (ks.getD 1 nilEx) && decide (strengthF (ks.getD 1 nilEx).num ≤ strengthF n))) := by rw [Hid, loose_at ks 1 _]; congr 1; exact decide_eq_decide.2 (by omega)
  have CK0 : Hid (∀ wx, Below (w.alloc (.cells #[.int .i64 5, .int .i64 n, .slice a ks.length c] 24)).heap.size (w.alloc (.cells #[.int .i64 5, .int .i64 n, .slice a ks.length c] 24)) wx → Calls Tryz.prog 26 #[.agg #[.int .i64 5, .int .i64 n, .slice a ks.length c], .int .i64 0, .slice na nl nc, .bool (isBin (ks.getD 0 nilEx) && decide (strengthF (ks.getD 0 nilEx).num < strengthF n))] wx fun e w' => e = .returned (.string (strB (br (isBin (ks.getD 0 nilEx) && decide (strengthF (ks.getD 0 nilEx).num < strengthF n)) (textF names (ks.getD 0 nilEx))))) ∧ Below wx.heap.size wx w') := fun wx hb =>
    kid_any names 5 n ks wx a na c nc nl 0 _ (XU.out.below hb) (NU.out.below hb) (by omega) hlen (HLk.out 0) HT0.out HR.out HB0.out
  have CK1 : Hid (∀ wx, Below (w.alloc (.cells #[.int .i64 5, .int .i64 n, .slice a ks.length c] 24)).heap.size (w.alloc (.cells #[.int .i64 5, .int .i64 n, .slice a ks.length c] 24)) wx → Calls Tryz.prog 26 #[.agg #[.int .i64 5, .int .i64 n, .slice a ks.length c], .int .i64 1, .slice na nl nc, .bool (isBin (ks.getD 1 nilEx) && decide (strengthF (ks.getD 1 nilEx).num ≤ strengthF n))] wx fun e w' => e = .returned (.string (strB (br (isBin (ks.getD 1 nilEx) && decide (strengthF (ks.getD 1 nilEx).num ≤ strengthF n)) (textF names (ks.getD 1 nilEx))))) ∧ Below wx.heap.size wx w') := fun wx hb =>
    kid_any names 5 n ks wx a na c nc nl 1 _ (XU.out.below hb) (NU.out.below hb) (by omega) hlen (HLk.out 1) HT1.out HR.out HB1.out
  have hst : 0 ≤ strengthF n ∧ strengthF n < 9 := ⟨strength_ge0 n, strength_lt9 n⟩
  have hwr : IntKind.i64.wrap (strengthF n + 1) = strengthF n + 1 := wrap_in ⟨by omega, by omega⟩
  have ESG : Hid (strB (signF n).data.toList = signF n) := by unfold Hid strB; cases (signF n); simp
  have HQ : Hid ((br (isBin (ks.getD 0 nilEx) && decide (strengthF (ks.getD 0 nilEx).num < strengthF n)) (textF names (ks.getD 0 nilEx))).length ≤ 1000000 ∧ (br (isBin (ks.getD 1 nilEx) && decide (strengthF (ks.getD 1 nilEx).num ≤ strengthF n)) (textF names (ks.getD 1 nilEx))).length ≤ 1000000 ∧ (signF n).data.toList.length ≤ 1000000) := ⟨by omega, by omega, by omega⟩
  clear hx hn hs hr ET HB0 HB1 HLk HT0 HT1 bl0 bl1 hl
  generalize (isBin (ks.getD 0 nilEx) && decide (strengthF (ks.getD 0 nilEx).num < strengthF n)) = p0 at *
  generalize (isBin (ks.getD 1 nilEx) && decide (strengthF (ks.getD 1 nilEx).num ≤ strengthF n)) = p1 at *
  generalize br p0 (textF names (ks.getD 0 nilEx)) = q0 at *
  generalize br p1 (textF names (ks.getD 1 nilEx)) = q1 at *
  have CSG : Hid (∀ wx, Calls Tryz.prog 29 #[.int .i64 n] wx fun e w' => e = .returned (.string (signF n)) ∧ Below wx.heap.size wx w') := fun wx => rsign_any n wx
  have CST : Hid (∀ wx, Calls Tryz.prog 28 #[.int .i64 n] wx fun e w' => e = .returned (.int .i64 (strengthF n)) ∧ Below wx.heap.size wx w') := fun wx => rstrength_any n wx
  have CL0 : Hid (∀ wx, Below (w.alloc (.cells #[.int .i64 5, .int .i64 n, .slice a ks.length c] 24)).heap.size (w.alloc (.cells #[.int .i64 5, .int .i64 n, .slice a ks.length c] 24)) wx → Calls Tryz.prog 27 #[.agg #[.int .i64 5, .int .i64 n, .slice a ks.length c], .int .i64 0, .int .i64 (strengthF n)] wx fun e w' => e = .returned (.bool p0) ∧ Below wx.heap.size wx w') := fun wx hb => by
    have h := loose_any 5 n ks wx a c 0 (strengthF n) (XU.out.below hb) (by omega) hlen
    rw [LB0.out] at h; exact h
  have CL1 : Hid (∀ wx, Below (w.alloc (.cells #[.int .i64 5, .int .i64 n, .slice a ks.length c] 24)).heap.size (w.alloc (.cells #[.int .i64 5, .int .i64 n, .slice a ks.length c] 24)) wx → Calls Tryz.prog 27 #[.agg #[.int .i64 5, .int .i64 n, .slice a ks.length c], .int .i64 1, .int .i64 (strengthF n + 1)] wx fun e w' => e = .returned (.bool p1) ∧ Below wx.heap.size wx w') := fun wx hb => by
    have h := loose_any 5 n ks wx a c 1 (strengthF n + 1) (XU.out.below hb) (by omega) hlen
    rw [LB1.out] at h; exact h
  generalize strengthF n = st at *
  generalize hsg : signF n = sg at *
  have E1 : Hid (strB q0 ++ ByteArray.mk #[32] = strB (q0 ++ [32])) := cat_eq rfl (strB_mk [32]).symm
  have E2 : Hid (strB q0 ++ ByteArray.mk #[32] ++ sg = strB (q0 ++ [32] ++ sg.data.toList)) := cat_eq E1.out ESG.out.symm
  have E3 : Hid (strB q0 ++ ByteArray.mk #[32] ++ sg ++ ByteArray.mk #[32] = strB (q0 ++ [32] ++ sg.data.toList ++ [32])) := cat_eq E2.out (strB_mk [32]).symm
  have E4 : Hid (strB q0 ++ ByteArray.mk #[32] ++ sg ++ ByteArray.mk #[32] ++ strB q1 = strB (q0 ++ [32] ++ sg.data.toList ++ [32] ++ q1)) := cat_eq E3.out rfl
  have z1 : ¬ 9223372036854775807 < (strB q0).size + (ByteArray.mk #[32]).size := cat_sz rfl (strB_mk [32]).symm (by have := HQ.out; simp only [List.length_append, List.length_cons, List.length_nil]; omega)
  have z2 : ¬ 9223372036854775807 < (strB q0 ++ ByteArray.mk #[32]).size + sg.size := cat_sz E1.out ESG.out.symm (by have := HQ.out; simp only [List.length_append, List.length_cons, List.length_nil]; omega)
  have z3 : ¬ 9223372036854775807 < (strB q0 ++ ByteArray.mk #[32] ++ sg).size + (ByteArray.mk #[32]).size := cat_sz E2.out (strB_mk [32]).symm (by have := HQ.out; simp only [List.length_append, List.length_cons, List.length_nil]; omega)
  have z4 : ¬ 9223372036854775807 < (strB q0 ++ ByteArray.mk #[32] ++ sg ++ ByteArray.mk #[32]).size + (strB q1).size := cat_sz E3.out rfl (by have := HQ.out; simp only [List.length_append, List.length_cons, List.length_nil]; omega)
  clear E1 E2 E3 hsg LB0 LB1
  rw [← E4.out]
  obtain ⟨b0, b1, b2⟩ := F1.out
  have K : Hid (Below (w.alloc (.cells #[.int .i64 5, .int .i64 n, .slice a ks.length c] 24)).heap.size (w.alloc (.cells #[.int .i64 5, .int .i64 n, .slice a ks.length c] 24)) (w.alloc (.cells #[.int .i64 5, .int .i64 n, .slice a ks.length c] 24))) := Below.refl _ _
  go_enter Tryz.func13, Tryz.ntmps13
  go_wp2_with fail
  refine (c1_call K.out F1.out (fun hb => CST.out _)).mono ?_
  clear K b0 b1 b2
  rintro e w1 ⟨he, K, b0, b1, b2⟩
  subst he
  go_wp2_with fail
  replace K : Hid (Below (w.alloc (.cells #[.int .i64 5, .int .i64 n, .slice a ks.length c] 24)).heap.size (w.alloc (.cells #[.int .i64 5, .int .i64 n, .slice a ks.length c] 24)) w1.drew) := K.out.drew
  go_region_held3 (fun w' => w'.cell? ⟨w.heap.size, 0, none⟩ = some (.int .i64 5) ∧ w'.cell? ⟨w.heap.size, 1, none⟩ = some (.int .i64 n) ∧ w'.cell? ⟨w.heap.size, 2, none⟩ = some (.slice a ks.length c)) (go_keep)
    (first
      | (go_at_call 27; refine (c1_call K.out F1.out (fun hb => CL0.out _ hb)).mono ?_; clear K b0 b1 b2; rintro e wx ⟨he, K, b0, b1, b2⟩; subst he)
      | (go_at_call 26; refine (c1_call K.out F1.out (fun hb => CK0.out _ hb)).mono ?_; clear K b0 b1 b2; rintro e wx ⟨he, K, b0, b1, b2⟩; subst he))
  all_goals
    go_wp2_with fail
    replace K : Hid (Below (w.alloc (.cells #[.int .i64 5, .int .i64 n, .slice a ks.length c] 24)).heap.size (w.alloc (.cells #[.int .i64 5, .int .i64 n, .slice a ks.length c] 24)) wx.drew) := K.out.drew
    go_region_held3 (fun w' => w'.cell? ⟨w.heap.size, 0, none⟩ = some (.int .i64 5) ∧ w'.cell? ⟨w.heap.size, 1, none⟩ = some (.int .i64 n) ∧ w'.cell? ⟨w.heap.size, 2, none⟩ = some (.slice a ks.length c)) (go_keep)
      (first
        | (go_at_call 27; refine (c1_call K.out F1.out (fun hb => CL1.out _ hb)).mono ?_; clear K b0 b1 b2; rintro e wx ⟨he, K, b0, b1, b2⟩; subst he)
        | (go_at_call 26; refine (c1_call K.out F1.out (fun hb => CK1.out _ hb)).mono ?_; clear K b0 b1 b2; rintro e wx ⟨he, K, b0, b1, b2⟩; subst he))
    all_goals
      go_wp2_with fail
      refine (c1_call K.out F1.out (fun hb => CSG.out _)).mono ?_
      clear K b0 b1 b2
      rintro e w9 ⟨he, K, b0, b1, b2⟩
      subst he
      go_wp2_with fail
      go_ret
      exact ⟨rfl, fstep BU.out K.out⟩

/-- the document's own Text -/
theorem rtext_all (names : List ByteArray) : ∀ t, RText names t := by
  refine Ex.ind fun k n ks ih w a na c nc nl hx hn hs hl => ?_
  show Calls Tryz.prog 13 #[.agg #[.int .i64 k, .int .i64 n, .slice a ks.length c], .slice na nl nc] w _
  by_cases h1 : k = 1
  · subst h1; exact rtext_num names n ks w a na c nc nl hx hn hs hl ih
  by_cases h2 : k = 2
  · subst h2; exact rtext_var names n ks w a na c nc nl hx hn hs hl ih
  by_cases h3 : k = 3
  · subst h3; exact rtext_neg names n ks w a na c nc nl hx hn hs hl ih
  by_cases h4 : k = 4
  · subst h4; exact rtext_not names n ks w a na c nc nl hx hn hs hl ih
  by_cases h5 : k = 5
  · subst h5; exact rtext_bin names n ks w a na c nc nl hx hn hs hl ih
  by_cases h6 : k = 6
  · subst h6; exact rtext_if names n ks w a na c nc nl hx hn hs hl ih
  exact rtext_none names k n ks w a na c nc nl hx hn hs hl ih ⟨h1, h2, h3, h4, h5, h6⟩
end Go.Proofs.YtnhhajbfohjlbaaGreatDoor.Expr
