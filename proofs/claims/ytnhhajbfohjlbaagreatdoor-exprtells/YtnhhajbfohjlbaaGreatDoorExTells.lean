/- The ways through ExprTells, over the turned program; the last one behind a contract of the document's own Vars. -/
import Derived.Test.YtnhhajbfohjlbaaGreatDoorExTextLen
import Derived.Test.YtnhhajbfohjlbaaGreatDoorExRef2
import Derived.Test.YtnhhajbfohjlbaaGreatDoorExVarsP
namespace Go.Proofs.YtnhhajbfohjlbaaGreatDoor.Expr
open Go.RowKit Go.Proofs.YtnhhajbfohjlbaaGreatDoor.Frame Go.Proofs.YtnhhajbfohjlbaaGreatDoor.Calc
set_option linter.unusedVariables false
set_option linter.unusedSimpArgs false

set_option maxRecDepth 100000 in
set_option maxHeartbeats 4000000 in
theorem tells_1 (t : Ex) (a : Option Addr) (c : Nat) (vars : Int) (na : Option Addr) (nl nc : Nat) (names : List ByteArray) (w : World) (hx : X w t a) (hn : Nms w na nl names) (hT : Lib.TabIs Tryz.prog w tabName .u64 Lib.pow10Tab) (ht : fewB t = false) :
    Calls Tryz.prog 3 #[exV t a c, .int .i64 vars, .slice na nl nc] w fun e w' => e = .returned (.bool true) ∧ Below w.heap.size w w' := by
  have KB : Hid (Bs _ w.heap.size w.heap.size t t a a c c _) := bs_one w t a c
  have B0 : Hid (Below w.heap.size w (w.alloc (.cells #[.int .i64 t.kind, .int .i64 t.num, .slice a t.kids.length c] 24))) := al1 _ _
  have HX : Hid (X (w.alloc (.cells #[.int .i64 t.kind, .int .i64 t.num, .slice a t.kids.length c] 24)) t a) := hx.below B0.out
  have T0 : Hid (Lib.TabBelow Tryz.prog (w.alloc (.cells #[.int .i64 t.kind, .int .i64 t.num, .slice a t.kids.length c] 24)).heap.size _ tabName .u64 Lib.pow10Tab) := Lib.tabBelow_of_tabIs (Lib.tabBelow_of_tabIs hT _ B0.out)
  have Ft : Hid (fewB t = false) := ht
  clear hx hT ht hn
  go_enter Tryz.func3, Tryz.ntmps3
  go_wp2_with fail
  refine (Bs.call (by first | exact KB.out | exact KB.out.al _ | exact (KB.out.al _).al _) (fun hb => small_any _ (Lib.tabBelow_of_tabIs (T0.out _ hb)))).mono ?_
  clear KB
  rintro e w1 ⟨he, KB, ⟨⟨b0, b1, b2⟩, bl⟩, ⟨d0, d1, d2⟩, dl⟩
  subst he
  go_wp2_with fail
  refine (Bs.call (by first | exact KB.out | exact KB.out.al _ | exact (KB.out.al _).al _) (fun hb => Few_any t _ a c (HX.out.below hb))).mono ?_
  clear KB b0 b1 b2 bl d0 d1 d2 dl
  rintro e w2 ⟨he, KB, ⟨⟨b0, b1, b2⟩, bl⟩, ⟨d0, d1, d2⟩, dl⟩
  rw [Ft.out] at he
  subst he
  go_wp2_with fail
  go_ret
  first | exact ⟨rfl, bs_end B0.out KB.out⟩ | exact ⟨rfl, bs_end B0.out (KB.out.al _)⟩ | exact ⟨rfl, bs_end B0.out ((KB.out.al _).al _)⟩

set_option maxRecDepth 100000 in
set_option maxHeartbeats 4000000 in
theorem tells_2 (t : Ex) (a : Option Addr) (c : Nat) (vars : Int) (na : Option Addr) (nl nc : Nat) (names : List ByteArray) (w : World) (hx : X w t a) (hn : Nms w na nl names) (hT : Lib.TabIs Tryz.prog w tabName .u64 Lib.pow10Tab) (ht : fewB t = true) (hc : (20 : Int) < nl) :
    Calls Tryz.prog 3 #[exV t a c, .int .i64 vars, .slice na nl nc] w fun e w' => e = .returned (.bool true) ∧ Below w.heap.size w w' := by
  have KB : Hid (Bs _ w.heap.size w.heap.size t t a a c c _) := bs_one w t a c
  have B0 : Hid (Below w.heap.size w (w.alloc (.cells #[.int .i64 t.kind, .int .i64 t.num, .slice a t.kids.length c] 24))) := al1 _ _
  have HX : Hid (X (w.alloc (.cells #[.int .i64 t.kind, .int .i64 t.num, .slice a t.kids.length c] 24)) t a) := hx.below B0.out
  have T0 : Hid (Lib.TabBelow Tryz.prog (w.alloc (.cells #[.int .i64 t.kind, .int .i64 t.num, .slice a t.kids.length c] 24)).heap.size _ tabName .u64 Lib.pow10Tab) := Lib.tabBelow_of_tabIs (Lib.tabBelow_of_tabIs hT _ B0.out)
  have Ft : Hid (fewB t = true) := ht
  clear hx hT ht hn
  go_enter Tryz.func3, Tryz.ntmps3
  go_wp2_with fail
  refine (Bs.call (by first | exact KB.out | exact KB.out.al _ | exact (KB.out.al _).al _) (fun hb => small_any _ (Lib.tabBelow_of_tabIs (T0.out _ hb)))).mono ?_
  clear KB
  rintro e w1 ⟨he, KB, ⟨⟨b0, b1, b2⟩, bl⟩, ⟨d0, d1, d2⟩, dl⟩
  subst he
  go_wp2_with fail
  refine (Bs.call (by first | exact KB.out | exact KB.out.al _ | exact (KB.out.al _).al _) (fun hb => Few_any t _ a c (HX.out.below hb))).mono ?_
  clear KB b0 b1 b2 bl d0 d1 d2 dl
  rintro e w2 ⟨he, KB, ⟨⟨b0, b1, b2⟩, bl⟩, ⟨d0, d1, d2⟩, dl⟩
  rw [Ft.out] at he
  subst he
  go_wp2_with fail
  go_ret
  first | exact ⟨rfl, bs_end B0.out KB.out⟩ | exact ⟨rfl, bs_end B0.out (KB.out.al _)⟩ | exact ⟨rfl, bs_end B0.out ((KB.out.al _).al _)⟩

/-- numbers of the call's own, as a post beside Below -/
theorem nums_call {zs : List Int} {w : World} {f : Nat} {args : Array Value} (h : Calls Tryz.prog f args w (NumsPost zs w)) : Calls Tryz.prog f args w fun e w' => (∃ a' c', e = .returned (.slice a' zs.length c') ∧ Hid (Nm w' a' zs.length zs)) ∧ Below w.heap.size w w' :=
  h.mono fun e w' h => by obtain ⟨a', c', h1, h2, h3⟩ := h; exact ⟨⟨a', c', h1, h2⟩, h3⟩
theorem Nms.env {w : World} {a : Option Addr} {len : Nat} {zs : List ByteArray} (h : Nms w a len zs) (hT : Lib.TabBelow Tryz.prog w.heap.size w tabName .u64 Lib.pow10Tab) : Env w.heap.size a zs w := ⟨h.2, hT⟩
theorem names_long {names : List ByteArray} (h : ∀ i, i < names.length → (names.getD i ByteArray.empty).size ≤ 100) : ∀ i, (names.getD i ByteArray.empty).data.toList.length ≤ 100 := fun i => by
  by_cases hi : i < names.length
  · have := h i hi
    generalize names.getD i ByteArray.empty = s at *
    cases s; simpa [ByteArray.size] using this
  · rw [List.getD_eq_getElem?_getD, List.getElem?_eq_none (by omega)]; exact (by decide : ByteArray.empty.data.toList.length ≤ 100)

theorem varsS_le (t : Ex) : (varsS t).length ≤ sizeF t := by
  have h1 := Lib.compact_length_le ((varsF t).mergeSort fun x y => decide (x ≤ y))
  have h2 : ((varsF t).mergeSort fun x y => decide (x ≤ y)).length = (varsF t).length := List.length_mergeSort _
  have h3 := vars_len t
  unfold varsS
  omega

set_option maxRecDepth 100000 in
set_option maxHeartbeats 4000000 in
theorem tells_3 (t : Ex) (a : Option Addr) (c : Nat) (vars : Int) (na : Option Addr) (nl nc : Nat) (names : List ByteArray) (w : World) (hx : X w t a) (hn : Nms w na nl names) (hT : Lib.TabIs Tryz.prog w tabName .u64 Lib.pow10Tab) (ht : fewB t = true) (hc : ¬ (20 : Int) < nl) (HV : ∀ wx, X wx t a → Calls Tryz.prog 16 #[exV t a c] wx (NumsPost (varsS t) wx)) :
    Calls Tryz.prog 3 #[exV t a c, .int .i64 vars, .slice na nl nc] w fun e w' => e = .returned (.bool true) ∧ Below w.heap.size w w' := by
  have KB : Hid (Bs _ w.heap.size w.heap.size t t a a c c _) := bs_one w t a c
  have B0 : Hid (Below w.heap.size w (w.alloc (.cells #[.int .i64 t.kind, .int .i64 t.num, .slice a t.kids.length c] 24))) := al1 _ _
  have HX : Hid (X (w.alloc (.cells #[.int .i64 t.kind, .int .i64 t.num, .slice a t.kids.length c] 24)) t a) := hx.below B0.out
  have T0 : Hid (Lib.TabBelow Tryz.prog (w.alloc (.cells #[.int .i64 t.kind, .int .i64 t.num, .slice a t.kids.length c] 24)).heap.size _ tabName .u64 Lib.pow10Tab) := Lib.tabBelow_of_tabIs (Lib.tabBelow_of_tabIs hT _ B0.out)
  have Ft : Hid (fewB t = true) := ht
  have ST : Hid (sizeF t ≤ 1000000) := Nat.le_trans (fewB_size ht) (by decide)
  have S4 : Hid (sizeF t ≤ 499) := fewB_size ht
  have NU : Hid (Nms (w.alloc (.cells #[.int .i64 t.kind, .int .i64 t.num, .slice a t.kids.length c] 24)) na nl names) := hn.below B0.out
  have HNL : Hid (names.length = nl) := hn.1
  have hc' : ¬ (20 : Int) < nl := hc
  have HVV : Hid (∀ wx, X wx t a → Calls Tryz.prog 16 #[exV t a c] wx (NumsPost (varsS t) wx)) := HV
  clear hx hT ht hn hc HV
  go_enter Tryz.func3, Tryz.ntmps3
  go_wp2_with fail
  refine (Bs.call (by first | exact KB.out | exact KB.out.al _ | exact (KB.out.al _).al _) (fun hb => small_any _ (Lib.tabBelow_of_tabIs (T0.out _ hb)))).mono ?_
  clear KB
  rintro e w1 ⟨he, KB, ⟨⟨b0, b1, b2⟩, bl⟩, ⟨d0, d1, d2⟩, dl⟩
  subst he
  go_wp2_with fail
  refine (Bs.call (by first | exact KB.out | exact KB.out.al _ | exact (KB.out.al _).al _) (fun hb => Few_any t _ a c (HX.out.below hb))).mono ?_
  clear KB b0 b1 b2 bl d0 d1 d2 dl
  rintro e w2 ⟨he, KB, ⟨⟨b0, b1, b2⟩, bl⟩, ⟨d0, d1, d2⟩, dl⟩
  rw [Ft.out] at he
  subst he
  go_wp2_with fail
  go_loopw [9] (fun i wr => ∃ j : Nat, j ≤ nl ∧ i = .int .i64 j ∧ Hid (∀ i, i < j → (names.getD i ByteArray.empty).size ≤ 100) ∧ wr = w2) (fun i _ => nl - (intOf i).toNat)
  case atStart => exact ⟨0, by omega, rfl, fun i hi => (by omega), rfl⟩
  case round =>
    obtain ⟨j, hj, rfl, hok, hw⟩ := hrel
    have hw := hw.symm
    subst hw
    by_cases hlt : j < nl
    · have hlt' : (j : Int) < nl := by omega
      obtain ⟨nb, no, hna, hnb, hcj⟩ : ∃ b off, na = some ⟨b, off, none⟩ ∧ b < w2.heap.size ∧ w2.cell? ⟨b, off + j, none⟩ = some (.string (names.getD j ByteArray.empty)) := by
        have h1 := NU.out.below KB.out.1
        rcases h1.2 with h0 | ⟨b, off, ha, hB, hc⟩
        · have := HNL.out; omega
        · exact ⟨b, off, ha, hB, hc j (by rw [HNL.out]; exact hlt)⟩
      subst hna
      have OK2 : Hid ((names.getD j ByteArray.empty).size ≤ 100 → ∀ i, i < j + 1 → (names.getD i ByteArray.empty).size ≤ 100) := fun h i hi => by
        by_cases hij : i < j
        · exact hok.out i hij
        · obtain rfl : i = j := by omega
          exact h
      clear hok
      generalize names.getD j ByteArray.empty = s at *
      by_cases hs : (100 : Int) < s.size
      · go_wp2_with fail
        go_ret
        exact ⟨rfl, bs_end B0.out KB.out⟩
      · have hs' : s.size ≤ 100 := by omega
        go_wp2_with fail
        go_roundw
        case rel => exact ⟨j + 1, by omega, by go_num, OK2.out hs', by trivial⟩
        case measure => simp [intOf]; omega
    · obtain rfl : j = nl := by omega
      have hlt' : ¬ (j : Int) < j := by omega
      have TL : Hid ((textF names t).length ≤ 1000000) := by
        have h1 := text_len names (names_long fun i hi => hok.out i (by rw [← HNL.out]; exact hi)) _ t a HX.out
        have h2 := S4.out
        unfold Hid; omega
      clear hok
      have F1 : Hid (C1 w.heap.size t.kind t.num a t.kids.length c w2) := ⟨b0, b1, b2⟩
      have XU : Hid (X w2 t a) := HX.out.below KB.out.1
      have NW : Hid (Nms w2 na j names) := NU.out.below KB.out.1
      have TU : Hid (Lib.TabBelow Tryz.prog w2.heap.size w2 tabName .u64 Lib.pow10Tab) := Lib.tabBelow_of_tabIs (T0.out _ KB.out.1)
      have BU : Hid (Below w.heap.size w w2) := bs_end B0.out KB.out
      clear KB bl d0 d1 d2 dl HX NU T0 B0 Ft
      go_wp2_with fail
      have K : Hid (Below w2.heap.size w2 w2.drew) := (Below.refl _ _).drew
      obtain ⟨Q, hQ⟩ : ∃ Q, Q = strB (textF names t) := ⟨_, rfl⟩
      have CT1 : Hid (∀ wx, Below w2.heap.size w2 wx → Calls Tryz.prog 12 #[exV t a c, .slice na j nc] wx fun e w' => e = .returned (.string Q) ∧ Below wx.heap.size wx w') := fun wx hb => by rw [hQ]; exact text_any names t _ a na c nc j HNL.out.symm (XU.out.below hb) ((NW.out.below hb).env (Lib.tabBelow_of_tabIs (TU.out _ hb))) ST.out TL.out
      have CT2 : Hid (∀ wx, Below w2.heap.size w2 wx → Calls Tryz.prog 13 #[exV t a c, .slice na j nc] wx fun e w' => e = .returned (.string Q) ∧ Below wx.heap.size wx w') := fun wx hb => by rw [hQ]; exact rtext_all names t _ a na c nc j (XU.out.below hb) (NW.out.below hb) ST.out TL.out
      clear hQ
      have HLV : Hid ((varsS t).length ≤ 1000000) := Nat.le_trans (varsS_le t) ST.out
      have EQI : Hid (eqI (varsS t) (varsS t) = true) := decide_eq_true rfl
      go_region_held3 (fun w' => w'.cell? ⟨w.heap.size, 0, none⟩ = some (.int .i64 t.kind) ∧ w'.cell? ⟨w.heap.size, 1, none⟩ = some (.int .i64 t.num) ∧ w'.cell? ⟨w.heap.size, 2, none⟩ = some (.slice a t.kids.length c)) (go_keep)
        (first
          | (go_at_call 6; refine (c1_call K.out F1.out (fun hb => right_any t _ a c vars (XU.out.below hb))).mono ?_; clear K b0 b1 b2; rintro e wx ⟨he, K, b0, b1, b2⟩; subst he)
          | (go_at_call 7; refine (c1_call K.out F1.out (fun hb => rright_any t _ a c vars (XU.out.below hb) ST.out)).mono ?_; clear K b0 b1 b2; rintro e wx ⟨he, K, b0, b1, b2⟩; subst he)
          | (go_at_call 8; refine (c1_call K.out F1.out (fun hb => depth_any t _ a c (XU.out.below hb) ST.out)).mono ?_; clear K b0 b1 b2; rintro e wx ⟨he, K, b0, b1, b2⟩; subst he)
          | (go_at_call 9; refine (c1_call K.out F1.out (fun hb => rdepth_any t _ a c (XU.out.below hb) ST.out)).mono ?_; clear K b0 b1 b2; rintro e wx ⟨he, K, b0, b1, b2⟩; subst he)
          | (go_at_call 10; refine (c1_call K.out F1.out (fun hb => size_any t _ a c (XU.out.below hb) ST.out)).mono ?_; clear K b0 b1 b2; rintro e wx ⟨he, K, b0, b1, b2⟩; subst he)
          | (go_at_call 11; refine (c1_call K.out F1.out (fun hb => rsize_any t _ a c (XU.out.below hb) ST.out)).mono ?_; clear K b0 b1 b2; rintro e wx ⟨he, K, b0, b1, b2⟩; subst he)
          | (go_at_call 12; refine (c1_call K.out F1.out (fun hb => CT1.out _ hb)).mono ?_; clear K b0 b1 b2; rintro e wx ⟨he, K, b0, b1, b2⟩; subst he)
          | (go_at_call 13; refine (c1_call K.out F1.out (fun hb => CT2.out _ hb)).mono ?_; clear K b0 b1 b2; rintro e wx ⟨he, K, b0, b1, b2⟩; subst he)
          | (go_at_call 15; refine (c1_call K.out F1.out (fun hb => nums_call (vars_any t _ a c (XU.out.below hb) ST.out))).mono ?_; clear K b0 b1 b2; rintro e wx ⟨⟨va, vc, he, HV1⟩, K, b0, b1, b2⟩; subst he; have HVB : Hid (∀ wy, Below wx.heap.size wx wy → Nm wy va (varsS t).length (varsS t)) := fun wy h => HV1.out.below h)
          | (go_at_call 16; refine (c1_call K.out F1.out (fun hb => ((nums_call (HVV.out _ (XU.out.below hb))).mono fun e w' h => ⟨⟨h.1, HVB.out _ h.2⟩, h.2⟩ : Calls Tryz.prog _ _ _ fun e w' => ((∃ a' c', e = .returned (.slice a' (varsS t).length c') ∧ Hid (Nm w' a' (varsS t).length (varsS t))) ∧ Nm w' va (varsS t).length (varsS t)) ∧ Below _ _ w'))).mono ?_; clear K b0 b1 b2; rintro e wx ⟨⟨⟨vb, vd, he, HV2⟩, HV3⟩, K, b0, b1, b2⟩; subst he; replace HV3 : Hid (Nm wx va (varsS t).length (varsS t)) := HV3)
          | (go_at_call 14; refine (c1_call K.out F1.out (fun hb => ints_any va vb _ vc _ vd (varsS t) (varsS t) _ HV3.out HV2.out HLV.out HLV.out)).mono ?_; clear K b0 b1 b2; rintro e wx ⟨he, K, b0, b1, b2⟩; rw [EQI.out] at he; subst he))
      all_goals
        go_wp2_with fail
        go_ret
        exact ⟨rfl, fstep BU.out K.out⟩

end Go.Proofs.YtnhhajbfohjlbaaGreatDoor.Expr
