/- The document's own Text, kind by kind: contracts of the calls, over the turned program. -/
import Derived.Test.YtnhhajbfohjlbaaGreatDoorExRText
namespace Go.Proofs.YtnhhajbfohjlbaaGreatDoor.Expr
open Go.RowKit Go.Proofs.YtnhhajbfohjlbaaGreatDoor.Frame Go.Proofs.YtnhhajbfohjlbaaGreatDoor.Calc
set_option linter.unusedVariables false
set_option linter.unusedSimpArgs false

theorem strength_lt9 (op : Int) : strengthF op < 9 := by
  unfold strengthF
  repeat' split
  all_goals omega
theorem strength_ge0 (op : Int) : 0 ≤ strengthF op := by
  unfold strengthF
  repeat' split
  all_goals omega
theorem loose9 (ks : List Ex) : looseB ks 0 9 = isBin (ks.getD 0 nilEx) := by
  by_cases h : 0 < ks.length
  · unfold looseB; rw [decide_eq_true h, decide_eq_true (strength_lt9 _)]; simp
  · rw [loose_nil h]
    rw [show ks.getD 0 nilEx = nilEx by rw [List.getD_eq_getElem?_getD, List.getElem?_eq_none (by omega)]; rfl]; rfl
theorem loose_at (ks : List Ex) (i : Nat) (s : Int) : looseB ks i s = (isBin (ks.getD i nilEx) && decide (strengthF (ks.getD i nilEx).num < s)) := by
  by_cases h : i < ks.length
  · unfold looseB; rw [decide_eq_true h]; simp
  · rw [loose_nil h]
    rw [show ks.getD i nilEx = nilEx by rw [List.getD_eq_getElem?_getD, List.getElem?_eq_none (by omega)]; rfl]; rfl
/-- a box -/
def C1 (E : Nat) (k n : Int) (a : Option Addr) (len c : Nat) (w' : World) : Prop := w'.cell? ⟨E, 0, none⟩ = some (.int .i64 k) ∧ w'.cell? ⟨E, 1, none⟩ = some (.int .i64 n) ∧ w'.cell? ⟨E, 2, none⟩ = some (.slice a len c)
theorem c1_call {U wx : World} {E : Nat} {k n : Int} {a : Option Addr} {len c : Nat} {f : Nat} {args : Array Value} {Q : Ending → World → Prop} (h : Below U.heap.size U wx) (h1 : C1 E k n a len c U) (hc : Below U.heap.size U wx → Calls Tryz.prog f args wx fun e w' => Q e w' ∧ Below wx.heap.size wx w') :
    Calls Tryz.prog f args wx fun e w' => Q e w' ∧ Hid (Below U.heap.size U w') ∧ C1 E k n a len c w' :=
  (hc h).mono fun e w' h' => ⟨h'.1, fstep h h'.2, (show Cell3 U E _ _ _ from h1).below (fstep h h'.2)⟩
theorem size_at {names : List ByteArray} {k n : Int} {ks : List Ex} (h : sizeF ⟨k, n, ks⟩ ≤ 1000000) (i : Nat) : sizeF (ks.getD i nilEx) ≤ 1000000 := by
  by_cases hi : i < ks.length
  · have := size_kid (k := k) (n := n) (getD_mem hi); omega
  · rw [show ks.getD i nilEx = nilEx by rw [List.getD_eq_getElem?_getD, List.getElem?_eq_none (by omega)]; rfl]
    unfold nilEx; rw [size_eq]; simp [sm]
theorem br_len (b : Bool) (l : List UInt8) : l.length ≤ (br b l).length := by cases b <;> simp [br]; omega
theorem bin_not {ks : List Ex} {i : Nat} (h : ¬ i < ks.length) : isBin (ks.getD i nilEx) = false := by
  rw [show ks.getD i nilEx = nilEx by rw [List.getD_eq_getElem?_getD, List.getElem?_eq_none (by omega)]; rfl]; rfl
theorem str_sz (l m : List UInt8) (h : l.length + m.length ≤ 9000000000000000000) : ¬ 9223372036854775807 < (strB l).size + (strB m).size := by rw [strB_size, strB_size]; omega

set_option maxRecDepth 100000 in
set_option maxHeartbeats 4000000 in
theorem rtext_neg (names : List ByteArray) (n : Int) (ks : List Ex) (w : World) (a na : Option Addr) (c nc nl : Nat) (hx : X w ⟨3, n, ks⟩ a) (hn : Nms w na nl names) (hs : sizeF ⟨3, n, ks⟩ ≤ 1000000) (hl : (textF names ⟨3, n, ks⟩).length ≤ 1000000) (hr : ∀ x, x ∈ ks → RText names x) :
    Calls Tryz.prog 13 #[.agg #[.int .i64 3, .int .i64 n, .slice a ks.length c], .slice na nl nc] w fun e w' => e = .returned (.string (strB (textF names ⟨3, n, ks⟩))) ∧ Below w.heap.size w w' := by
  have ET : textF names ⟨3, n, ks⟩ = 45 :: br (isBin (ks.getD 0 nilEx)) (textF names (ks.getD 0 nilEx)) := by rw [text_eq]; simp only [textN]; rw [text_kid]; rfl
  rw [ET] at hl ⊢
  have hlen : ks.length ≤ 1000000 := by have := len_size 3 n ks; omega
  have HLk : Hid (∀ i, sizeF (ks.getD i nilEx) ≤ 1000000) := fun i => size_at (names := names) hs i
  have F1 : Hid (C1 w.heap.size 3 n a ks.length c (w.alloc (.cells #[.int .i64 3, .int .i64 n, .slice a ks.length c] 24))) := cell3_new w _ _ _ _
  have XU : Hid (X (w.alloc (.cells #[.int .i64 3, .int .i64 n, .slice a ks.length c] 24)) ⟨3, n, ks⟩ a) := hx.below (al1 _ _)
  have NU : Hid (Nms (w.alloc (.cells #[.int .i64 3, .int .i64 n, .slice a ks.length c] 24)) na nl names) := hn.below (al1 _ _)
  have HR : Hid (∀ x, x ∈ ks → RText names x) := hr
  have BU : Hid (Below w.heap.size w (w.alloc (.cells #[.int .i64 3, .int .i64 n, .slice a ks.length c] 24))) := al1 _ _
  have HT : Hid ((textF names (ks.getD 0 nilEx)).length ≤ 1000000) := by have := br_len (isBin (ks.getD 0 nilEx)) (textF names (ks.getD 0 nilEx)); simp only [List.length_cons] at hl; unfold Hid; omega
  have LB : Hid (looseB ks 0 9 = isBin (ks.getD 0 nilEx)) := loose9 ks
  have HB : Hid (¬ 0 < ks.length → isBin (ks.getD 0 nilEx) = false) := bin_not
  have HQ : Hid ((br (isBin (ks.getD 0 nilEx)) (textF names (ks.getD 0 nilEx))).length ≤ 1000000) := by simp only [List.length_cons] at hl; unfold Hid; omega
  have CK : Hid (∀ wx, Below (w.alloc (.cells #[.int .i64 3, .int .i64 n, .slice a ks.length c] 24)).heap.size (w.alloc (.cells #[.int .i64 3, .int .i64 n, .slice a ks.length c] 24)) wx → Calls Tryz.prog 26 #[.agg #[.int .i64 3, .int .i64 n, .slice a ks.length c], .int .i64 0, .slice na nl nc, .bool (isBin (ks.getD 0 nilEx))] wx fun e w' => e = .returned (.string (strB (br (isBin (ks.getD 0 nilEx)) (textF names (ks.getD 0 nilEx))))) ∧ Below wx.heap.size wx w') := fun wx hb =>
    kid_any names 3 n ks wx a na c nc nl 0 _ (XU.out.below hb) (NU.out.below hb) (by omega) hlen (HLk.out 0) HT.out HR.out HB.out
  clear hx hn hs hl hr ET HT HB
  generalize br (isBin (ks.getD 0 nilEx)) (textF names (ks.getD 0 nilEx)) = q at *
  have hsz : ¬ 9223372036854775807 < (ByteArray.mk #[45]).size + (strB q).size := str_sz [45] q (by have := HQ.out; simp only [List.length_cons, List.length_nil]; omega)
  have hsz1 : ¬ 9223372036854775807 < 1 + (strB q).size := hsz
  have hsz2 : (9223372036854775807 < 1 + (strB q).size) = False := by simpa using hsz1
  have hsz3 : (9223372036854775807 < (ByteArray.mk #[45]).size + (strB q).size) = False := hsz2
  have hsz4 : 1 + (strB q).size ≤ 9223372036854775807 := by omega
  obtain ⟨b0, b1, b2⟩ := F1.out
  go_enter Tryz.func13, Tryz.ntmps13
  go_wp2_with fail
  have K : Hid (Below (w.alloc (.cells #[.int .i64 3, .int .i64 n, .slice a ks.length c] 24)).heap.size (w.alloc (.cells #[.int .i64 3, .int .i64 n, .slice a ks.length c] 24)) (w.alloc (.cells #[.int .i64 3, .int .i64 n, .slice a ks.length c] 24)).drew) := (Below.refl _ _).drew
  go_region_held3 (fun w' => w'.cell? ⟨w.heap.size, 0, none⟩ = some (.int .i64 3) ∧ w'.cell? ⟨w.heap.size, 1, none⟩ = some (.int .i64 n) ∧ w'.cell? ⟨w.heap.size, 2, none⟩ = some (.slice a ks.length c)) (go_keep)
    (first
      | (go_at_call 27; refine (c1_call K.out F1.out (fun hb => loose_any 3 n ks _ a c 0 9 (XU.out.below hb) (by omega) hlen)).mono ?_; clear K b0 b1 b2; rintro e wx ⟨he, K, b0, b1, b2⟩; rw [LB.out] at he; subst he)
      | (go_at_call 26; refine (c1_call K.out F1.out (fun hb => CK.out _ hb)).mono ?_; clear K b0 b1 b2; rintro e wx ⟨he, K, b0, b1, b2⟩; subst he))
  all_goals
    go_wp2_with fail
    go_ret
    exact ⟨congrArg (fun s => Ending.returned (.string s)) (strB_append [45] q), fstep BU.out K.out⟩

set_option maxRecDepth 100000 in
set_option maxHeartbeats 4000000 in
theorem rtext_not (names : List ByteArray) (n : Int) (ks : List Ex) (w : World) (a na : Option Addr) (c nc nl : Nat) (hx : X w ⟨4, n, ks⟩ a) (hn : Nms w na nl names) (hs : sizeF ⟨4, n, ks⟩ ≤ 1000000) (hl : (textF names ⟨4, n, ks⟩).length ≤ 1000000) (hr : ∀ x, x ∈ ks → RText names x) :
    Calls Tryz.prog 13 #[.agg #[.int .i64 4, .int .i64 n, .slice a ks.length c], .slice na nl nc] w fun e w' => e = .returned (.string (strB (textF names ⟨4, n, ks⟩))) ∧ Below w.heap.size w w' := by
  have ET : textF names ⟨4, n, ks⟩ = 33 :: br (isBin (ks.getD 0 nilEx)) (textF names (ks.getD 0 nilEx)) := by rw [text_eq]; simp only [textN]; rw [text_kid]; rfl
  rw [ET] at hl ⊢
  have hlen : ks.length ≤ 1000000 := by have := len_size 4 n ks; omega
  have HLk : Hid (∀ i, sizeF (ks.getD i nilEx) ≤ 1000000) := fun i => size_at (names := names) hs i
  have F1 : Hid (C1 w.heap.size 4 n a ks.length c (w.alloc (.cells #[.int .i64 4, .int .i64 n, .slice a ks.length c] 24))) := cell3_new w _ _ _ _
  have XU : Hid (X (w.alloc (.cells #[.int .i64 4, .int .i64 n, .slice a ks.length c] 24)) ⟨4, n, ks⟩ a) := hx.below (al1 _ _)
  have NU : Hid (Nms (w.alloc (.cells #[.int .i64 4, .int .i64 n, .slice a ks.length c] 24)) na nl names) := hn.below (al1 _ _)
  have HR : Hid (∀ x, x ∈ ks → RText names x) := hr
  have BU : Hid (Below w.heap.size w (w.alloc (.cells #[.int .i64 4, .int .i64 n, .slice a ks.length c] 24))) := al1 _ _
  have HT : Hid ((textF names (ks.getD 0 nilEx)).length ≤ 1000000) := by have := br_len (isBin (ks.getD 0 nilEx)) (textF names (ks.getD 0 nilEx)); simp only [List.length_cons] at hl; unfold Hid; omega
  have LB : Hid (looseB ks 0 9 = isBin (ks.getD 0 nilEx)) := loose9 ks
  have HB : Hid (¬ 0 < ks.length → isBin (ks.getD 0 nilEx) = false) := bin_not
  have HQ : Hid ((br (isBin (ks.getD 0 nilEx)) (textF names (ks.getD 0 nilEx))).length ≤ 1000000) := by simp only [List.length_cons] at hl; unfold Hid; omega
  have CK : Hid (∀ wx, Below (w.alloc (.cells #[.int .i64 4, .int .i64 n, .slice a ks.length c] 24)).heap.size (w.alloc (.cells #[.int .i64 4, .int .i64 n, .slice a ks.length c] 24)) wx → Calls Tryz.prog 26 #[.agg #[.int .i64 4, .int .i64 n, .slice a ks.length c], .int .i64 0, .slice na nl nc, .bool (isBin (ks.getD 0 nilEx))] wx fun e w' => e = .returned (.string (strB (br (isBin (ks.getD 0 nilEx)) (textF names (ks.getD 0 nilEx))))) ∧ Below wx.heap.size wx w') := fun wx hb =>
    kid_any names 4 n ks wx a na c nc nl 0 _ (XU.out.below hb) (NU.out.below hb) (by omega) hlen (HLk.out 0) HT.out HR.out HB.out
  clear hx hn hs hl hr ET HT HB
  generalize br (isBin (ks.getD 0 nilEx)) (textF names (ks.getD 0 nilEx)) = q at *
  have hsz : ¬ 9223372036854775807 < (ByteArray.mk #[33]).size + (strB q).size := str_sz [33] q (by have := HQ.out; simp only [List.length_cons, List.length_nil]; omega)
  have hsz1 : ¬ 9223372036854775807 < 1 + (strB q).size := hsz
  have hsz2 : (9223372036854775807 < 1 + (strB q).size) = False := by simpa using hsz1
  have hsz3 : (9223372036854775807 < (ByteArray.mk #[33]).size + (strB q).size) = False := hsz2
  have hsz4 : 1 + (strB q).size ≤ 9223372036854775807 := by omega
  obtain ⟨b0, b1, b2⟩ := F1.out
  go_enter Tryz.func13, Tryz.ntmps13
  go_wp2_with fail
  have K : Hid (Below (w.alloc (.cells #[.int .i64 4, .int .i64 n, .slice a ks.length c] 24)).heap.size (w.alloc (.cells #[.int .i64 4, .int .i64 n, .slice a ks.length c] 24)) (w.alloc (.cells #[.int .i64 4, .int .i64 n, .slice a ks.length c] 24)).drew) := (Below.refl _ _).drew
  go_region_held3 (fun w' => w'.cell? ⟨w.heap.size, 0, none⟩ = some (.int .i64 4) ∧ w'.cell? ⟨w.heap.size, 1, none⟩ = some (.int .i64 n) ∧ w'.cell? ⟨w.heap.size, 2, none⟩ = some (.slice a ks.length c)) (go_keep)
    (first
      | (go_at_call 27; refine (c1_call K.out F1.out (fun hb => loose_any 4 n ks _ a c 0 9 (XU.out.below hb) (by omega) hlen)).mono ?_; clear K b0 b1 b2; rintro e wx ⟨he, K, b0, b1, b2⟩; rw [LB.out] at he; subst he)
      | (go_at_call 26; refine (c1_call K.out F1.out (fun hb => CK.out _ hb)).mono ?_; clear K b0 b1 b2; rintro e wx ⟨he, K, b0, b1, b2⟩; subst he))
  all_goals
    go_wp2_with fail
    go_ret
    exact ⟨congrArg (fun s => Ending.returned (.string s)) (strB_append [33] q), fstep BU.out K.out⟩

set_option maxRecDepth 100000 in
set_option maxHeartbeats 4000000 in
theorem rtext_num (names : List ByteArray) (n : Int) (ks : List Ex) (w : World) (a na : Option Addr) (c nc nl : Nat) (hx : X w ⟨1, n, ks⟩ a) (hn : Nms w na nl names) (hs : sizeF ⟨1, n, ks⟩ ≤ 1000000) (hl : (textF names ⟨1, n, ks⟩).length ≤ 1000000) (hr : ∀ x, x ∈ ks → RText names x) :
    Calls Tryz.prog 13 #[.agg #[.int .i64 1, .int .i64 n, .slice a ks.length c], .slice na nl nc] w fun e w' => e = .returned (.string (strB (textF names ⟨1, n, ks⟩))) ∧ Below w.heap.size w w' := by
  have ET : textF names ⟨1, n, ks⟩ = br (decide (n < 0)) (Lib.itoa n) := by rw [text_eq]; rfl
  have hin := hx.node.2
  rw [ET] at hl ⊢
  generalize ks.length = len
  have CD : Hid (∀ o, Calls Tryz.prog 25 #[.int .i64 n] (w.alloc o) fun e w' => e = .returned (.string (strB (Lib.itoa n))) ∧ Hid (Below w.heap.size w w') ∧ (w'.cell? ⟨w.heap.size, 1, none⟩ = (w.alloc o).cell? ⟨w.heap.size, 1, none⟩)) := fun o =>
    (rdec_any n (w.alloc o) hin).mono fun e w' h => ⟨h.1, fstep (al1 w o) h.2, h.2.cell (p := ⟨w.heap.size, 1, none⟩) (by simp)⟩
  have HL : Hid ((Lib.itoa n).length ≤ 1000000) := Nat.le_trans (br_len _ _) hl
  clear hx hn hs hl hr ET
  generalize Lib.itoa n = q at *
  by_cases h0 : n < 0
  · have EB : Hid (br (decide (n < 0)) q = [40] ++ q ++ [41]) := by rw [Hid, decide_eq_true h0]; rfl
    rw [EB.out]
    have hsz1 : 1 + (strB q).size ≤ 9223372036854775807 := by have := HL.out; rw [strB_size]; omega
    have hsz2 : ¬ 9223372036854775807 < (ByteArray.mk #[40]).size + (strB q).size := str_sz [40] q (by have := HL.out; simp only [List.length_cons, List.length_nil]; omega)
    have hsz3 : ¬ 9223372036854775807 < (ByteArray.mk #[40] ++ strB q).size + (ByteArray.mk #[41]).size := by rw [show ByteArray.mk #[40] ++ strB q = strB ([40] ++ q) from strB_append [40] q]; exact str_sz ([40] ++ q) [41] (by have := HL.out; simp only [List.length_append, List.length_cons, List.length_nil]; omega)
    go_enter Tryz.func13, Tryz.ntmps13
    go_wp2_with (go_at_call 25; refine (CD.out _).mono ?_; rintro e w1 ⟨he, hb, hc⟩; subst he)
    go_ret
    exact ⟨congrArg (fun s => Ending.returned (.string s)) ((congrArg (· ++ ByteArray.mk #[41]) (strB_append [40] q)).trans (strB_append ([40] ++ q) [41])), hb.out⟩
  · have EB : Hid (br (decide (n < 0)) q = q) := by rw [Hid, decide_eq_false h0]; rfl
    rw [EB.out]
    go_enter Tryz.func13, Tryz.ntmps13
    go_wp2_with (go_at_call 25; refine (CD.out _).mono ?_; rintro e w1 ⟨he, hb, hc⟩; subst he)
    go_ret
    exact ⟨rfl, hb.out⟩

set_option maxRecDepth 100000 in
set_option maxHeartbeats 4000000 in
theorem rtext_var (names : List ByteArray) (n : Int) (ks : List Ex) (w : World) (a na : Option Addr) (c nc nl : Nat) (hx : X w ⟨2, n, ks⟩ a) (hn : Nms w na nl names) (hs : sizeF ⟨2, n, ks⟩ ≤ 1000000) (hl : (textF names ⟨2, n, ks⟩).length ≤ 1000000) (hr : ∀ x, x ∈ ks → RText names x) :
    Calls Tryz.prog 13 #[.agg #[.int .i64 2, .int .i64 n, .slice a ks.length c], .slice na nl nc] w fun e w' => e = .returned (.string (strB (textF names ⟨2, n, ks⟩))) ∧ Below w.heap.size w w' := by
  have ET : textF names ⟨2, n, ks⟩ = (if n < 0 ∨ (names.length : Int) ≤ n then [63] else (names.getD n.toNat ByteArray.empty).data.toList) := by rw [text_eq]; rfl
  rw [ET]
  generalize ks.length = len
  have hnl := hn.1
  by_cases h0 : n < 0
  · rw [if_pos (.inl h0)]
    clear hx hn hs hl hr ET hnl
    go_enter Tryz.func13, Tryz.ntmps13
    go_wp2_with fail
    go_ret
    exact ⟨rfl, al1 _ _⟩
  by_cases h1 : (names.length : Int) ≤ n
  · rw [if_pos (.inr h1)]
    have h1' : (nl : Int) ≤ n := by omega
    clear hx hn hs hl hr ET hnl
    go_enter Tryz.func13, Tryz.ntmps13
    go_wp2_with fail
    go_ret
    exact ⟨rfl, al1 _ _⟩
  · rw [if_neg (by omega)]
    obtain ⟨m, rfl⟩ := Int.eq_ofNat_of_zero_le (show 0 ≤ n by omega)
    rcases hn.2 with h2 | ⟨b, off, ha, hB, hc⟩
    · omega
    subst ha
    have hcm := hc m (by omega)
    rw [Int.toNat_natCast]
    generalize names.getD m ByteArray.empty = s at *
    have h1' : ¬ (nl : Int) ≤ m := by omega
    have hlt' : (m : Int) < nl := by omega
    have ES : Hid (strB s.data.toList = s) := by unfold Hid strB; cases s; simp
    clear hx hn hs hl hr ET hnl hc
    rw [ES.out]
    go_enter Tryz.func13, Tryz.ntmps13
    go_wp2_with fail
    go_ret
    exact ⟨rfl, al1 _ _⟩

set_option maxRecDepth 100000 in
set_option maxHeartbeats 4000000 in
theorem rtext_none (names : List ByteArray) (k n : Int) (ks : List Ex) (w : World) (a na : Option Addr) (c nc nl : Nat) (hx : X w ⟨k, n, ks⟩ a) (hn : Nms w na nl names) (hs : sizeF ⟨k, n, ks⟩ ≤ 1000000) (hl : (textF names ⟨k, n, ks⟩).length ≤ 1000000) (hr : ∀ x, x ∈ ks → RText names x) (hk : ¬ k = 1 ∧ ¬ k = 2 ∧ ¬ k = 3 ∧ ¬ k = 4 ∧ ¬ k = 5 ∧ ¬ k = 6) :
    Calls Tryz.prog 13 #[.agg #[.int .i64 k, .int .i64 n, .slice a ks.length c], .slice na nl nc] w fun e w' => e = .returned (.string (strB (textF names ⟨k, n, ks⟩))) ∧ Below w.heap.size w w' := by
  obtain ⟨h1, h2, h3, h4, h5, h6⟩ := hk
  have ET : textF names ⟨k, n, ks⟩ = [63] := by rw [text_eq]; simp [textN, h1, h2, h3, h4, h5, h6]
  rw [ET]
  generalize ks.length = len
  clear hx hn hs hl hr ET
  go_enter Tryz.func13, Tryz.ntmps13
  go_wp2_with fail
  go_ret
  exact ⟨rfl, al1 _ _⟩

end Go.Proofs.YtnhhajbfohjlbaaGreatDoor.Expr
