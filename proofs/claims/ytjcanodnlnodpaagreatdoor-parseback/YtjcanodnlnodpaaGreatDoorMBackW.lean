/- Contracts and plain mathematics, together: ParBackW, ParBackV. -/
import Derived.Test.YtjcanodnlnodpaaGreatDoorMGroW
import Derived.Test.YtjcanodnlnodpaaGreatDoorMClean
import Derived.Test.YtjcanodnlnodpaaGreatDoorMFew
import Derived.Test.YtjcanodnlnodpaaGreatDoorMRight
/- The ways through ParseBack, over the turned program. -/
namespace Go.Proofs.YtjcanodnlnodpaaGreatDoor.Parse
open Go.RowKit Go.Maps Go.Proofs.YtjcanodnlnodpaaGreatDoor.Frame Go.Proofs.YtjcanodnlnodpaaGreatDoor.Token Go.Proofs.YtjcanodnlnodpaaGreatDoor.Expr Go.Proofs.YtjcanodnlnodpaaGreatDoor.Calc
set_option linter.unusedVariables false
set_option linter.unusedSimpArgs false

theorem br_le' (b : Bool) (l : List UInt8) : (br b l).length ≤ l.length + 2 := by cases b <;> simp [br]
theorem xtext_len {w : World} : ∀ (t : Ex) (a : Option Addr), X w t a → okE 3 t → (Expr.textF xyzB t).length ≤ 20 * sizeF t := by
  refine Ex.ind fun k n ks ih a hx h => ?_
  have hnum := itoa_len n hx.node.2
  rw [ok_eq] at h
  obtain ⟨hn, hk⟩ := h
  have hK : ∀ x, x ∈ ks → (Expr.textF xyzB x).length ≤ 20 * sizeF x := fun x hm => by
    obtain ⟨i, hi, rfl⟩ := List.getElem_of_mem hm
    obtain ⟨b, off, y, ai, ci, _, _, hym, he, _, _, _, hxx⟩ := hx.kid hi
    have e : ks[i] = y := by rw [he, List.getD_eq_getElem?_getD, List.getElem?_eq_getElem hi]; rfl
    rw [e]
    exact ih y hym ai hxx (hk _ (List.mem_map_of_mem hym))
  rw [Expr.text_eq, Expr.size_eq]
  unfold okN at hn
  rcases hn with ⟨rfl, hl, h0, h1⟩ | ⟨rfl, hl, h0, h1⟩ | ⟨hkk, hl⟩ | ⟨rfl, hl, h0, h1⟩ | ⟨rfl, hl⟩
  · unfold textN
    rw [if_pos rfl, decide_eq_false (show ¬ n < 0 by omega)]
    show (Lib.itoa n).length ≤ _
    omega
  · unfold textN
    rw [if_neg (by decide), if_pos rfl, if_neg (by show ¬ (n < 0 ∨ (3 : Int) ≤ n); omega)]
    have : n = 0 ∨ n = 1 ∨ n = 2 := by omega
    have hz : ((xyzB.getD n.toNat ByteArray.empty).data.toList).length ≤ 2 := by rcases this with rfl | rfl | rfl <;> decide
    omega
  · match ks, hl, hK with
    | [x], _, hK =>
      have e := hK x (by simp)
      have b := br_le' (isBin x) (Expr.textF xyzB x)
      have hs : sm (([x] : List Ex).map sizeF) = sizeF x := by simp [sm]
      rw [hs]
      rcases hkk with rfl | rfl
      · show (45 :: br (isBin x) (Expr.textF xyzB x)).length ≤ _
        rw [List.length_cons]; omega
      · show (33 :: br (isBin x) (Expr.textF xyzB x)).length ≤ _
        rw [List.length_cons]; omega
  · match ks, hl, hK with
    | [x, y], _, hK =>
      have e := hK x (by simp)
      have f := hK y (by simp)
      have b1 := br_le' (isBin x && decide (strengthF x.num < strengthF n)) (Expr.textF xyzB x)
      have b2 := br_le' (isBin y && decide (strengthF y.num ≤ strengthF n)) (Expr.textF xyzB y)
      have sg := sign_len n
      have hs : sm (([x, y] : List Ex).map sizeF) = sizeF x + sizeF y := by simp [sm]
      rw [hs]
      show (br (isBin x && decide (strengthF x.num < strengthF n)) (Expr.textF xyzB x) ++ [32] ++ (signF n).data.toList ++ [32] ++ br (isBin y && decide (strengthF y.num ≤ strengthF n)) (Expr.textF xyzB y)).length ≤ _
      simp only [List.length_append, List.length_cons, List.length_nil]
      omega
  · match ks, hl, hK with
    | [x, y, z], _, hK =>
      have e := hK x (by simp)
      have f := hK y (by simp)
      have g := hK z (by simp)
      have hs : sm (([x, y, z] : List Ex).map sizeF) = sizeF x + (sizeF y + sizeF z) := by simp [sm]
      rw [hs]
      show ([105, 102, 40] ++ Expr.textF xyzB x ++ [44, 32] ++ Expr.textF xyzB y ++ [44, 32] ++ Expr.textF xyzB z ++ [41]).length ≤ _
      simp only [List.length_append, List.length_cons, List.length_nil]
      omega
/-- what is written is cut, and read, as it was -/
theorem xback {w : World} {t : Ex} {a : Option Addr} (hx : X w t a) (hp : okE 3 t) (hd : depthF t ≤ 20) (hs : sizeF t ≤ 400) : (lexF (Expr.textF xyzB t)).2.2 = 0 ∧ ((lexF (Expr.textF xyzB t)).1.map tiT).map ktI = tokT xyz1 Lib.itoa t ∧ exprI xyz1 (tokT xyz1 Lib.itoa t) = .ok (cleanF t) ∧ (Expr.textF xyzB t).length ≤ 8000 := by
  obtain ⟨b1, b2⟩ := back xyz1_ok itoa_num hp hd
  have hl := xtext_len t a hx hp
  rw [txt_text t hp] at b1
  have := b1 (Expr.textF xyzB t).length
  rw [← lexF_eq (by omega)] at this
  exact ⟨this.1, by rw [List.map_map]; exact this.2, b2, by omega⟩
theorem xyz1_names {W : World} {q : Nat} (h : Bx W q [.string (str [120]), .string (str [121]), .string (str [122, 49])]) : NMs W.heap.size W (some ⟨q, 0, none⟩) xyz1 := by
  refine ⟨.inr ⟨q, 0, rfl, h.2.2, fun i hi => ?_⟩, fun s hs => ?_⟩
  · have hi : i < 3 := hi
    have : i = 0 ∨ i = 1 ∨ i = 2 := by omega
    rcases this with rfl | rfl | rfl
    · exact h.1 0
    · exact h.1 1
    · exact h.1 2
  · simp only [xyz1, List.mem_cons, List.not_mem_nil, or_false] at hs
    rcases hs with rfl | rfl | rfl <;> decide
theorem xyzB_env {W : World} {q : Nat} (h : Bx W q [.string (str [120]), .string (str [121]), .string (str [122, 49])]) (hT : Tb W) : Env W.heap.size (some ⟨q, 0, none⟩) xyzB W := by
  refine ⟨.inr ⟨q, 0, rfl, h.2.2, fun i hi => ?_⟩, hT⟩
  have hi : i < 3 := hi
  have : i = 0 ∨ i = 1 ∨ i = 2 := by omega
  rcases this with rfl | rfl | rfl
  · exact h.1 0
  · exact h.1 1
  · exact h.1 2
end Go.Proofs.YtjcanodnlnodpaaGreatDoor.Parse
/- The law of expressions that are read back, over the turned program. -/
namespace Go.Proofs.YtjcanodnlnodpaaGreatDoor.Parse
open Go.RowKit Go.Maps Go.Proofs.YtjcanodnlnodpaaGreatDoor.Frame Go.Proofs.YtjcanodnlnodpaaGreatDoor.Token Go.Proofs.YtjcanodnlnodpaaGreatDoor.Expr Go.Proofs.YtjcanodnlnodpaaGreatDoor.Calc
set_option linter.unusedVariables false
set_option linter.unusedSimpArgs false

theorem hid1 {p : Prop} (h : p) : Hid p := h
/-- what parse.Expr tells of a text's tokens -/
theorem pex_of1 {W : World} {a : Option Addr} {c q : Nat} {l : List Tok} {en : Int} (hF : Fx W) (ht : Toks W a l) (hlc : l.length ≤ c) (hcm : c ≤ maxLen) (hb : Bx W q [.string (str [120]), .string (str [121]), .string (str [122, 49])]) (hl : ∀ t ∈ l, t.text.length ≤ 16384) :
    Calls Tryz.prog 18 #[.slice a l.length c, .int .i64 en, .slice (some ⟨q, 0, none⟩) 3 3] W (ExPost (exprF en xyz1 (l.map tiT)) W) := by
  have := pex_any a c (l.map tiT) en (some ⟨q, 0, none⟩) 3 xyz1 W (tis_of ht) (by rw [List.length_map]; exact hlc) hcm (pk_of hl (by decide)) (xyz1_names hb) (by decide) hF (fx_lt hF)
  rw [List.length_map] at this
  exact this

set_option maxRecDepth 100000 in
set_option maxHeartbeats 16000000 in
theorem back_any (t : Ex) (w : World) (a : Option Addr) (c : Nat) (hx : X w t a) (hF : Fx w) (hT : Tb w) :
    Calls Tryz.prog 7 #[.agg #[.int .i64 t.kind, .int .i64 t.num, .slice a t.kids.length c]] w fun e w' => e = .returned (.bool true) ∧ Below w.heap.size w w' := by
  have HF : Hid (Fx w ∧ Tb w ∧ X w t a) := ⟨hF, hT, hx⟩
  have C1 : Hid (∀ W b, b = fewB t → X W t a → Calls Tryz.prog 23 #[.agg #[.int .i64 t.kind, .int .i64 t.num, .slice a t.kids.length c]] W fun e w' => e = .returned (.bool b) ∧ Below W.heap.size W w') := fun W b hb h => by rw [hb]; exact Few_any t W a c h
  have C2 : Hid (∀ W d, sizeF t ≤ 1000000 → d = depthF t → X W t a → Calls Tryz.prog 24 #[.agg #[.int .i64 t.kind, .int .i64 t.num, .slice a t.kids.length c]] W fun e w' => e = .returned (.int .i64 (d : Nat)) ∧ Below W.heap.size W w') := fun W d hs hb h => by rw [hb]; exact depth_any t W a c h hs
  have C3 : Hid (∀ W b, b = rightB 3 t → X W t a → Calls Tryz.prog 25 #[.agg #[.int .i64 t.kind, .int .i64 t.num, .slice a t.kids.length c], .int .i64 3] W fun e w' => e = .returned (.bool b) ∧ Below W.heap.size W w') := fun W b hb h => by rw [hb]; exact right_any t W a c 3 h
  have C4 : Hid (∀ W b, sizeF t ≤ 1000000 → b = plainB t → X W t a → Calls Tryz.prog 26 #[.agg #[.int .i64 t.kind, .int .i64 t.num, .slice a t.kids.length c]] W fun e w' => e = .returned (.bool b) ∧ Below W.heap.size W w') := fun W b hs hb h => by rw [hb]; exact lplain_any t W a c h hs
  have C5 : Hid (∀ W q, sizeF t ≤ 1000000 → (Expr.textF xyzB t).length ≤ 1000000 → Env W.heap.size (some ⟨q, 0, none⟩) xyzB W → X W t a → Calls Tryz.prog 27 #[.agg #[.int .i64 t.kind, .int .i64 t.num, .slice a t.kids.length c], .slice (some ⟨q, 0, none⟩) 3 3] W fun e w' => e = .returned (.string ⟨(Expr.textF xyzB t).toArray⟩) ∧ Below W.heap.size W w') := fun W q hs hl hE h => Expr.text_any xyzB t W a (some ⟨q, 0, none⟩) c 3 3 rfl h hE hs hl
  have C6 : Hid (∀ W, sizeF t ≤ 1000000 → X W t a → Calls Tryz.prog 29 #[.agg #[.int .i64 t.kind, .int .i64 t.num, .slice a t.kids.length c]] W (ClPost (cleanF t) W)) := fun W hs h => clean_any t W a c h hs
  have HB : Hid (fewB t = true → depthF t ≤ 20 → rightB 3 t = true → plainB t = true → ((lexF (Expr.textF xyzB t)).2.2 = 0 ∧ ((lexF (Expr.textF xyzB t)).1.map tiT).map ktI = tokT xyz1 Lib.itoa t ∧ exprI xyz1 (tokT xyz1 Lib.itoa t) = .ok (cleanF t) ∧ (Expr.textF xyzB t).length ≤ 8000)) := fun h1 h2 h3 h4 => by
    unfold rightB at h3
    rw [Bool.and_eq_true] at h3
    have h5 := of_decide_eq_true h3.1
    exact xback hx (right_ok t a hx h3.2 h4) h2 h5.2
  have hs : fewB t = true → sizeF t ≤ 1000000 := fun h => by have := fewB_size h; omega
  have HS : Hid (fewB t = true → sizeF t ≤ 1000000) := hs
  obtain ⟨k, hk⟩ : ∃ k, k = t.kind := ⟨_, rfl⟩
  obtain ⟨n, hn⟩ : ∃ n, n = t.num := ⟨_, rfl⟩
  obtain ⟨len, hl⟩ : ∃ len, len = t.kids.length := ⟨_, rfl⟩
  rw [← hk, ← hn, ← hl] at C1 C2 C3 C4 C5 C6 ⊢
  clear hx hF hT hs hk hn hl
  go_enter Tryz.func7, Tryz.ntmps7
  go_wp2_with fail
  refine (small_any _ (HF.out.1.below ((Below.refl _ _).alloc (Nat.le_refl _) _)) (HF.out.2.1.below ((Below.refl _ _).alloc (Nat.le_refl _) _))).mono ?_
  rintro e w1 ⟨he, b1⟩
  subst he
  have H1 : Hid (Below w.heap.size w w1 ∧ Bx w1 w.heap.size [.int .i64 k, .int .i64 n, .slice a len c]) := ⟨then_ ((Below.refl _ _).alloc (Nat.le_refl _) _) b1, (Bx.mk _ rfl rfl).below b1⟩
  clear b1
  obtain ⟨g0, g1, g2, gl⟩ := H1.out.2.three
  go_wp2_with fail
  refine (C1.out w1 (fewB t) rfl (HF.out.2.2.below H1.out.1)).mono ?_
  rintro e w2 ⟨he, b2⟩
  subst he
  have H2 : Hid (Below w.heap.size w w2 ∧ Bx w2 w.heap.size [.int .i64 k, .int .i64 n, .slice a len c]) := ⟨then_ H1.out.1 b2, H1.out.2.below b2⟩
  clear b2 g0 g1 g2 gl H1 C1
  obtain ⟨g0, g1, g2, gl⟩ := H2.out.2.three
  by_cases hf : fewB t = true
  rotate_left
  · have hf : fewB t = false := by simpa using hf
    rw [hf]
    go_wp2_with fail
    go_ret
    exact ⟨rfl, H2.out.1⟩
  have HS2 : Hid (sizeF t ≤ 1000000) := HS.out hf
  clear HS
  have HS := HS2
  clear HS2
  have HB2 := hid1 (HB.out hf)
  clear HB
  rw [hf]
  clear hf
  go_wp2_with fail
  refine (C2.out w2 (depthF t) HS.out rfl (HF.out.2.2.below H2.out.1)).mono ?_
  rintro e w3 ⟨he, b2⟩
  subst he
  have H3 : Hid (Below w.heap.size w w3 ∧ Bx w3 w.heap.size [.int .i64 k, .int .i64 n, .slice a len c]) := ⟨then_ H2.out.1 b2, H2.out.2.below b2⟩
  clear b2 g0 g1 g2 gl H2 C2
  obtain ⟨g0, g1, g2, gl⟩ := H3.out.2.three
  by_cases hd : depthF t ≤ 20
  rotate_left
  · have hd' : (20 : Int) < (depthF t : Nat) := by omega
    generalize depthF t = dt at *
    go_wp2_with fail
    go_ret
    exact ⟨rfl, H3.out.1⟩
  have hd' : ¬ (20 : Int) < (depthF t : Nat) := by omega
  have HB3 := hid1 (HB2.out hd)
  clear HB2
  clear hd
  generalize depthF t = dt at *
  go_wp2_with fail
  refine (C3.out w3 (rightB 3 t) rfl (HF.out.2.2.below H3.out.1)).mono ?_
  rintro e w4 ⟨he, b2⟩
  subst he
  have H4 : Hid (Below w.heap.size w w4 ∧ Bx w4 w.heap.size [.int .i64 k, .int .i64 n, .slice a len c]) := ⟨then_ H3.out.1 b2, H3.out.2.below b2⟩
  clear b2 g0 g1 g2 gl H3 C3
  obtain ⟨g0, g1, g2, gl⟩ := H4.out.2.three
  by_cases hr : Expr.rightB 3 t = true
  rotate_left
  · have hr : Expr.rightB 3 t = false := by simpa using hr
    rw [hr]
    go_wp2_with fail
    go_ret
    exact ⟨rfl, H4.out.1⟩
  have HB4 := hid1 (HB3.out hr)
  clear HB3
  rw [hr]
  clear hr
  go_wp2_with fail
  refine (C4.out w4 (plainB t) HS.out rfl (HF.out.2.2.below H4.out.1)).mono ?_
  rintro e w5 ⟨he, b2⟩
  subst he
  have H5 : Hid (Below w.heap.size w w5 ∧ Bx w5 w.heap.size [.int .i64 k, .int .i64 n, .slice a len c]) := ⟨then_ H4.out.1 b2, H4.out.2.below b2⟩
  clear b2 g0 g1 g2 gl H4 C4
  obtain ⟨g0, g1, g2, gl⟩ := H5.out.2.three
  by_cases hr : plainB t = true
  rotate_left
  · have hr : plainB t = false := by simpa using hr
    rw [hr]
    go_wp2_with fail
    go_ret
    exact ⟨rfl, H5.out.1⟩
  obtain ⟨k1, k2, k3, k4⟩ := HB4.out hr
  rw [hr]
  clear hr HB4
  have HL : Hid (∀ W, Fx W → Calls Tryz.prog 21 #[.string ⟨(Expr.textF xyzB t).toArray⟩] W (LexPost2 (lexF (Expr.textF xyzB t)) W)) := fun W hW => by
    have := lex_any2 ⟨(Expr.textF xyzB t).toArray⟩ W (by show (Expr.textF xyzB t).toArray.size ≤ _; rw [List.size_toArray]; omega) hW
    rwa [show (ByteArray.mk (Expr.textF xyzB t).toArray).data.toList = Expr.textF xyzB t from rfl] at this
  have KL : Hid ((Expr.textF xyzB t).length ≤ 1000000) := by show _ ≤ _; omega
  have hs1 := (lex_small (Expr.textF xyzB t)).2
  rw [← k2] at k3
  generalize lexF (Expr.textF xyzB t) = x at *
  generalize Expr.textF xyzB t = tx at *
  obtain ⟨l, at0, er⟩ := x
  have k1 : er = 0 := k1
  subst k1
  have hs1 : ∀ t ∈ l, t.text.length ≤ 16384 := hs1
  have k3 : exprI xyz1 ((l.map tiT).map ktI) = .ok (cleanF t) := k3
  have hE : exprF at0 xyz1 (l.map tiT) = (cleanF t, (at0 : Int), (0 : Int)) := by unfold exprF; rw [k3]
  have HR : Hid (RdE (cleanF t)) := ⟨_, exprI_ok k3⟩
  have PX : Hid (∀ (W : World) (a : Option Addr) (c q : Nat), Fx W → Toks W a l → l.length ≤ c → c ≤ maxLen → Bx W q [.string (str [120]), .string (str [121]), .string (str [122, 49])] → Calls Tryz.prog 18 #[.slice a l.length c, .int .i64 at0, .slice (some ⟨q, 0, none⟩) 3 3] W (ExPost (cleanF t, (at0 : Int), (0 : Int)) W)) := fun W a c q h1 h2 h3 h4 h5 => by
    have := pex_of1 (en := (at0 : Int)) h1 h2 h3 h4 h5 hs1
    rwa [hE] at this
  clear k2 k3 k4 hs1 hE
  go_wp2_with fail
  refine (C5.out _ w5.heap.size HS.out KL.out (xyzB_env (Bx.mk _ rfl rfl) (HF.out.2.1.below (H5.out.1.alloc H5.out.1.size _))) (HF.out.2.2.below (H5.out.1.alloc H5.out.1.size _))).mono ?_
  rintro e w6 ⟨he, hb⟩
  subst he
  have hbx : Bx w6 w5.heap.size [.string (str [120]), .string (str [121]), .string (str [122, 49])] := (Bx.mk _ rfl rfl).below hb
  have H6 : Hid (Below w.heap.size w w6 ∧ Bx w6 w.heap.size [.int .i64 k, .int .i64 n, .slice a len c] ∧ Bx w6 w5.heap.size [.string (str [120]), .string (str [121]), .string (str [122, 49])]) := ⟨then_ (H5.out.1.alloc H5.out.1.size _) hb, (H5.out.2.below ((Below.refl _ _).alloc (Nat.le_refl _) _)).below hb, hbx⟩
  clear hb hbx g0 g1 g2 gl H5 C5
  go_wp2_with fail
  refine (HL.out w6 (HF.out.1.below H6.out.1)).mono ?_
  rintro e w7 ⟨al, cl, he, ht, hb, hlc, hcm⟩
  replace he : e = .returned (.tuple #[.slice al l.length cl, .int .i64 at0, .int .i64 0]) := he
  subst he
  have H7 : Hid (Below w.heap.size w w7 ∧ Bx w7 w.heap.size [.int .i64 k, .int .i64 n, .slice a len c] ∧ Bx w7 w5.heap.size [.string (str [120]), .string (str [121]), .string (str [122, 49])] ∧ Toks w7 al l ∧ l.length ≤ cl ∧ cl ≤ maxLen) := ⟨then_ H6.out.1 hb, H6.out.2.1.below hb, H6.out.2.2.below hb, ht, hlc, hcm⟩
  clear ht hb hlc hcm H6 HL
  go_wp2_with fail
  refine (PX.out w7 al cl w5.heap.size (HF.out.1.below H7.out.1) H7.out.2.2.2.1 H7.out.2.2.2.2.1 H7.out.2.2.2.2.2 H7.out.2.2.1).mono ?_
  rintro e w8 ⟨ax, cx, he, hx, hb⟩
  have C6 : Hid (∀ W, Below w.heap.size w W → Calls Tryz.prog 29 #[.agg #[.int .i64 k, .int .i64 n, .slice a len c]] W (ClPost (cleanF t) W)) := fun W h => C6.out W HS.out (HF.out.2.2.below h)
  generalize cleanF t = ct at *
  replace he : e = .returned (.tuple #[.agg #[.int .i64 ct.kind, .int .i64 ct.num, .slice ax ct.kids.length cx], .int .i64 at0, .int .i64 0]) := he
  subst he
  have hal : Below w8.heap.size w8 (w8.alloc (.cells #[.int .i64 ct.kind, .int .i64 ct.num, .slice ax ct.kids.length cx] 40)) := (Below.refl _ _).alloc (Nat.le_refl _) _
  have H8 : Hid (Below w.heap.size w (w8.alloc (.cells #[.int .i64 ct.kind, .int .i64 ct.num, .slice ax ct.kids.length cx] 40)) ∧ Bx (w8.alloc (.cells #[.int .i64 ct.kind, .int .i64 ct.num, .slice ax ct.kids.length cx] 40)) w.heap.size [.int .i64 k, .int .i64 n, .slice a len c] ∧ Bx (w8.alloc (.cells #[.int .i64 ct.kind, .int .i64 ct.num, .slice ax ct.kids.length cx] 40)) w8.heap.size [.int .i64 ct.kind, .int .i64 ct.num, .slice ax ct.kids.length cx] ∧ X (w8.alloc (.cells #[.int .i64 ct.kind, .int .i64 ct.num, .slice ax ct.kids.length cx] 40)) ct ax) := ⟨then_ (then_ H7.out.1 hb) hal, (H7.out.2.1.below hb).below hal, Bx.mk _ rfl rfl, hx.below hal⟩
  clear hx hb hal H7 PX
  obtain ⟨W9, hW9⟩ : ∃ W9, W9 = (w8.alloc (.cells #[.int .i64 ct.kind, .int .i64 ct.num, .slice ax ct.kids.length cx] 40)) := ⟨_, rfl⟩
  rw [← hW9] at H8
  have FC : Hid (∀ W, Below W9.heap.size W9 W → (W.cell? ⟨w.heap.size, 0, none⟩ = some (.int .i64 k) ∧ W.cell? ⟨w.heap.size, 1, none⟩ = some (.int .i64 n) ∧ W.cell? ⟨w.heap.size, 2, none⟩ = some (.slice a len c) ∧ w.heap.size < W.heap.size) ∧ (W.cell? ⟨w8.heap.size, 0, none⟩ = some (.int .i64 ct.kind) ∧ W.cell? ⟨w8.heap.size, 1, none⟩ = some (.int .i64 ct.num) ∧ W.cell? ⟨w8.heap.size, 2, none⟩ = some (.slice ax ct.kids.length cx) ∧ w8.heap.size < W.heap.size)) := fun W hb => ⟨(H8.out.2.1.below hb).three, (H8.out.2.2.1.below hb).three⟩
  have CLN : Hid (∀ W, Below W9.heap.size W9 W → Calls Tryz.prog 29 #[.agg #[.int .i64 k, .int .i64 n, .slice a len c]] W fun e w' => ∃ a' c', e = .returned (.agg #[.int .i64 ct.kind, .int .i64 ct.num, .slice a' ct.kids.length c']) ∧ Hid (X w' ct a') ∧ Hid (Below W9.heap.size W9 w') ∧ (w'.cell? ⟨w.heap.size, 0, none⟩ = some (.int .i64 k) ∧ w'.cell? ⟨w.heap.size, 1, none⟩ = some (.int .i64 n) ∧ w'.cell? ⟨w.heap.size, 2, none⟩ = some (.slice a len c) ∧ w.heap.size < w'.heap.size) ∧ (w'.cell? ⟨w8.heap.size, 0, none⟩ = some (.int .i64 ct.kind) ∧ w'.cell? ⟨w8.heap.size, 1, none⟩ = some (.int .i64 ct.num) ∧ w'.cell? ⟨w8.heap.size, 2, none⟩ = some (.slice ax ct.kids.length cx) ∧ w8.heap.size < w'.heap.size)) := fun W hb =>
    (C6.out W (H8.out.1.trans (hb.mono H8.out.1.size))).mono fun e w' h => by
      obtain ⟨a', c', he, hx, hb'⟩ := h
      have hb2 : Below W9.heap.size W9 w' := hb.trans (hb'.mono hb.size)
      exact ⟨a', c', he, hx.x, hb2, (FC.out w' hb2).1, (FC.out w' hb2).2⟩
  have CSM : Hid (∀ W a' c', Below W9.heap.size W9 W → X W ct a' → Calls Tryz.prog 28 #[.agg #[.int .i64 ct.kind, .int .i64 ct.num, .slice ax ct.kids.length cx], .agg #[.int .i64 ct.kind, .int .i64 ct.num, .slice a' ct.kids.length c']] W fun e w' => e = .returned (.bool true) ∧ Hid (Below W9.heap.size W9 w')) := fun W a' c' hb h =>
    (esame_yes ct HR.out W ax a' cx c' (H8.out.2.2.2.below hb) h).mono fun e w' h => ⟨h.1, hb.trans (h.2.mono hb.size)⟩
  have BE : Hid (Below w.heap.size w W9) := H8.out.1
  obtain ⟨⟨g0, g1, g2, gl⟩, z0, z1, z2, zl⟩ := FC.out W9 (Below.refl _ _)
  have K : Hid (Below W9.heap.size W9 W9.drew) := (Below.refl _ _).drew
  have FD := FC.out _ K.out
  obtain ⟨⟨d0, d1, d2, dl⟩, e0, e1, e2, el⟩ := FD
  clear H8 C6 FC
  go_upto_region 10 with (fail)
  rw [← hW9]
  clear hW9
  go_region_law (go_simp; first
      | (go_at_call 29; refine (CLN.out _ K.out).mono ?_; clear K g0 g1 g2 gl z0 z1 z2 zl d0 d1 d2 dl e0 e1 e2 el; rintro e wx ⟨a', c', he, XC, K, ⟨g0, g1, g2, gl⟩, z0, z1, z2, zl⟩; subst he)
      | (go_at_call 28; refine (CSM.out _ _ _ K.out XC.out).mono ?_; clear K; rintro e wx ⟨he, K⟩; subst he))
  all_goals
    go_wp2_with fail
    go_ret
    exact ⟨rfl, BE.out.trans (K.out.mono BE.out.size)⟩
end Go.Proofs.YtjcanodnlnodpaaGreatDoor.Parse
