/- Contracts and plain mathematics, together: ParUnary, ParDeep, ParExprP, ParExpr, ParWhole, ParTold, ParToldN. -/
import Derived.Test.YtjcanodnlnodpaaGreatDoorMChoice
import Derived.Deep.RegionHeld3
import Derived.Deep.RegionLaw
import Derived.Test.YtjcanodnlnodpaaGreatDoorMCalc
/- A part of an expression without signs: a contract of the call, over the turned program. -/
namespace Go.Proofs.YtjcanodnlnodpaaGreatDoor.Parse
open Go.RowKit Go.Maps Go.Proofs.YtjcanodnlnodpaaGreatDoor.Frame Go.Proofs.YtjcanodnlnodpaaGreatDoor.Token Go.Proofs.YtjcanodnlnodpaaGreatDoor.Expr Go.Proofs.YtjcanodnlnodpaaGreatDoor.Calc
set_option linter.unusedVariables false
set_option linter.unusedSimpArgs false

theorem field_kind (k : Int) (T : ByteArray) (pl : Int) (W : World) : Sem.run Tryz.prog (Instr.field 49 (.agg #[.int .i64 k, .string T, .int .i64 pl]) 0) W = .ok (.int .i64 k) W := by kernel_rfl
theorem leaf_num {names : List (List UInt8)} (en : Int) (st : St) (hk : (hereF en st).kind = 2) : Res en st (leafL names) (numberF en st).2 (fun u => u = ⟨1, (numberF en st).1, []⟩) := by
  cases st with
  | error e => exact Res.of_dead e
  | ok r =>
    cases r with
    | nil => exact absurd hk (by show (0 : Int) ≠ 2; decide)
    | cons t r =>
      have hk : t.kind = 2 := hk
      have hL : leafL names ((t :: r).map ktI) = if numB t.text then .ok (⟨1, (valL 0 t.text : Int), []⟩, r.map ktI) else .error ((t :: r).map ktI, 4) := if_pos hk
      cases hb : numB t.text with
      | true =>
        rw [hb, if_pos rfl] at hL
        have hF : numberF en (.ok (t :: r)) = ((valL 0 t.text : Int), .ok r) := if_pos (by unfold numOk; rw [hb, decide_eq_true hk]; rfl)
        rw [hF]
        exact Res.of_ok hL (List.suffix_cons t r) rfl rfl
      | false =>
        rw [hb, if_neg (by decide)] at hL
        have hF : numberF en (.ok (t :: r)) = (0, .error (t.at_, 4)) := if_neg (by unfold numOk; rw [hb]; simp)
        rw [hF]
        exact Res.of_err (s := t :: r) hL List.suffix_rfl rfl
theorem leaf_name {names : List (List UInt8)} {f : List UInt8 → Option Nat} (hf : f = nameAt names) (en : Int) (st : St) (hk : (hereF en st).kind ≠ 2) : Res en st (leafL names) (knownF en f st) (fun u => u = ⟨2, (((f (nameF en st).1).getD 0 : Nat) : Int), []⟩) := by
  subst hf
  cases st with
  | error e =>
    show knownF en _ (.error e) = .error e
    unfold knownF
    split <;> rfl
  | ok r =>
    cases r with
    | nil =>
      have : knownF en (nameAt names) (.ok []) = .error (en, 4) := by unfold knownF; split <;> rfl
      rw [this]
      exact Res.of_err (s := []) (z := []) rfl List.suffix_rfl rfl
    | cons t r =>
      have hk : t.kind ≠ 2 := hk
      have hL : leafL names ((t :: r).map ktI) = if t.kind = 1 ∧ wordB t.text = false then (match nameAt names t.text with | some i => .ok (⟨2, (i : Int), []⟩, r.map ktI) | none => .error ((t :: r).map ktI, 3)) else .error ((t :: r).map ktI, 4) := if_neg hk
      cases h : nameOk t with
      | true =>
        have hF : nameF en (.ok (t :: r)) = (t.text, .ok r) := if_pos h
        have h2 := h
        unfold nameOk at h2
        rw [Bool.and_eq_true] at h2
        rw [if_pos ⟨of_decide_eq_true h2.1, by simpa using h2.2⟩] at hL
        unfold knownF
        rw [hF]
        cases hn : nameAt names t.text with
        | some i =>
          rw [hn] at hL
          exact Res.of_ok hL (List.suffix_cons t r) rfl rfl
        | none =>
          rw [hn] at hL
          exact Res.of_err (s := t :: r) hL List.suffix_rfl rfl
      | false =>
        have hF : nameF en (.ok (t :: r)) = ([], .error (t.at_, 4)) := if_neg (by rw [h]; decide)
        have : knownF en (nameAt names) (.ok (t :: r)) = .error (t.at_, 4) := by unfold knownF; rw [hF]; split <;> rfl
        rw [this]
        rw [if_neg (fun g => by unfold nameOk at h; rw [g.2, decide_eq_true g.1] at h; cases h)] at hL
        exact Res.of_err (s := t :: r) hL List.suffix_rfl rfl
theorem leaf_res {names : List (List UInt8)} {en s : Int} {d : Nat} {e0 : Ex} {st st1 : St} {P : Ex → Prop} (hd : ¬ 40 < d) (h1 : tookB st [45] = false) (h2 : tookB st [33] = false) (h3 : tookB st [40] = false) (h4 : tookB st [105, 102] = false) (h : Res en st (leafL names) st1 P) : Res en st (peR names 0 s d e0) st1 P := by
  cases st with
  | error e => exact h
  | ok r =>
    have e := peR_leaf names s d e0 (r.map ktI) hd (of_decide_eq_false h1) (of_decide_eq_false h2) (of_decide_eq_false h3) (of_decide_eq_false h4)
    cases hx : leafL names (r.map ktI) with
    | error e' => obtain ⟨s', h1, h2, rfl⟩ := h.err hx; exact Res.of_err (e.trans hx) h1 h2
    | ok v => obtain ⟨⟨s', h1, h2, rfl⟩, hp⟩ := h.ok hx; exact Res.of_ok (e.trans hx) h1 h2 hp
theorem name_lt {names : List (List UInt8)} (hN : names.length ≤ 3000000) (s : List UInt8) : (nameAt names s).getD 0 ≤ 3000000 := by
  unfold nameAt
  by_cases h : s ∈ names
  · rw [if_pos h]; have := List.idxOf_lt_length_iff.2 h; show names.idxOf s ≤ _; omega
  · rw [if_neg h]; show 0 ≤ _; omega
theorem undrew' {w w' : World} (h : Below w.drew.heap.size w.drew w') : Below w.heap.size w w' := ⟨h.os, h.tape, h.output, h.size, h.block⟩
theorem unr {p : Nat} {w w' : World} (h : RCh p w.drew w') : RCh p w w' := ⟨⟨h.1.os, h.1.tape, h.1.output, h.1.size, h.1.block⟩, h.2⟩

set_option maxRecDepth 100000 in
set_option maxHeartbeats 8000000 in
theorem unary_neg (B p b n kk d : Nat) (f : List UInt8 → Option Nat) (names : List (List UInt8)) (hf : f = nameAt names) (hN : names.length ≤ 3000000) (s : Int) (e0 : Ex) (en : Int) (st : St) (w : World) (h : RS B w p en st) (hm : SMp w b n kk f) (hb : b ≠ p) (hd : ¬ 40 < d)
    (hU : ∀ W s', RS B W p en s' → SMp W b n kk f → Calls Tryz.prog 149 #[exV p b, .int .i64 ((d : Int) + 1)] W (EPost B p en s' (peR names 0 s (d + 1) e0) W)) (b1 : tookB st [45] = true) :
    Calls Tryz.prog 149 #[exV p b, .int .i64 d] w (EPost B p en st (peR names 0 s d e0) w) := by
  have hp := h.lt
  have hp2 : p < w.heap.size + 1 + 1 := by omega
  have HB : Hid (b ≠ p) := hb
  obtain ⟨W0, hW⟩ : ∃ W0, W0 = (w.alloc (.cells #[.pointer (some ⟨p, 0, none⟩), .map (some b)] 92)).alloc (.cells #[.int .i64 0, .int .i64 0, .slice none 0 0] 40) := ⟨_, rfl⟩
  have hC0 : Cx w p b n kk f W0 := by rw [hW]; exact Cx.start hp hm
  have hB0 : Below w.heap.size w W0 := by rw [hW]; exact ((Below.refl _ _).alloc (Nat.le_refl _) _).alloc (by simp) _
  have H0 : Hid (RS B W0 p en st ∧ Cx w p b n kk f W0) := ⟨h.below hB0, hC0⟩
  have HW : Hid (W0 = _) := hW
  have HF : Hid (f = nameAt names) := hf
  clear h hm hb hW hC0 hB0 hf
  have HU : Hid (∀ W s', RS B W p en s' → SMp W b n kk f → Calls Tryz.prog 149 #[exV p b, .int .i64 ((d : Int) + 1)] W (EPost B p en s' (peR names 0 s (d + 1) e0) W)) := hU
  clear hU
  have hd' : ¬ (40 : Int) < d := by omega
  have B1 : Hid (tookB st [45] = true) := b1
  clear b1
  unfold exV ptr
  go_enter Tryz.func149, Tryz.ntmps149
  go_wp2_with fail
  rw [← HW.out]
  clear HW
  refine (took_t B p en st _ [45] W0 H0.out.1 rfl (by decide) B1.out).mono ?_
  rintro e w1 ⟨he, h1, hr1⟩
  subst he
  have H1 : Hid (RS B w1 p en (tookS st [45]) ∧ Cx w p b n kk f w1) := ⟨h1, H0.out.2.on hp HB.out hr1⟩
  obtain ⟨x0, x1, xl⟩ := H1.out.2.1.two
  clear h1 hr1 H0
  go_wp2_with fail
  clear x0 x1 xl
  refine (HU.out w1 _ H1.out.1 H1.out.2.2.2.1).mono ?_
  rintro e v1 ⟨t1, a1, c1, s1, he, hx, h5, hr5, r5⟩
  subst he
  have H5 : Hid (RS B v1 p en s1 ∧ Cx w p b n kk f v1) := ⟨h5, H1.out.2.on hp HB.out hr5⟩
  have X5 : Hid (XG (fun b _ => w.heap.size + 1 + 1 ≤ b) v1 t1 a1) := xg_up hx (by have := H1.out.2.2.2.2.2; omega)
  have RR : Hid (Res en st (peR names 0 s d e0) s1 fun u => u = ⟨3, 0, [t1]⟩) := took_res (x := fun r => (peR names 0 s (d + 1) e0 r).bind fun x => .ok (⟨3, 0, [x.1]⟩, x.2)) (by decide) B1.out (Res.map (f := fun x => (⟨3, 0, [x]⟩ : Ex)) r5 (fun u hu => by rw [hu])) (fun r hr => peR_neg names s d e0 r hd hr)
  obtain ⟨x0, x1, xl⟩ := H5.out.2.1.two
  clear h5 hr5 r5 hx H1
  go_wp2_with fail
  clear x0 x1 xl
  refine (part_any 3 0 (some ⟨v1.heap.size, 0, none⟩) 1 1 _).mono ?_
  rintro e v2 ⟨he, hb2⟩
  subst he
  have hal : Below v1.heap.size v1 (v1.alloc (.cells #[.int .i64 t1.kind, .int .i64 t1.num, .slice a1 t1.kids.length c1] 40)) := (Below.refl _ _).alloc (Nat.le_refl _) _
  have hB2 := then_ hal hb2
  have H6 : Hid (RS B v2 p en s1 ∧ Cx w p b n kk f v2) := ⟨H5.out.1.below hB2, H5.out.2.below hp HB.out hB2⟩
  have hx2 : XG (fun b _ => w.heap.size + 1 + 1 ≤ b) v2 ⟨3, 0, [t1]⟩ (some ⟨v1.heap.size, 0, none⟩) := xg_one ⟨by decide, by decide⟩ ⟨by decide, by decide⟩ (by have := H5.out.2.2.2.2.2; omega) (XG.below X5.out hB2) ((Bx.new v1 #[.int .i64 t1.kind, .int .i64 t1.num, .slice a1 t1.kids.length c1] 40).below hb2)
  clear hal hB2 hb2 X5 H5
  have FN : Hid (∀ v0 v1 v2 : Value, _) := fun v0 v1 v2 => (H6.out.2).fin hp H6.out.1 hx2 v0 v1 v2
  obtain ⟨g0, g1, g2, gl⟩ := H6.out.2.2.1.three
  obtain ⟨f0, f1, f2⟩ := H6.out.2.2.1.fr
  go_wp2_with fail
  refine bodyPost_ret (v := xV ⟨3, 0, [t1]⟩ (some ⟨v1.heap.size, 0, none⟩) 1) ?_ rfl ⟨⟨3, 0, [t1]⟩, (some ⟨v1.heap.size, 0, none⟩), 1, s1, rfl, (FN.out _ _ _).1, (FN.out _ _ _).2.1, (FN.out _ _ _).2.2, RR.out⟩
  simp [results, Tryz.results149, go_sem, g0, g1, g2]

set_option maxRecDepth 100000 in
set_option maxHeartbeats 8000000 in
theorem unary_not (B p b n kk d : Nat) (f : List UInt8 → Option Nat) (names : List (List UInt8)) (hf : f = nameAt names) (hN : names.length ≤ 3000000) (s : Int) (e0 : Ex) (en : Int) (st : St) (w : World) (h : RS B w p en st) (hm : SMp w b n kk f) (hb : b ≠ p) (hd : ¬ 40 < d)
    (hU : ∀ W s', RS B W p en s' → SMp W b n kk f → Calls Tryz.prog 149 #[exV p b, .int .i64 ((d : Int) + 1)] W (EPost B p en s' (peR names 0 s (d + 1) e0) W)) (b1 : tookB st [45] = false) (b2 : tookB st [33] = true) :
    Calls Tryz.prog 149 #[exV p b, .int .i64 d] w (EPost B p en st (peR names 0 s d e0) w) := by
  have hp := h.lt
  have hp2 : p < w.heap.size + 1 + 1 := by omega
  have HB : Hid (b ≠ p) := hb
  obtain ⟨W0, hW⟩ : ∃ W0, W0 = (w.alloc (.cells #[.pointer (some ⟨p, 0, none⟩), .map (some b)] 92)).alloc (.cells #[.int .i64 0, .int .i64 0, .slice none 0 0] 40) := ⟨_, rfl⟩
  have hC0 : Cx w p b n kk f W0 := by rw [hW]; exact Cx.start hp hm
  have hB0 : Below w.heap.size w W0 := by rw [hW]; exact ((Below.refl _ _).alloc (Nat.le_refl _) _).alloc (by simp) _
  have H0 : Hid (RS B W0 p en st ∧ Cx w p b n kk f W0) := ⟨h.below hB0, hC0⟩
  have HW : Hid (W0 = _) := hW
  have HF : Hid (f = nameAt names) := hf
  clear h hm hb hW hC0 hB0 hf
  have HU : Hid (∀ W s', RS B W p en s' → SMp W b n kk f → Calls Tryz.prog 149 #[exV p b, .int .i64 ((d : Int) + 1)] W (EPost B p en s' (peR names 0 s (d + 1) e0) W)) := hU
  clear hU
  have hd' : ¬ (40 : Int) < d := by omega
  have B1 : Hid (tookB st [45] = false) := b1
  have B2 : Hid (tookB st [33] = true) := b2
  clear b1 b2
  unfold exV ptr
  go_enter Tryz.func149, Tryz.ntmps149
  go_wp2_with fail
  rw [← HW.out]
  clear HW
  refine (took_f B p en st _ [45] W0 H0.out.1 rfl (by decide) B1.out).mono ?_
  rintro e w1 ⟨he, h1, hr1⟩
  subst he
  have H1 : Hid (RS B w1 p en st ∧ Cx w p b n kk f w1) := ⟨h1, H0.out.2.on hp HB.out hr1⟩
  obtain ⟨x0, x1, xl⟩ := H1.out.2.1.two
  clear h1 hr1 H0
  go_wp2_with fail
  clear x0 x1 xl
  refine (took_t B p en st _ [33] w1 H1.out.1 rfl (by decide) B2.out).mono ?_
  rintro e w2 ⟨he, h2, hr2⟩
  subst he
  have H2 : Hid (RS B w2 p en (tookS st [33]) ∧ Cx w p b n kk f w2) := ⟨h2, H1.out.2.on hp HB.out hr2⟩
  obtain ⟨x0, x1, xl⟩ := H2.out.2.1.two
  clear h2 hr2 H1
  go_wp2_with fail
  clear x0 x1 xl
  refine (HU.out w2 _ H2.out.1 H2.out.2.2.2.1).mono ?_
  rintro e v1 ⟨t1, a1, c1, s1, he, hx, h5, hr5, r5⟩
  subst he
  have H5 : Hid (RS B v1 p en s1 ∧ Cx w p b n kk f v1) := ⟨h5, H2.out.2.on hp HB.out hr5⟩
  have X5 : Hid (XG (fun b _ => w.heap.size + 1 + 1 ≤ b) v1 t1 a1) := xg_up hx (by have := H2.out.2.2.2.2.2; omega)
  have RR : Hid (Res en st (peR names 0 s d e0) s1 fun u => u = ⟨4, 0, [t1]⟩) := took_res (x := fun r => (peR names 0 s (d + 1) e0 r).bind fun x => .ok (⟨4, 0, [x.1]⟩, x.2)) (by decide) B2.out (Res.map (f := fun x => (⟨4, 0, [x]⟩ : Ex)) r5 (fun u hu => by rw [hu])) (fun r hr => peR_not names s d e0 r hd hr)
  obtain ⟨x0, x1, xl⟩ := H5.out.2.1.two
  clear h5 hr5 r5 hx H2
  go_wp2_with fail
  clear x0 x1 xl
  refine (part_any 4 0 (some ⟨v1.heap.size, 0, none⟩) 1 1 _).mono ?_
  rintro e v2 ⟨he, hb2⟩
  subst he
  have hal : Below v1.heap.size v1 (v1.alloc (.cells #[.int .i64 t1.kind, .int .i64 t1.num, .slice a1 t1.kids.length c1] 40)) := (Below.refl _ _).alloc (Nat.le_refl _) _
  have hB2 := then_ hal hb2
  have H6 : Hid (RS B v2 p en s1 ∧ Cx w p b n kk f v2) := ⟨H5.out.1.below hB2, H5.out.2.below hp HB.out hB2⟩
  have hx2 : XG (fun b _ => w.heap.size + 1 + 1 ≤ b) v2 ⟨4, 0, [t1]⟩ (some ⟨v1.heap.size, 0, none⟩) := xg_one ⟨by decide, by decide⟩ ⟨by decide, by decide⟩ (by have := H5.out.2.2.2.2.2; omega) (XG.below X5.out hB2) ((Bx.new v1 #[.int .i64 t1.kind, .int .i64 t1.num, .slice a1 t1.kids.length c1] 40).below hb2)
  clear hal hB2 hb2 X5 H5
  have FN : Hid (∀ v0 v1 v2 : Value, _) := fun v0 v1 v2 => (H6.out.2).fin hp H6.out.1 hx2 v0 v1 v2
  obtain ⟨g0, g1, g2, gl⟩ := H6.out.2.2.1.three
  obtain ⟨f0, f1, f2⟩ := H6.out.2.2.1.fr
  go_wp2_with fail
  refine bodyPost_ret (v := xV ⟨4, 0, [t1]⟩ (some ⟨v1.heap.size, 0, none⟩) 1) ?_ rfl ⟨⟨4, 0, [t1]⟩, (some ⟨v1.heap.size, 0, none⟩), 1, s1, rfl, (FN.out _ _ _).1, (FN.out _ _ _).2.1, (FN.out _ _ _).2.2, RR.out⟩
  simp [results, Tryz.results149, go_sem, g0, g1, g2]

set_option maxRecDepth 100000 in
set_option maxHeartbeats 8000000 in
theorem unary_par (B p b n kk d : Nat) (f : List UInt8 → Option Nat) (names : List (List UInt8)) (hf : f = nameAt names) (hN : names.length ≤ 3000000) (s : Int) (e0 : Ex) (en : Int) (st : St) (w : World) (h : RS B w p en st) (hm : SMp w b n kk f) (hb : b ≠ p) (hd : ¬ 40 < d)
    (hE : ∀ W s', RS B W p en s' → SMp W b n kk f → Calls Tryz.prog 100 #[exV p b, .int .i64 0, .int .i64 ((d : Int) + 1)] W (EPost B p en s' (peR names 1 0 (d + 1) e0) W)) (b1 : tookB st [45] = false) (b2 : tookB st [33] = false) (b3 : tookB st [40] = true) :
    Calls Tryz.prog 149 #[exV p b, .int .i64 d] w (EPost B p en st (peR names 0 s d e0) w) := by
  have hp := h.lt
  have hp2 : p < w.heap.size + 1 + 1 := by omega
  have HB : Hid (b ≠ p) := hb
  obtain ⟨W0, hW⟩ : ∃ W0, W0 = (w.alloc (.cells #[.pointer (some ⟨p, 0, none⟩), .map (some b)] 92)).alloc (.cells #[.int .i64 0, .int .i64 0, .slice none 0 0] 40) := ⟨_, rfl⟩
  have hC0 : Cx w p b n kk f W0 := by rw [hW]; exact Cx.start hp hm
  have hB0 : Below w.heap.size w W0 := by rw [hW]; exact ((Below.refl _ _).alloc (Nat.le_refl _) _).alloc (by simp) _
  have H0 : Hid (RS B W0 p en st ∧ Cx w p b n kk f W0) := ⟨h.below hB0, hC0⟩
  have HW : Hid (W0 = _) := hW
  have HF : Hid (f = nameAt names) := hf
  clear h hm hb hW hC0 hB0 hf
  have HE : Hid (∀ W s', RS B W p en s' → SMp W b n kk f → Calls Tryz.prog 100 #[exV p b, .int .i64 0, .int .i64 ((d : Int) + 1)] W (EPost B p en s' (peR names 1 0 (d + 1) e0) W)) := hE
  clear hE
  have hd' : ¬ (40 : Int) < d := by omega
  have B1 : Hid (tookB st [45] = false) := b1
  have B2 : Hid (tookB st [33] = false) := b2
  have B3 : Hid (tookB st [40] = true) := b3
  clear b1 b2 b3
  unfold exV ptr
  go_enter Tryz.func149, Tryz.ntmps149
  go_wp2_with fail
  rw [← HW.out]
  clear HW
  refine (took_f B p en st _ [45] W0 H0.out.1 rfl (by decide) B1.out).mono ?_
  rintro e w1 ⟨he, h1, hr1⟩
  subst he
  have H1 : Hid (RS B w1 p en st ∧ Cx w p b n kk f w1) := ⟨h1, H0.out.2.on hp HB.out hr1⟩
  obtain ⟨x0, x1, xl⟩ := H1.out.2.1.two
  clear h1 hr1 H0
  go_wp2_with fail
  clear x0 x1 xl
  refine (took_f B p en st _ [33] w1 H1.out.1 rfl (by decide) B2.out).mono ?_
  rintro e w2 ⟨he, h2, hr2⟩
  subst he
  have H2 : Hid (RS B w2 p en st ∧ Cx w p b n kk f w2) := ⟨h2, H1.out.2.on hp HB.out hr2⟩
  obtain ⟨x0, x1, xl⟩ := H2.out.2.1.two
  clear h2 hr2 H1
  go_wp2_with fail
  clear x0 x1 xl
  refine (took_t B p en st _ [40] w2 H2.out.1 rfl (by decide) B3.out).mono ?_
  rintro e w3 ⟨he, h3, hr3⟩
  subst he
  have H3 : Hid (RS B w3 p en (tookS st [40]) ∧ Cx w p b n kk f w3) := ⟨h3, H2.out.2.on hp HB.out hr3⟩
  obtain ⟨x0, x1, xl⟩ := H3.out.2.1.two
  clear h3 hr3 H2
  go_wp2_with fail
  clear x0 x1 xl
  refine (HE.out w3 _ H3.out.1 H3.out.2.2.2.1).mono ?_
  rintro e v1 ⟨t1, a1, c1, s1, he, hx, h5, hr5, r5⟩
  subst he
  have E1 : Hid (Res en (tookS st [40]) (peR names 1 0 (d + 1) e0) s1 fun u => u = t1) := r5
  have hC5 := H3.out.2.on hp HB.out hr5
  have A5 : Hid (Ax (w.heap.size + 1 + 1) t1 a1 c1 v1.heap.size (v1.alloc (.cells #[.int .i64 t1.kind, .int .i64 t1.num, .slice a1 t1.kids.length c1] 40))) := Ax.start hx (by have := H3.out.2.2.2.2.2; omega) hr5.1.size
  have H5 : Hid (RS B (v1.alloc (.cells #[.int .i64 t1.kind, .int .i64 t1.num, .slice a1 t1.kids.length c1] 40)) p en s1 ∧ Cx w p b n kk f (v1.alloc (.cells #[.int .i64 t1.kind, .int .i64 t1.num, .slice a1 t1.kids.length c1] 40))) := ⟨h5.below ((Below.refl _ _).alloc (Nat.le_refl _) _), hC5.al hp HB.out _⟩
  obtain ⟨x0, x1, xl⟩ := hC5.1.two
  clear h5 hr5 r5 hx H3 hC5
  go_wp2_with fail
  clear x0 x1 xl
  obtain ⟨V1, hV1⟩ : ∃ V1, V1 = v1.alloc (.cells #[.int .i64 t1.kind, .int .i64 t1.num, .slice a1 t1.kids.length c1] 40) := ⟨_, rfl⟩
  rw [← hV1] at A5 H5 ⊢
  generalize v1.heap.size = q1 at *
  clear hV1 v1
  refine (must_l B p en s1 _ [41] V1 H5.out.1 rfl (by decide)).mono ?_
  rintro e v2 ⟨he, s2, h6, hr6, m6⟩
  subst he
  have H6 : Hid (RS B v2 p en s2 ∧ Cx w p b n kk f v2) := ⟨h6, H5.out.2.on hp HB.out hr6⟩
  have A6 : Hid (Ax (w.heap.size + 1 + 1) t1 a1 c1 q1 v2) := A5.out.on hp2 hr6
  have RR : Hid (Res en st (peR names 0 s d e0) s2 fun u => u = t1) := by
    refine took_res (x := fun r => (peR names 1 0 (d + 1) e0 r).bind fun x => (wantL [41] x.2).bind fun r2 => .ok (x.1, r2)) (by decide) B3.out (Res.bindp E1.out ?_) (fun r hr => peR_par names s d e0 r hd hr)
    dsimp only
    exact Res.want m6 (Res.pure rfl)
  obtain ⟨y0, y1, y2, yl⟩ := A6.out.2.1.three
  have hx2 := A6.out.1
  clear h6 hr6 m6 H5 A5
  have FN : Hid (∀ v0 v1 v2 : Value, _) := fun v0 v1 v2 => (H6.out.2).fin hp H6.out.1 hx2 v0 v1 v2
  obtain ⟨g0, g1, g2, gl⟩ := H6.out.2.2.1.three
  obtain ⟨f0, f1, f2⟩ := H6.out.2.2.1.fr
  go_wp2_with fail
  refine bodyPost_ret (v := xV t1 a1 c1) ?_ rfl ⟨t1, a1, c1, s2, rfl, (FN.out _ _ _).1, (FN.out _ _ _).2.1, (FN.out _ _ _).2.2, RR.out⟩
  simp [results, Tryz.results149, go_sem, g0, g1, g2]

set_option maxRecDepth 100000 in
set_option maxHeartbeats 8000000 in
theorem unary_if (B p b n kk d : Nat) (f : List UInt8 → Option Nat) (names : List (List UInt8)) (hf : f = nameAt names) (hN : names.length ≤ 3000000) (s : Int) (e0 : Ex) (en : Int) (st : St) (w : World) (h : RS B w p en st) (hm : SMp w b n kk f) (hb : b ≠ p) (hd : ¬ 40 < d)
    (hE : ∀ W s', RS B W p en s' → SMp W b n kk f → Calls Tryz.prog 100 #[exV p b, .int .i64 0, .int .i64 ((d : Int) + 1)] W (EPost B p en s' (peR names 1 0 (d + 1) e0) W)) (b1 : tookB st [45] = false) (b2 : tookB st [33] = false) (b3 : tookB st [40] = false) (b4 : tookB st [105, 102] = true) :
    Calls Tryz.prog 149 #[exV p b, .int .i64 d] w (EPost B p en st (peR names 0 s d e0) w) := by
  have hp := h.lt
  have hp2 : p < w.heap.size + 1 + 1 := by omega
  have HB : Hid (b ≠ p) := hb
  obtain ⟨W0, hW⟩ : ∃ W0, W0 = (w.alloc (.cells #[.pointer (some ⟨p, 0, none⟩), .map (some b)] 92)).alloc (.cells #[.int .i64 0, .int .i64 0, .slice none 0 0] 40) := ⟨_, rfl⟩
  have hC0 : Cx w p b n kk f W0 := by rw [hW]; exact Cx.start hp hm
  have hB0 : Below w.heap.size w W0 := by rw [hW]; exact ((Below.refl _ _).alloc (Nat.le_refl _) _).alloc (by simp) _
  have H0 : Hid (RS B W0 p en st ∧ Cx w p b n kk f W0) := ⟨h.below hB0, hC0⟩
  have HW : Hid (W0 = _) := hW
  have HF : Hid (f = nameAt names) := hf
  clear h hm hb hW hC0 hB0 hf
  have HE : Hid (∀ W s', RS B W p en s' → SMp W b n kk f → Calls Tryz.prog 100 #[exV p b, .int .i64 0, .int .i64 ((d : Int) + 1)] W (EPost B p en s' (peR names 1 0 (d + 1) e0) W)) := hE
  clear hE
  have hd' : ¬ (40 : Int) < d := by omega
  have B1 : Hid (tookB st [45] = false) := b1
  have B2 : Hid (tookB st [33] = false) := b2
  have B3 : Hid (tookB st [40] = false) := b3
  have B4 : Hid (tookB st [105, 102] = true) := b4
  clear b1 b2 b3 b4
  unfold exV ptr
  go_enter Tryz.func149, Tryz.ntmps149
  go_wp2_with fail
  rw [← HW.out]
  clear HW
  refine (took_f B p en st _ [45] W0 H0.out.1 rfl (by decide) B1.out).mono ?_
  rintro e w1 ⟨he, h1, hr1⟩
  subst he
  have H1 : Hid (RS B w1 p en st ∧ Cx w p b n kk f w1) := ⟨h1, H0.out.2.on hp HB.out hr1⟩
  obtain ⟨x0, x1, xl⟩ := H1.out.2.1.two
  clear h1 hr1 H0
  go_wp2_with fail
  clear x0 x1 xl
  refine (took_f B p en st _ [33] w1 H1.out.1 rfl (by decide) B2.out).mono ?_
  rintro e w2 ⟨he, h2, hr2⟩
  subst he
  have H2 : Hid (RS B w2 p en st ∧ Cx w p b n kk f w2) := ⟨h2, H1.out.2.on hp HB.out hr2⟩
  obtain ⟨x0, x1, xl⟩ := H2.out.2.1.two
  clear h2 hr2 H1
  go_wp2_with fail
  clear x0 x1 xl
  refine (took_f B p en st _ [40] w2 H2.out.1 rfl (by decide) B3.out).mono ?_
  rintro e w3 ⟨he, h3, hr3⟩
  subst he
  have H3 : Hid (RS B w3 p en st ∧ Cx w p b n kk f w3) := ⟨h3, H2.out.2.on hp HB.out hr3⟩
  obtain ⟨x0, x1, xl⟩ := H3.out.2.1.two
  clear h3 hr3 H2
  go_wp2_with fail
  clear x0 x1 xl
  refine (took_t B p en st _ [105, 102] w3 H3.out.1 rfl (by decide) B4.out).mono ?_
  rintro e w4 ⟨he, h4, hr4⟩
  subst he
  have H4 : Hid (RS B w4 p en (tookS st [105, 102]) ∧ Cx w p b n kk f w4) := ⟨h4, H3.out.2.on hp HB.out hr4⟩
  obtain ⟨x0, x1, xl⟩ := H4.out.2.1.two
  clear h4 hr4 H3
  go_wp2_with fail
  clear x0 x1 xl
  refine (choice_any B p b n kk (d + 1) f names e0 en _ w4 H4.out.1 H4.out.2.2.2.1 HB.out (by omega) HE.out).mono ?_
  rintro e v1 ⟨t1, a1, c1, s1, he, hx, h5, hr5, r5⟩
  subst he
  have H5 : Hid (RS B v1 p en s1 ∧ Cx w p b n kk f v1) := ⟨h5, H4.out.2.on hp HB.out hr5⟩
  have hx2 : XG (fun b _ => w.heap.size + 1 + 1 ≤ b) v1 t1 a1 := xg_up hx (by have := H4.out.2.2.2.2.2; omega)
  have RR : Hid (Res en st (peR names 0 s d e0) s1 fun u => u = t1) := took_res (x := chP names (d + 1) e0) (by decide) B4.out r5 (fun r hr => peR_if names s d e0 r hd hr)
  clear h5 hr5 r5 hx H4
  have FN : Hid (∀ v0 v1 v2 : Value, _) := fun v0 v1 v2 => (H5.out.2).fin hp H5.out.1 hx2 v0 v1 v2
  obtain ⟨g0, g1, g2, gl⟩ := H5.out.2.2.1.three
  obtain ⟨f0, f1, f2⟩ := H5.out.2.2.1.fr
  go_wp2_with fail
  refine bodyPost_ret (v := xV t1 a1 c1) ?_ rfl ⟨t1, a1, c1, s1, rfl, (FN.out _ _ _).1, (FN.out _ _ _).2.1, (FN.out _ _ _).2.2, RR.out⟩
  simp [results, Tryz.results149, go_sem, g0, g1, g2]

set_option maxRecDepth 100000 in
set_option maxHeartbeats 8000000 in
theorem unary_num (B p b n kk d : Nat) (f : List UInt8 → Option Nat) (names : List (List UInt8)) (hf : f = nameAt names) (hN : names.length ≤ 3000000) (s : Int) (e0 : Ex) (en : Int) (st : St) (w : World) (h : RS B w p en st) (hm : SMp w b n kk f) (hb : b ≠ p) (hd : ¬ 40 < d) (b1 : tookB st [45] = false) (b2 : tookB st [33] = false) (b3 : tookB st [40] = false) (b4 : tookB st [105, 102] = false) (hk2 : (hereF en st).kind = 2) :
    Calls Tryz.prog 149 #[exV p b, .int .i64 d] w (EPost B p en st (peR names 0 s d e0) w) := by
  have hp := h.lt
  have hp2 : p < w.heap.size + 1 + 1 := by omega
  have HB : Hid (b ≠ p) := hb
  obtain ⟨W0, hW⟩ : ∃ W0, W0 = (w.alloc (.cells #[.pointer (some ⟨p, 0, none⟩), .map (some b)] 92)).alloc (.cells #[.int .i64 0, .int .i64 0, .slice none 0 0] 40) := ⟨_, rfl⟩
  have hC0 : Cx w p b n kk f W0 := by rw [hW]; exact Cx.start hp hm
  have hB0 : Below w.heap.size w W0 := by rw [hW]; exact ((Below.refl _ _).alloc (Nat.le_refl _) _).alloc (by simp) _
  have H0 : Hid (RS B W0 p en st ∧ Cx w p b n kk f W0) := ⟨h.below hB0, hC0⟩
  have HW : Hid (W0 = _) := hW
  have HF : Hid (f = nameAt names) := hf
  clear h hm hb hW hC0 hB0 hf
  have hd' : ¬ (40 : Int) < d := by omega
  have B1 : Hid (tookB st [45] = false) := b1
  have B2 : Hid (tookB st [33] = false) := b2
  have B3 : Hid (tookB st [40] = false) := b3
  have B4 : Hid (tookB st [105, 102] = false) := b4
  clear b1 b2 b3 b4
  obtain ⟨k, T, pl, hv, hk, -, -⟩ := here_parts en st
  have HV : Hid (tokV (hereF en st) = .agg #[.int .i64 k, .string T, .int .i64 pl]) := hv
  have hfk := field_kind k T pl
  have RR : Hid (Res en st (peR names 0 s d e0) (numberF en st).2 fun u => u = ⟨1, (numberF en st).1, []⟩) := leaf_res hd B1.out B2.out B3.out B4.out (leaf_num en st hk2)
  obtain rfl : k = 2 := hk.trans hk2
  clear hv hk hk2
  unfold exV ptr
  go_enter Tryz.func149, Tryz.ntmps149
  go_wp2_with fail
  rw [← HW.out]
  clear HW
  refine (took_f B p en st _ [45] W0 H0.out.1 rfl (by decide) B1.out).mono ?_
  rintro e w1 ⟨he, h1, hr1⟩
  subst he
  have H1 : Hid (RS B w1 p en st ∧ Cx w p b n kk f w1) := ⟨h1, H0.out.2.on hp HB.out hr1⟩
  obtain ⟨x0, x1, xl⟩ := H1.out.2.1.two
  clear h1 hr1 H0
  go_wp2_with fail
  clear x0 x1 xl
  refine (took_f B p en st _ [33] w1 H1.out.1 rfl (by decide) B2.out).mono ?_
  rintro e w2 ⟨he, h2, hr2⟩
  subst he
  have H2 : Hid (RS B w2 p en st ∧ Cx w p b n kk f w2) := ⟨h2, H1.out.2.on hp HB.out hr2⟩
  obtain ⟨x0, x1, xl⟩ := H2.out.2.1.two
  clear h2 hr2 H1
  go_wp2_with fail
  clear x0 x1 xl
  refine (took_f B p en st _ [40] w2 H2.out.1 rfl (by decide) B3.out).mono ?_
  rintro e w3 ⟨he, h3, hr3⟩
  subst he
  have H3 : Hid (RS B w3 p en st ∧ Cx w p b n kk f w3) := ⟨h3, H2.out.2.on hp HB.out hr3⟩
  obtain ⟨x0, x1, xl⟩ := H3.out.2.1.two
  clear h3 hr3 H2
  go_wp2_with fail
  clear x0 x1 xl
  refine (took_f B p en st _ [105, 102] w3 H3.out.1 rfl (by decide) B4.out).mono ?_
  rintro e w4 ⟨he, h4, hr4⟩
  subst he
  have H4 : Hid (RS B w4 p en st ∧ Cx w p b n kk f w4) := ⟨h4, H3.out.2.on hp HB.out hr4⟩
  obtain ⟨x0, x1, xl⟩ := H4.out.2.1.two
  clear h4 hr4 H3
  go_wp2_with fail
  clear x0 x1 xl
  refine (here_any B p en st w4 H4.out.1).mono ?_
  rintro e w5 ⟨he, hb5⟩
  rw [HV.out] at he
  subst he
  have H5 : Hid (RS B w5 p en st ∧ Cx w p b n kk f w5) := ⟨H4.out.1.below hb5, H4.out.2.below hp HB.out hb5⟩
  obtain ⟨x0, x1, xl⟩ := H5.out.2.1.two
  clear hb5 H4
  go_wp2_with fail
  clear x0 x1 xl
  refine (number_any B p en st w5 H5.out.1).mono ?_
  rintro e w6 ⟨he, h6, hr6⟩
  subst he
  have hz := number_in en st
  have HZ : Hid (In64 (numberF en st).1) := ⟨by omega, by omega⟩
  clear hz
  have H6 : Hid (RS B w6 p en (numberF en st).2 ∧ Cx w p b n kk f w6) := ⟨h6, H5.out.2.on hp HB.out hr6⟩
  generalize (numberF en st).1 = z at *
  generalize (numberF en st).2 = sf at *
  obtain ⟨x0, x1, xl⟩ := H6.out.2.1.two
  clear h6 hr6 H5
  go_wp2_with fail
  clear x0 x1 xl
  refine (part_any 1 z none 0 0 _).mono ?_
  rintro e v2 ⟨he, hb2⟩
  subst he
  have H7 : Hid (RS B v2 p en sf ∧ Cx w p b n kk f v2) := ⟨H6.out.1.below hb2, H6.out.2.below hp HB.out hb2⟩
  have hx2 : XG (fun b _ => w.heap.size + 1 + 1 ≤ b) v2 ⟨1, z, []⟩ none := xg_leaf ⟨by decide, by decide⟩ HZ.out _
  clear hb2 H6
  have FN : Hid (∀ v0 v1 v2 : Value, _) := fun v0 v1 v2 => (H7.out.2).fin hp H7.out.1 hx2 v0 v1 v2
  obtain ⟨g0, g1, g2, gl⟩ := H7.out.2.2.1.three
  obtain ⟨f0, f1, f2⟩ := H7.out.2.2.1.fr
  go_wp2_with fail
  refine bodyPost_ret (v := xV ⟨1, z, []⟩ none 0) ?_ rfl ⟨⟨1, z, []⟩, none, 0, sf, rfl, (FN.out _ _ _).1, (FN.out _ _ _).2.1, (FN.out _ _ _).2.2, RR.out⟩
  simp [results, Tryz.results149, go_sem, g0, g1, g2]

set_option maxRecDepth 100000 in
set_option maxHeartbeats 8000000 in
theorem unary_name (B p b n kk d : Nat) (f : List UInt8 → Option Nat) (names : List (List UInt8)) (hf : f = nameAt names) (hN : names.length ≤ 3000000) (s : Int) (e0 : Ex) (en : Int) (st : St) (w : World) (h : RS B w p en st) (hm : SMp w b n kk f) (hb : b ≠ p) (hd : ¬ 40 < d) (b1 : tookB st [45] = false) (b2 : tookB st [33] = false) (b3 : tookB st [40] = false) (b4 : tookB st [105, 102] = false) (hk2 : (hereF en st).kind ≠ 2) :
    Calls Tryz.prog 149 #[exV p b, .int .i64 d] w (EPost B p en st (peR names 0 s d e0) w) := by
  have hp := h.lt
  have hp2 : p < w.heap.size + 1 + 1 := by omega
  have HB : Hid (b ≠ p) := hb
  obtain ⟨W0, hW⟩ : ∃ W0, W0 = (w.alloc (.cells #[.pointer (some ⟨p, 0, none⟩), .map (some b)] 92)).alloc (.cells #[.int .i64 0, .int .i64 0, .slice none 0 0] 40) := ⟨_, rfl⟩
  have hC0 : Cx w p b n kk f W0 := by rw [hW]; exact Cx.start hp hm
  have hB0 : Below w.heap.size w W0 := by rw [hW]; exact ((Below.refl _ _).alloc (Nat.le_refl _) _).alloc (by simp) _
  have H0 : Hid (RS B W0 p en st ∧ Cx w p b n kk f W0) := ⟨h.below hB0, hC0⟩
  have HW : Hid (W0 = _) := hW
  have HF : Hid (f = nameAt names) := hf
  clear h hm hb hW hC0 hB0 hf
  have hd' : ¬ (40 : Int) < d := by omega
  have B1 : Hid (tookB st [45] = false) := b1
  have B2 : Hid (tookB st [33] = false) := b2
  have B3 : Hid (tookB st [40] = false) := b3
  have B4 : Hid (tookB st [105, 102] = false) := b4
  clear b1 b2 b3 b4
  obtain ⟨k, T, pl, hv, hk, -, -⟩ := here_parts en st
  have HV : Hid (tokV (hereF en st) = .agg #[.int .i64 k, .string T, .int .i64 pl]) := hv
  have hfk := field_kind k T pl
  have RR : Hid (Res en st (peR names 0 s d e0) (knownF en f st) fun u => u = ⟨2, (((f (nameF en st).1).getD 0 : Nat) : Int), []⟩) := leaf_res hd B1.out B2.out B3.out B4.out (leaf_name HF.out en st hk2)
  have hk3 : (k == 2) = false := by rw [← hk] at hk2; simpa using hk2
  clear hv hk hk2
  unfold exV ptr
  go_enter Tryz.func149, Tryz.ntmps149
  go_wp2_with fail
  rw [← HW.out]
  clear HW
  refine (took_f B p en st _ [45] W0 H0.out.1 rfl (by decide) B1.out).mono ?_
  rintro e w1 ⟨he, h1, hr1⟩
  subst he
  have H1 : Hid (RS B w1 p en st ∧ Cx w p b n kk f w1) := ⟨h1, H0.out.2.on hp HB.out hr1⟩
  obtain ⟨x0, x1, xl⟩ := H1.out.2.1.two
  clear h1 hr1 H0
  go_wp2_with fail
  clear x0 x1 xl
  refine (took_f B p en st _ [33] w1 H1.out.1 rfl (by decide) B2.out).mono ?_
  rintro e w2 ⟨he, h2, hr2⟩
  subst he
  have H2 : Hid (RS B w2 p en st ∧ Cx w p b n kk f w2) := ⟨h2, H1.out.2.on hp HB.out hr2⟩
  obtain ⟨x0, x1, xl⟩ := H2.out.2.1.two
  clear h2 hr2 H1
  go_wp2_with fail
  clear x0 x1 xl
  refine (took_f B p en st _ [40] w2 H2.out.1 rfl (by decide) B3.out).mono ?_
  rintro e w3 ⟨he, h3, hr3⟩
  subst he
  have H3 : Hid (RS B w3 p en st ∧ Cx w p b n kk f w3) := ⟨h3, H2.out.2.on hp HB.out hr3⟩
  obtain ⟨x0, x1, xl⟩ := H3.out.2.1.two
  clear h3 hr3 H2
  go_wp2_with fail
  clear x0 x1 xl
  refine (took_f B p en st _ [105, 102] w3 H3.out.1 rfl (by decide) B4.out).mono ?_
  rintro e w4 ⟨he, h4, hr4⟩
  subst he
  have H4 : Hid (RS B w4 p en st ∧ Cx w p b n kk f w4) := ⟨h4, H3.out.2.on hp HB.out hr4⟩
  obtain ⟨x0, x1, xl⟩ := H4.out.2.1.two
  clear h4 hr4 H3
  go_wp2_with fail
  clear x0 x1 xl
  refine (here_any B p en st w4 H4.out.1).mono ?_
  rintro e w5 ⟨he, hb5⟩
  rw [HV.out] at he
  subst he
  have H5 : Hid (RS B w5 p en st ∧ Cx w p b n kk f w5) := ⟨H4.out.1.below hb5, H4.out.2.below hp HB.out hb5⟩
  obtain ⟨x0, x1, xl⟩ := H5.out.2.1.two
  clear hb5 H4
  go_wp2_with fail
  clear x0 x1 xl
  refine (known_any B p b n kk f en st w5 H5.out.1 H5.out.2.2.2.1 HB.out).mono ?_
  rintro e w6 ⟨he, h6, hr6⟩
  subst he
  have HZ : Hid (In64 (((f (nameF en st).1).getD 0 : Nat) : Int)) := by have := name_lt hN (nameF en st).1; rw [← HF.out] at this; exact ⟨by omega, by omega⟩
  have H6 : Hid (RS B w6 p en (knownF en f st) ∧ Cx w p b n kk f w6) := ⟨h6, H5.out.2.on hp HB.out hr6⟩
  generalize (((f (nameF en st).1).getD 0 : Nat) : Int) = z at *
  generalize (knownF en f st) = sf at *
  obtain ⟨x0, x1, xl⟩ := H6.out.2.1.two
  clear h6 hr6 H5
  go_wp2_with fail
  clear x0 x1 xl
  refine (part_any 2 z none 0 0 _).mono ?_
  rintro e v2 ⟨he, hb2⟩
  subst he
  have H7 : Hid (RS B v2 p en sf ∧ Cx w p b n kk f v2) := ⟨H6.out.1.below hb2, H6.out.2.below hp HB.out hb2⟩
  have hx2 : XG (fun b _ => w.heap.size + 1 + 1 ≤ b) v2 ⟨2, z, []⟩ none := xg_leaf ⟨by decide, by decide⟩ HZ.out _
  clear hb2 H6
  have FN : Hid (∀ v0 v1 v2 : Value, _) := fun v0 v1 v2 => (H7.out.2).fin hp H7.out.1 hx2 v0 v1 v2
  obtain ⟨g0, g1, g2, gl⟩ := H7.out.2.2.1.three
  obtain ⟨f0, f1, f2⟩ := H7.out.2.2.1.fr
  go_wp2_with fail
  refine bodyPost_ret (v := xV ⟨2, z, []⟩ none 0) ?_ rfl ⟨⟨2, z, []⟩, none, 0, sf, rfl, (FN.out _ _ _).1, (FN.out _ _ _).2.1, (FN.out _ _ _).2.2, RR.out⟩
  simp [results, Tryz.results149, go_sem, g0, g1, g2]

end Go.Proofs.YtjcanodnlnodpaaGreatDoor.Parse
/- A part of an expression that is too deep: a contract of the call, over the turned program. -/
namespace Go.Proofs.YtjcanodnlnodpaaGreatDoor.Parse
open Go.RowKit Go.Maps Go.Proofs.YtjcanodnlnodpaaGreatDoor.Frame Go.Proofs.YtjcanodnlnodpaaGreatDoor.Token Go.Proofs.YtjcanodnlnodpaaGreatDoor.Expr Go.Proofs.YtjcanodnlnodpaaGreatDoor.Calc
set_option linter.unusedVariables false
set_option linter.unusedSimpArgs false

theorem fail_dead (st : St) (pl er : Int) : ∃ e, failS st pl er = .error e := by cases st with | error e => exact ⟨e, rfl⟩ | ok r => exact ⟨_, rfl⟩
theorem known_dead (en : Int) (f : List UInt8 → Option Nat) (e : Int × Int) : knownF en f (.error e) = .error e := by unfold knownF; split <;> rfl
theorem deep_res {names : List (List UInt8)} {en s : Int} {d : Nat} {e0 : Ex} {st : St} {P : Ex → Prop} (hd : 40 < d) : Res en st (peR names 0 s d e0) (failS st (hereF en st).at_ 2) P := by
  cases st with
  | error e => exact Res.of_dead e
  | ok r =>
    show Res en (.ok r) _ (.error ((hereF en (.ok r)).at_, 2)) _
    rw [here_plc]
    exact Res.of_err (peR_deep names s d e0 (r.map ktI) hd) List.suffix_rfl rfl
set_option maxRecDepth 100000 in
set_option maxHeartbeats 8000000 in
theorem unary_deep (B p b n kk d : Nat) (f : List UInt8 → Option Nat) (names : List (List UInt8)) (hf : f = nameAt names) (hN : names.length ≤ 3000000) (s : Int) (e0 : Ex) (en : Int) (st : St) (w : World) (h : RS B w p en st) (hm : SMp w b n kk f) (hb : b ≠ p) (hd : 40 < d) :
    Calls Tryz.prog 149 #[exV p b, .int .i64 d] w (EPost B p en st (peR names 0 s d e0) w) := by
  have hp := h.lt
  have hp2 : p < w.heap.size + 1 + 1 := by omega
  have HB : Hid (b ≠ p) := hb
  obtain ⟨W0, hW⟩ : ∃ W0, W0 = (w.alloc (.cells #[.pointer (some ⟨p, 0, none⟩), .map (some b)] 92)).alloc (.cells #[.int .i64 0, .int .i64 0, .slice none 0 0] 40) := ⟨_, rfl⟩
  have hC0 : Cx w p b n kk f W0 := by rw [hW]; exact Cx.start hp hm
  have hB0 : Below w.heap.size w W0 := by rw [hW]; exact ((Below.refl _ _).alloc (Nat.le_refl _) _).alloc (by simp) _
  have H0 : Hid (RS B W0 p en st ∧ Cx w p b n kk f W0) := ⟨h.below hB0, hC0⟩
  have HW : Hid (W0 = _) := hW
  have HF : Hid (f = nameAt names) := hf
  have hd' : (40 : Int) < d := by omega
  have RR0 : Hid (∀ P, Res en st (peR names 0 s d e0) (failS st (hereF en st).at_ 2) P) := fun P => deep_res hd
  obtain ⟨k, T, pl, hv, -, -, hpl⟩ := here_parts en st
  have HV : Hid (tokV (hereF en st) = .agg #[.int .i64 k, .string T, .int .i64 pl]) := hv
  have hfd := field_at k T pl
  rw [← hpl] at RR0
  obtain ⟨ex, hex⟩ := fail_dead st pl 2
  rw [hex] at RR0
  have HX : Hid (failS st pl 2 = .error ex) := hex
  obtain ⟨x0, x1, xl⟩ := hC0.1.two
  have hp0 : p < W0.heap.size := by have := hC0.2.2.2.2; omega
  have hne : ¬ w.heap.size = p := by omega
  have hne2 : ¬ p = w.heap.size := by omega
  clear h hm hb hW hC0 hB0 hf hv hpl hex hd
  unfold exV ptr
  go_enter Tryz.func149, Tryz.ntmps149
  go_wp2_with fail
  rw [← HW.out]
  clear HW
  go_region_held3 (fun w' => w'.cell? ⟨w.heap.size, 0, none⟩ = some (.pointer (some ⟨p, 0, none⟩))) (go_keep)
    (first
      | (go_at_call 142; refine (here_any B p en st _ (H0.out.1.below ((Below.refl _ _).drew))).mono ?_; rintro e w1 ⟨he, hb1⟩; rw [HV.out] at he; subst he; have g1 := (hb1.cell (p := ⟨w.heap.size, 0, none⟩) xl).trans x0)
      | (go_at_call 144; refine (fail_any B p en st pl 2 _ (H0.out.1.below (undrew' hb1)) (by decide)).mono ?_; rintro e w2 ⟨he, h2, hr2⟩; subst he; have g2 := hr2.1.cell (show ¬ w.heap.size = p from hne) g1))
  have hB1 := undrew' hb1
  have HD : Hid (RS B w2 p en (.error ex) ∧ Cx w p b n kk f w2) := by
    rw [HX.out] at h2
    exact ⟨h2, (H0.out.2.below hp HB.out hB1).on hp HB.out hr2⟩
  clear g1 g2 x0 x1 xl hp0 hne hne2 hB1 hb1 h2 hr2 H0
  obtain ⟨x0, x1, xl⟩ := HD.out.2.1.two
  go_wp2_with fail
  clear x0 x1 xl
  refine (took_f B p en (.error ex) _ [45] w2 HD.out.1 rfl (by decide) rfl).mono ?_
  rintro e u1 ⟨he, h1, hr1⟩
  subst he
  have H1 : Hid (RS B u1 p en (.error ex) ∧ Cx w p b n kk f u1) := ⟨h1, HD.out.2.on hp HB.out hr1⟩
  obtain ⟨x0, x1, xl⟩ := H1.out.2.1.two
  clear h1 hr1 HD
  go_wp2_with fail
  clear x0 x1 xl
  refine (took_f B p en (.error ex) _ [33] u1 H1.out.1 rfl (by decide) rfl).mono ?_
  rintro e u2 ⟨he, h2, hr2⟩
  subst he
  have H2 : Hid (RS B u2 p en (.error ex) ∧ Cx w p b n kk f u2) := ⟨h2, H1.out.2.on hp HB.out hr2⟩
  obtain ⟨x0, x1, xl⟩ := H2.out.2.1.two
  clear h2 hr2 H1
  go_wp2_with fail
  clear x0 x1 xl
  refine (took_f B p en (.error ex) _ [40] u2 H2.out.1 rfl (by decide) rfl).mono ?_
  rintro e u3 ⟨he, h3, hr3⟩
  subst he
  have H3 : Hid (RS B u3 p en (.error ex) ∧ Cx w p b n kk f u3) := ⟨h3, H2.out.2.on hp HB.out hr3⟩
  obtain ⟨x0, x1, xl⟩ := H3.out.2.1.two
  clear h3 hr3 H2
  go_wp2_with fail
  clear x0 x1 xl
  refine (took_f B p en (.error ex) _ [105, 102] u3 H3.out.1 rfl (by decide) rfl).mono ?_
  rintro e u4 ⟨he, h4, hr4⟩
  subst he
  have H4 : Hid (RS B u4 p en (.error ex) ∧ Cx w p b n kk f u4) := ⟨h4, H3.out.2.on hp HB.out hr4⟩
  obtain ⟨x0, x1, xl⟩ := H4.out.2.1.two
  clear h4 hr4 H3
  go_wp2_with fail
  clear x0 x1 xl
  have hfk := field_kind 0 (str []) en
  refine (here_any B p en (.error ex) u4 H4.out.1).mono ?_
  rintro e w5 ⟨he, hb5⟩
  have he : e = .returned (.agg #[.int .i64 0, .string (str []), .int .i64 en]) := he
  subst he
  have H5 : Hid (RS B w5 p en (.error ex) ∧ Cx w p b n kk f w5) := ⟨H4.out.1.below hb5, H4.out.2.below hp HB.out hb5⟩
  obtain ⟨x0, x1, xl⟩ := H5.out.2.1.two
  clear hb5 H4
  go_wp2_with fail
  clear x0 x1 xl
  refine (known_any B p b n kk f en (.error ex) w5 H5.out.1 H5.out.2.2.2.1 HB.out).mono ?_
  rintro e w6 ⟨he, h6, hr6⟩
  subst he
  rw [known_dead] at h6
  have HZ : Hid (In64 (((f (nameF en (.error ex)).1).getD 0 : Nat) : Int)) := by have := name_lt hN (nameF en (.error ex)).1; rw [← HF.out] at this; exact ⟨by omega, by omega⟩
  have H6 : Hid (RS B w6 p en (.error ex) ∧ Cx w p b n kk f w6) := ⟨h6, H5.out.2.on hp HB.out hr6⟩
  generalize (((f (nameF en (.error ex)).1).getD 0 : Nat) : Int) = z at *
  obtain ⟨x0, x1, xl⟩ := H6.out.2.1.two
  clear h6 hr6 H5
  go_wp2_with fail
  clear x0 x1 xl
  refine (part_any 2 z none 0 0 _).mono ?_
  rintro e v2 ⟨he, hb2⟩
  subst he
  have H7 : Hid (RS B v2 p en (.error ex) ∧ Cx w p b n kk f v2) := ⟨H6.out.1.below hb2, H6.out.2.below hp HB.out hb2⟩
  have hx2 : XG (fun b _ => w.heap.size + 1 + 1 ≤ b) v2 ⟨2, z, []⟩ none := xg_leaf ⟨by decide, by decide⟩ HZ.out _
  clear hb2 H6
  have FN : Hid (∀ v0 v1 v2 : Value, _) := fun v0 v1 v2 => (H7.out.2).fin hp H7.out.1 hx2 v0 v1 v2
  obtain ⟨g0, g1, g2, gl⟩ := H7.out.2.2.1.three
  obtain ⟨f0, f1, f2⟩ := H7.out.2.2.1.fr
  go_wp2_with fail
  refine bodyPost_ret (v := xV ⟨2, z, []⟩ none 0) ?_ rfl ⟨⟨2, z, []⟩, none, 0, .error ex, rfl, (FN.out _ _ _).1, (FN.out _ _ _).2.1, (FN.out _ _ _).2.2, RR0.out _⟩
  simp [results, Tryz.results149, go_sem, g0, g1, g2]

theorem unary_all (B p b n kk d : Nat) (f : List UInt8 → Option Nat) (names : List (List UInt8)) (hf : f = nameAt names) (hN : names.length ≤ 3000000) (s : Int) (e0 : Ex) (en : Int) (st : St) (w : World) (h : RS B w p en st) (hm : SMp w b n kk f) (hb : b ≠ p)
    (hU : ¬ 40 < d → ∀ W s', RS B W p en s' → SMp W b n kk f → Calls Tryz.prog 149 #[exV p b, .int .i64 ((d : Int) + 1)] W (EPost B p en s' (peR names 0 s (d + 1) e0) W))
    (hE : ¬ 40 < d → ∀ W s', RS B W p en s' → SMp W b n kk f → Calls Tryz.prog 100 #[exV p b, .int .i64 0, .int .i64 ((d : Int) + 1)] W (EPost B p en s' (peR names 1 0 (d + 1) e0) W)) :
    Calls Tryz.prog 149 #[exV p b, .int .i64 d] w (EPost B p en st (peR names 0 s d e0) w) := by
  by_cases hd : 40 < d
  · exact unary_deep B p b n kk d f names hf hN s e0 en st w h hm hb hd
  cases b1 : tookB st [45] with
  | true => exact unary_neg B p b n kk d f names hf hN s e0 en st w h hm hb hd (hU hd) b1
  | false =>
    cases b2 : tookB st [33] with
    | true => exact unary_not B p b n kk d f names hf hN s e0 en st w h hm hb hd (hU hd) b1 b2
    | false =>
      cases b3 : tookB st [40] with
      | true => exact unary_par B p b n kk d f names hf hN s e0 en st w h hm hb hd (hE hd) b1 b2 b3
      | false =>
        cases b4 : tookB st [105, 102] with
        | true => exact unary_if B p b n kk d f names hf hN s e0 en st w h hm hb hd (hE hd) b1 b2 b3 b4
        | false =>
          by_cases hk : (hereF en st).kind = 2
          · exact unary_num B p b n kk d f names hf hN s e0 en st w h hm hb hd b1 b2 b3 b4 hk
          · exact unary_name B p b n kk d f names hf hN s e0 en st w h hm hb hd b1 b2 b3 b4 hk
end Go.Proofs.YtjcanodnlnodpaaGreatDoor.Parse
/- Expressions: what the loop over signs keeps. -/
namespace Go.Proofs.YtjcanodnlnodpaaGreatDoor.Parse
open Go.RowKit Go.Maps Go.Proofs.YtjcanodnlnodpaaGreatDoor.Frame Go.Proofs.YtjcanodnlnodpaaGreatDoor.Token Go.Proofs.YtjcanodnlnodpaaGreatDoor.Expr Go.Proofs.YtjcanodnlnodpaaGreatDoor.Calc
set_option linter.unusedVariables false
set_option linter.unusedSimpArgs false

theorem live_depth {names : List (List UInt8)} {en s : Int} {d : Nat} {e0 : Ex} {st : St} {r : List TI} {P : Ex → Prop} (h : Res en st (peR names 0 s d e0) (.ok r) P) : ¬ 40 < d := by
  intro hd
  cases st with
  | error e => exact absurd h (by intro g; cases g)
  | ok q => obtain ⟨_, _, _, h3⟩ := h.err (peR_deep names s d e0 (q.map ktI) hd); cases h3
theorem op_res {names : List (List UInt8)} {en s : Int} {d : Nat} {t t2 : Ex} {t0 : TI} {r0 : List TI} {s2 stf : St} {P : Ex → Prop} (ho : signS (.ok (t0 :: r0)) ≠ 0) (hs : s < strengthF (signS (.ok (t0 :: r0))))
    (h1 : Res en (.ok r0) (peR names 1 (strengthF (signS (.ok (t0 :: r0)))) (d + 1) t) s2 fun u => u = t2) (h2 : Res en s2 (peR names 2 s d ⟨5, signS (.ok (t0 :: r0)), [t, t2]⟩) stf P) : Res en (.ok (t0 :: r0)) (peR names 2 s d t) stf P := by
  have hb := Res.bindp (g := fun b => peR names 2 s d ⟨5, signS (.ok (t0 :: r0)), [t, b.1]⟩ b.2) h1 h2
  have e : peR names 2 s d t ((t0 :: r0).map ktI) = (fun r => (peR names 1 (strengthF (signS (.ok (t0 :: r0)))) (d + 1) t r).bind fun b => peR names 2 s d ⟨5, signS (.ok (t0 :: r0)), [t, b.1]⟩ b.2) (r0.map ktI) := peR_2yes names s d t ((t0 :: r0).map ktI) ⟨ho, hs⟩
  cases hx : (fun r => (peR names 1 (strengthF (signS (.ok (t0 :: r0)))) (d + 1) t r).bind fun b => peR names 2 s d ⟨5, signS (.ok (t0 :: r0)), [t, b.1]⟩ b.2) (r0.map ktI) with
  | error e' => obtain ⟨s', g1, g2, rfl⟩ := hb.err hx; exact Res.of_err (e.trans hx) (g1.trans (List.suffix_cons t0 r0)) g2
  | ok v => obtain ⟨⟨s', g1, g2, rfl⟩, hp⟩ := hb.ok hx; exact Res.of_ok (e.trans hx) (g1.trans (List.suffix_cons t0 r0)) g2 hp
theorem op_end {names : List (List UInt8)} {en s : Int} {d : Nat} {t : Ex} {st : St} (h : ¬ (signS st ≠ 0 ∧ s < strengthF (signS st))) : Res en st (peR names 2 s d t) st fun u => u = t := by
  cases st with
  | error e => exact Res.of_dead e
  | ok r => exact Res.of_ok (peR_2no names s d t (r.map ktI) h) List.suffix_rfl rfl rfl
theorem sign_in (st : St) : 0 ≤ signS st ∧ signS st ≤ 11 := by
  cases st with
  | error e => exact ⟨Int.le_refl _, by show (0 : Int) ≤ 11; decide⟩
  | ok r =>
    show 0 ≤ opL (peekL (r.map ktI)) ∧ opL (peekL (r.map ktI)) ≤ 11
    unfold opL
    split
    · rename_i h
      have : opsL.idxOf (peekL (r.map ktI)) < 11 := List.idxOf_lt_length_iff.2 h
      omega
    · omega
theorem strength_in (o : Int) : 0 ≤ strengthF o ∧ strengthF o ≤ 5 := by
  unfold strengthF
  repeat' split
  all_goals omega
def restLen (w : World) (p : Nat) : Nat := match w.cell? ⟨p, 0, none⟩ with | some (.slice _ n _) => n | _ => 0
theorem restLen_ok {B : Nat} {w : World} {p : Nat} {en : Int} {r : List TI} (h : RS B w p en (.ok r)) : restLen w p = r.length := by
  obtain ⟨_, a, c, ⟨h0, _⟩, _⟩ := h
  unfold restLen; rw [h0]
theorem restLen_dead {B : Nat} {w : World} {p : Nat} {en : Int} {e : Int × Int} (h : RS B w p en (.error e)) : restLen w p = 0 := by
  obtain ⟨_, ⟨h0, _⟩, _⟩ := h
  unfold restLen; rw [h0]
theorem sign_live {st : St} (h : signS st ≠ 0) : ∃ t r, st = .ok (t :: r) := by
  cases st with
  | error e => exact absurd rfl h
  | ok r =>
    cases r with
    | nil => exact absurd rfl h
    | cons t r => exact ⟨t, r, rfl⟩
def LI (B p b n kk d L Q : Nat) (f : List UInt8 → Option Nat) (names : List (List UInt8)) (s : Int) (e0 : Ex) (en : Int) (st : St) (w wr : World) (t : Ex) (a : Option Addr) (c : Nat) (st' : St) : Prop :=
  RS B wr p en st' ∧ Cx w p b n kk f wr ∧ XG (fun b _ => L ≤ b ∧ b ≠ Q) wr t a ∧ Bx wr Q [.int .i64 t.kind, .int .i64 t.num, .slice a t.kids.length c] ∧
    (∀ stf tf, Res en st' (peR names 2 s d t) stf (fun u => u = tf) → Res en st (peR names 1 s d e0) stf (fun u => u = tf)) ∧ ∀ r, st' = .ok r → ¬ 40 < d

theorem res_suf {α : Type} {en : Int} {r0 r : List TI} {x : List KT → PR α} {P : α → Prop} (h : Res en (.ok r0) x (.ok r) P) : r <:+ r0 := by
  cases hx : x (r0.map ktI) with
  | error e => obtain ⟨_, _, _, h3⟩ := h.err hx; cases h3
  | ok v => obtain ⟨⟨s, h1, _, h3⟩, _⟩ := h.ok hx; cases h3; exact h1
abbrev kids2 (t t2 : Ex) (a a2 : Option Addr) (c c2 : Nat) : Obj := .cells #[.int .i64 t.kind, .int .i64 t.num, .slice a t.kids.length c, .int .i64 t2.kind, .int .i64 t2.num, .slice a2 t2.kids.length c2] 40
theorem bx_part {Q : Nat} {vs : List Value} {w4 w5 : World} {o : Obj} (h : Bx w4 Q vs) (hb : Below (w4.alloc o).heap.size (w4.alloc o) w5) : Bx w5 Q vs := (h.below ((Below.refl _ _).alloc (Nat.le_refl _) _)).below hb
def L4 (B p b n kk d Q : Nat) (f : List UInt8 → Option Nat) (names : List (List UInt8)) (en op : Int) (t : Ex) (a : Option Addr) (c : Nat) (r0 : List TI) (w w4 : World) (t2 : Ex) (a2 : Option Addr) (c2 : Nat) (s2 : St) : Prop :=
  RS B w4 p en s2 ∧ Cx w p b n kk f w4 ∧ XG (fun b _ => w.heap.size + 1 + 1 ≤ b ∧ b ≠ Q) w4 t a ∧ XG (fun b _ => w.heap.size + 1 + 1 ≤ b ∧ b ≠ Q) w4 t2 a2 ∧ Bx w4 Q [.int .i64 t.kind, .int .i64 t.num, .slice a t.kids.length c] ∧ Res en (.ok r0) (peR names 1 (strengthF op) (d + 1) t) s2 fun u => u = t2
theorem li_next {B p b n kk d Q : Nat} {f : List UInt8 → Option Nat} {names : List (List UInt8)} {s en op : Int} {e0 t t2 : Ex} {a a2 : Option Addr} {c c2 : Nat} {st s2 : St} {t0 : TI} {r0 : List TI} {w w4 w5 : World}
    (h4 : L4 B p b n kk d Q f names en op t a c r0 w w4 t2 a2 c2 s2) (hp : p < w.heap.size) (hb : b ≠ p) (hbw : b < w.heap.size) (hQ : w.heap.size + 1 + 1 ≤ Q) (ho : op = signS (.ok (t0 :: r0))) (ho0 : op ≠ 0) (hs : s < strengthF op) (hi : In64 op) (hd : ¬ 40 < d)
    (hch : ∀ stf tf, Res en (.ok (t0 :: r0)) (peR names 2 s d t) stf (fun u => u = tf) → Res en st (peR names 1 s d e0) stf (fun u => u = tf))
    (hb5 : Below (w4.alloc (kids2 t t2 a a2 c c2)).heap.size (w4.alloc (kids2 t t2 a a2 c c2)) w5) :
    LI B p b n kk d (w.heap.size + 1 + 1) Q f names s e0 en st w (((w5.setCell ⟨Q, 0, none⟩ (.int .i64 5)).setCell ⟨Q, 1, none⟩ (.int .i64 op)).setCell ⟨Q, 2, none⟩ (.slice (some ⟨w4.heap.size, 0, none⟩) 2 2)) ⟨5, op, [t, t2]⟩ (some ⟨w4.heap.size, 0, none⟩) 2 s2 ∧
      restLen (((w5.setCell ⟨Q, 0, none⟩ (.int .i64 5)).setCell ⟨Q, 1, none⟩ (.int .i64 op)).setCell ⟨Q, 2, none⟩ (.slice (some ⟨w4.heap.size, 0, none⟩) 2 2)) p < r0.length + 1 := by
  obtain ⟨g1, g2, g3, g4, g5, g6⟩ := h4
  have hal : Below w4.heap.size w4 (w4.alloc (kids2 t t2 a a2 c c2)) := (Below.refl _ _).alloc (Nat.le_refl _) _
  have hB5 := then_ hal hb5
  have hQ4 : Q < w4.heap.size := g5.2.2
  have hc : Ch (fun x => x = Q) w5 (((w5.setCell ⟨Q, 0, none⟩ (.int .i64 5)).setCell ⟨Q, 1, none⟩ (.int .i64 op)).setCell ⟨Q, 2, none⟩ (.slice (some ⟨w4.heap.size, 0, none⟩) 2 2)) :=
    (((Ch.refl (fun x => x = Q) w5).setCell (b := Q) (o := 0) (.inl rfl) (.int .i64 5)).setCell (b := Q) (o := 1) (.inl rfl) (.int .i64 op)).setCell (b := Q) (o := 2) (.inl rfl) (.slice (some ⟨w4.heap.size, 0, none⟩) 2 2)
  have hBp := g1.1.1
  have h5 : RS B w5 p en s2 := g1.below hB5
  have hC5 := g2.below hp hb hB5
  have hBQ := bx_part g5 hb5
  have hx5 : XG (fun b _ => w.heap.size + 1 + 1 ≤ b ∧ b ≠ Q) w5 ⟨5, op, [t, t2]⟩ (some ⟨w4.heap.size, 0, none⟩) :=
    xg_two ⟨by decide, by decide⟩ hi ⟨by have := g2.2.2.2.2; omega, by omega⟩ (XG.below g3 hB5) (XG.below g4 hB5) ((Bx.new w4 #[.int .i64 t.kind, .int .i64 t.num, .slice a t.kids.length c, .int .i64 t2.kind, .int .i64 t2.num, .slice a2 t2.kids.length c2] 40).below hb5)
  have hRS : RS B (((w5.setCell ⟨Q, 0, none⟩ (.int .i64 5)).setCell ⟨Q, 1, none⟩ (.int .i64 op)).setCell ⟨Q, 2, none⟩ (.slice (some ⟨w4.heap.size, 0, none⟩) 2 2)) p en s2 := h5.ch hc (fun b hb => by subst hb; omega) (by omega)
  refine ⟨⟨hRS, ?_, ?_, ?_, fun stf tf hr => hch stf tf ?_, fun _ _ => hd⟩, ?_⟩
  · refine ⟨hC5.1.ch hc (by omega), hC5.2.1.ch hc (by omega), hC5.2.2.1.ch hc (by omega), ?_, Nat.le_trans hC5.2.2.2.2 hc.size⟩
    have h1 := hC5.2.2.2.1
    have hpb := hc.block p (by have := hC5.2.2.2.2; omega) (by omega)
    exact ⟨⟨hc.os.trans h1.1.os, hc.tape.trans h1.1.tape, hc.output.trans h1.1.output, Nat.le_trans h1.1.size hc.size, fun k hk hm => (hc.block k (Nat.lt_of_lt_of_le hk h1.1.size) (by omega)).trans (h1.1.block k hk hm)⟩, fun o => ⟨fun ho => (cell_of_block hpb o).trans ((h1.2 o).1 ho), (frozen_of_block hpb o).trans (h1.2 o).2⟩⟩
  · exact hx5.carry fun b off o hb v hv => hc.cell (fun e => hb.2 e) hv
  · have q0 : (w5.setCell ⟨Q, 0, none⟩ (.int .i64 5)).cell? ⟨Q, 1, none⟩ = _ := (cell_set_ne (by omega)).trans (hBQ.1 1)
    have q1 : ((w5.setCell ⟨Q, 0, none⟩ (.int .i64 5)).setCell ⟨Q, 1, none⟩ (.int .i64 op)).cell? ⟨Q, 2, none⟩ = _ := (cell_set_ne (by omega)).trans ((cell_set_ne (by omega)).trans (hBQ.1 2))
    refine ⟨fun j => ?_, fun j => by simpa using hBQ.2.1 j, Nat.lt_of_lt_of_le hBQ.2.2 hc.size⟩
    match j with
    | 0 => exact (cell_set_ne (by omega)).trans ((cell_set_ne (by omega)).trans (cell_set_eq (hBQ.1 0)))
    | 1 => exact (cell_set_ne (by omega)).trans (cell_set_eq q0)
    | 2 => exact cell_set_eq q1
    | j + 3 =>
      refine (cell_set_ne (by omega)).trans ((cell_set_ne (by omega)).trans ((cell_set_ne (by omega)).trans ((hBQ.1 (j + 3)).trans ?_)))
      simp
  · subst ho
    exact op_res ho0 hs g6 hr
  · cases s2 with
    | error e => rw [restLen_dead hRS]; omega
    | ok r => rw [restLen_ok hRS]; have := (res_suf g6).length_le; omega
theorem drew_bx {w : World} {Q : Nat} {vs : List Value} (h : Bx w Q vs) : Bx w.drew Q vs := h.below ((Below.refl _ _).drew)

end Go.Proofs.YtjcanodnlnodpaaGreatDoor.Parse
/- Expressions: a contract of the call, over the turned program. -/
namespace Go.Proofs.YtjcanodnlnodpaaGreatDoor.Parse
open Go.RowKit Go.Maps Go.Proofs.YtjcanodnlnodpaaGreatDoor.Frame Go.Proofs.YtjcanodnlnodpaaGreatDoor.Token Go.Proofs.YtjcanodnlnodpaaGreatDoor.Expr Go.Proofs.YtjcanodnlnodpaaGreatDoor.Calc
set_option linter.unusedVariables false
set_option linter.unusedSimpArgs false

theorem wrap_id {x : Int} (h1 : -9223372036854775808 ≤ x) (h2 : x ≤ 9223372036854775807) : IntKind.i64.wrap x = x := by
  simp [IntKind.wrap, IntKind.signed, IntKind.bits]
  omega
set_option maxRecDepth 100000 in
set_option maxHeartbeats 8000000 in
theorem expr_step (B p b n kk d : Nat) (f : List UInt8 → Option Nat) (names : List (List UInt8)) (hf : f = nameAt names) (hN : names.length ≤ 3000000) (least s : Int) (hls : ∀ o : Int, 1 ≤ o → o ≤ 11 → (s < strengthF o ↔ least ≤ strengthF o)) (e0 : Ex) (en : Int) (st : St) (w : World) (h : RS B w p en st) (hm : SMp w b n kk f) (hb : b ≠ p) (hd41 : d ≤ 41)
    (hU : ∀ W s', RS B W p en s' → SMp W b n kk f → Calls Tryz.prog 149 #[exV p b, .int .i64 d] W (EPost B p en s' (peR names 0 s d e0) W))
    (hE : ¬ 40 < d → ∀ W s' e' (o : Int), 1 ≤ o → o ≤ 11 → RS B W p en s' → SMp W b n kk f → Calls Tryz.prog 100 #[exV p b, .int .i64 (strengthF o + 1), .int .i64 ((d : Int) + 1)] W (EPost B p en s' (peR names 1 (strengthF o) (d + 1) e') W)) :
    Calls Tryz.prog 100 #[exV p b, .int .i64 least, .int .i64 d] w (EPost B p en st (peR names 1 s d e0) w) := by
  have hp := h.lt
  have hp2 : p < w.heap.size + 1 + 1 := by omega
  have HB : Hid (b ≠ p) := hb
  have HU : Hid (∀ W s', RS B W p en s' → SMp W b n kk f → Calls Tryz.prog 149 #[exV p b, .int .i64 d] W (EPost B p en s' (peR names 0 s d e0) W)) := hU
  have HE : Hid (¬ 40 < d → ∀ W s' e' (o : Int), 1 ≤ o → o ≤ 11 → RS B W p en s' → SMp W b n kk f → Calls Tryz.prog 100 #[exV p b, .int .i64 (strengthF o + 1), .int .i64 ((d : Int) + 1)] W (EPost B p en s' (peR names 1 (strengthF o) (d + 1) e') W)) := hE
  have HL : Hid (∀ o : Int, 1 ≤ o → o ≤ 11 → (s < strengthF o ↔ least ≤ strengthF o)) := hls
  obtain ⟨W0, hW⟩ : ∃ W0, W0 = (w.alloc (.cells #[.pointer (some ⟨p, 0, none⟩), .map (some b)] 92)).alloc (.cells #[.int .i64 0, .int .i64 0, .slice none 0 0] 40) := ⟨_, rfl⟩
  have hC0 : Cx w p b n kk f W0 := by rw [hW]; exact Cx.start hp hm
  have hB0 : Below w.heap.size w W0 := by rw [hW]; exact ((Below.refl _ _).alloc (Nat.le_refl _) _).alloc (by simp) _
  have H0 : Hid (RS B W0 p en st ∧ Cx w p b n kk f W0) := ⟨h.below hB0, hC0⟩
  have Hbw : Hid (b < w.heap.size) := hm.lt
  have HW : Hid (W0 = _) := hW
  clear h hm hb hW hC0 hB0 hf hU hE hls
  unfold exV ptr
  go_enter Tryz.func100, Tryz.ntmps100
  go_wp2_with fail
  rw [← HW.out]
  clear HW
  refine (HU.out W0 st H0.out.1 H0.out.2.2.2.1).mono ?_
  rintro e w1 ⟨t1, a1, c1, s1, he, hx1, h1, hr1, r1⟩
  subst he
  have hC1 := H0.out.2.on hp HB.out hr1
  have hsz := H0.out.2.2.2.2.2
  have I0 : Hid (LI B p b n kk d (w.heap.size + 1 + 1) w1.heap.size f names s e0 en st w (w1.alloc (.cells #[.int .i64 t1.kind, .int .i64 t1.num, .slice a1 t1.kids.length c1] 40)) t1 a1 c1 s1) := by
    refine ⟨h1.below ((Below.refl _ _).alloc (Nat.le_refl _) _), hC1.al hp HB.out _, ?_, Bx.new w1 #[.int .i64 t1.kind, .int .i64 t1.num, .slice a1 t1.kids.length c1] _, fun stf tf hr => ?_, fun r hr => ?_⟩
    · exact XG.below (hx1.lt2.mono fun b _ hb => ⟨by omega, by omega⟩) ((Below.refl _ _).alloc (Nat.le_refl _) _)
    · exact (Res.bind (g := fun u r => peR names 2 s d u r) r1 (fun u hu => by subst hu; exact hr) (fun e he => hr.dead he)).congr fun r => (peR_1 names s d e0 r).symm
    · subst hr; exact live_depth r1
  obtain ⟨x0, x1, xl⟩ := hC1.1.two
  have hQ : w.heap.size + 1 + 1 ≤ w1.heap.size := hC1.2.2.2.2
  clear hC1 h1 hr1 r1 hx1 H0
  go_wp2_with fail
  clear x0 x1 xl
  generalize hQw : w1.heap.size = Q at *
  go_loopw [] (fun wr => ∃ t a c st', Hid (LI B p b n kk d (w.heap.size + 1 + 1) Q f names s e0 en st w wr t a c st')) (fun wr => restLen wr p)
  case atStart => exact ⟨t1, a1, c1, s1, I0⟩
  case round =>
    obtain ⟨t, a, c, st', hI⟩ := hrel
    clear I0
    obtain ⟨x0, x1, xl⟩ := hI.out.2.1.1.two
    obtain ⟨op, hop⟩ : ∃ op, op = signS st' := ⟨_, rfl⟩
    have HO : Hid (op = signS st') := hop
    obtain ⟨o1, o2⟩ := sign_in st'
    rw [← hop] at o1 o2
    obtain ⟨z, hz⟩ : ∃ z, z = strengthF op := ⟨_, rfl⟩
    have HZ : Hid (strengthF op = z) := hz.symm
    obtain ⟨z1, z2⟩ := strength_in op
    rw [← hz] at z1 z2
    have HS : Hid (∀ W, RS B W p en st' → Calls Tryz.prog 150 #[exV p b] W fun e w' => e = .returned (.tuple #[.int .i64 op, .bool (decide (op ≠ 0))]) ∧ Below W.heap.size W w') := fun W hW => by rw [hop]; exact sign_any B p b en st' W hW
    clear hop hz
    by_cases hyes : op ≠ 0 ∧ least ≤ z
    · obtain ⟨hy1, hy2⟩ := hyes
      have hbo : decide (op ≠ 0) = true := decide_eq_true hy1
      have hlt : ¬ z < least := by omega
      rw [hbo] at HS
      have HY : Hid (op ≠ 0) := hy1
      clear hbo hy1
      go_wp2_with fail
      refine (HS.out wr hI.out.1).mono ?_
      rintro e w2 ⟨he, hb2⟩
      subst he
      have H2 : Hid (RS B w2 p en st' ∧ Cx w p b n kk f w2) := ⟨hI.out.1.below hb2, hI.out.2.1.below hp HB.out hb2⟩
      have HB2 : Hid (Below wr.heap.size wr w2) := hb2
      obtain ⟨y0, y1, yl⟩ := H2.out.2.1.two
      clear x0 x1 xl hb2
      go_wp2_with (go_at_call 151; refine (Calc.strength_any _ _).mono ?_; rintro e w' ⟨he, hw⟩; subst he; have hw := hw.symm; subst hw; rw [HZ.out])
      obtain ⟨t0, r0, hst⟩ := sign_live (st := st') (by rw [← HO.out]; exact HY.out)
      subst hst
      refine (step_any B p en t0 r0 w2 H2.out.1).mono ?_
      rintro e w3 ⟨he, h3, hr3⟩
      subst he
      have hd40 : ¬ 40 < d := hI.out.2.2.2.2.2 _ rfl
      have hC3 := H2.out.2.on hp HB.out hr3
      have hX3 : XG (fun b _ => w.heap.size + 1 + 1 ≤ b ∧ b ≠ Q) w3 t a := (XG.below hI.out.2.2.1 HB2.out).carry fun b off o hb v hv => hr3.1.cell (by show ¬ b = p; omega) hv
      have hQ3 : Bx w3 Q [.int .i64 t.kind, .int .i64 t.num, .slice a t.kids.length c] := (hI.out.2.2.2.1.below HB2.out).ch hr3.1 (by show ¬ Q = p; omega)
      have HI : Hid (restLen wr p = r0.length + 1 ∧ ∀ stf tf, Res en (.ok (t0 :: r0)) (peR names 2 s d t) stf (fun u => u = tf) → Res en st (peR names 1 s d e0) stf (fun u => u = tf)) := ⟨restLen_ok hI.out.1, hI.out.2.2.2.2.1⟩
      have o3 : 1 ≤ op := by have := HY.out; omega
      have CL : Hid (Calls Tryz.prog 100 #[.agg #[.pointer (some ⟨p, 0, none⟩), .map (some b)], .int .i64 (IntKind.i64.wrap (z + 1)), .int .i64 (IntKind.i64.wrap ((d : Int) + 1))] w3.drew fun e w4 => ∃ t2 a2 c2 s2, e = .returned (xV t2 a2 c2) ∧ Hid (L4 B p b n kk d Q f names en op t a c r0 w w4 t2 a2 c2 s2) ∧ (w4.cell? ⟨Q, 0, none⟩ = some (.int .i64 t.kind) ∧ w4.cell? ⟨Q, 1, none⟩ = some (.int .i64 t.num) ∧ w4.cell? ⟨Q, 2, none⟩ = some (.slice a t.kids.length c) ∧ Q < w4.heap.size) ∧ w4.cell? ⟨w.heap.size, 0, none⟩ = some (.pointer (some ⟨p, 0, none⟩)) ∧ w4.cell? ⟨w.heap.size, 1, none⟩ = some (.map (some b)) ∧ w.heap.size < w4.heap.size) := by
        have := HE.out hd40 w3.drew (.ok r0) t op o3 o2 (h3.below ((Below.refl _ _).drew)) (hC3.2.2.1.below ((Below.refl _ _).drew))
        rw [HZ.out] at this
        rw [wrap_id (show -9223372036854775808 ≤ z + 1 by omega) (by omega), wrap_id (show -9223372036854775808 ≤ (d : Int) + 1 by omega) (by omega)]
        refine this.mono ?_
        rintro e w4 ⟨t2, a2, c2, s2, he, hx4, h4, hr4, r4⟩
        have hr4' : RCh p w3 w4 := unr hr4
        have hC4 := hC3.on hp HB.out hr4'
        have hQ4 := hQ3.ch hr4'.1 (by show ¬ Q = p; omega)
        have hsz3 : Q < w3.drew.heap.size := hQ3.2.2
        rw [← HZ.out] at r4
        exact ⟨t2, a2, c2, s2, he, ⟨h4, hC4, hX3.carry fun b off o hb v hv => hr4'.1.cell (by show ¬ b = p; omega) hv, hx4.mono fun b _ hb => ⟨by omega, by omega⟩, hQ4, r4⟩, hQ4.three, hC4.1.two⟩
      obtain ⟨v0, v1, v2, vl⟩ := hQ3.three
      obtain ⟨u0, u1, ul⟩ := hC3.1.two
      have hs' : Hid (s < strengthF op) := (HL.out op o3 o2).2 (by rw [HZ.out]; exact hy2)
      have hbw : Hid (b < w.heap.size) := Hbw
      have END : Hid (op = signS (.ok (t0 :: r0)) ∧ op ≠ 0 ∧ s < strengthF op ∧ b ≠ p ∧ b < w.heap.size) := ⟨HO.out, HY.out, hs'.out, HB.out, hbw.out⟩
      clear hC3 hX3 hQ3 h3 hr3 y0 y1 yl hI H2 HB2 HS HU HE HL HO HY HZ hs' hbw Hbw HB hN hp2 hd41
      go_wp2_with fail
      go_region_law (first
        | (go_simp; go_at_call 100; refine CL.out.mono ?_; rintro e w4 ⟨t2, a2, c2, s2, he, H4, ⟨k0, k1, k2, kl⟩, m0, m1, ml⟩; subst he)
        | (go_simp; go_at_call 153; refine (part_any 5 op (some ⟨w4.heap.size, 0, none⟩) 2 2 _).mono ?_; rintro e w5 ⟨he, hb5⟩; subst he; obtain ⟨n0, n1, n2, nl⟩ := (bx_part H4.out.2.2.2.2.1 hb5).three; obtain ⟨f0, f1, f2⟩ := (bx_part H4.out.2.2.2.2.1 hb5).fr))
      all_goals
        obtain ⟨E1, E2, E3, E4, E5⟩ := END.out
        have NX : Hid (_ ∧ _) := li_next (c2 := c2) H4.out hp E4 E5 hQ E1 E2 E3 ⟨by omega, by omega⟩ hd40 HI.out.2 hb5
        clear E1 E2 E3 E4 E5
        go_wp2_with fail
        go_roundw
        case rel => exact ⟨⟨5, op, [t, t2]⟩, some ⟨w4.heap.size, 0, none⟩, 2, s2, NX.out.1⟩
        case measure => rw [HI.out.1]; exact NX.out.2
    · have RR : Hid (Res en st (peR names 1 s d e0) st' fun u => u = t) := hI.out.2.2.2.2.1 st' t (op_end fun g => hyes (by
        rw [← HO.out] at g
        have := sign_in st'
        rw [← HO.out] at this
        exact ⟨g.1, by have h2 := (HL.out op (by have := g.1; omega) o2).1 g.2; rw [HZ.out] at h2; exact h2⟩))
      by_cases h0 : op = 0
      · have hbo : decide (op ≠ 0) = false := decide_eq_false (fun g => g h0)
        rw [hbo] at HS
        clear hbo hyes h0
        go_wp2_with fail
        refine (HS.out wr hI.out.1).mono ?_
        rintro e w2 ⟨he, hb2⟩
        subst he
        have H2 : Hid (RS B w2 p en st' ∧ Cx w p b n kk f w2) := ⟨hI.out.1.below hb2, hI.out.2.1.below hp HB.out hb2⟩
        have hx2 : XG (fun b _ => w.heap.size + 1 + 1 ≤ b) w2 t a := (XG.below hI.out.2.2.1 hb2).mono fun b _ hb => hb.1
        have hQ2 := hI.out.2.2.2.1.below hb2
        have FN : Hid (∀ v0 v1 v2 : Value, _) := fun v0 v1 v2 => (H2.out.2).fin hp H2.out.1 hx2 v0 v1 v2
        obtain ⟨q0, q1, q2, ql⟩ := hQ2.three
        obtain ⟨g0, g1, g2, gl⟩ := H2.out.2.2.1.three
        obtain ⟨f0, f1, f2⟩ := H2.out.2.2.1.fr
        have n1 : ¬ Q = w.heap.size + 1 := by omega
        have n2 : ¬ w.heap.size + 1 = Q := by omega
        clear x0 x1 xl hb2 hQ2 hI HS hx2
        go_wp2_with (go_at_call 151; refine (Calc.strength_any _ _).mono ?_; rintro e w' ⟨he, hw⟩; subst he; have hw := hw.symm; subst hw; rw [HZ.out])
        refine bodyPost_ret (v := xV t a c) ?_ rfl ⟨t, a, c, st', rfl, (FN.out _ _ _).1, (FN.out _ _ _).2.1, (FN.out _ _ _).2.2, RR.out⟩
        simp [results, Tryz.results100, go_sem, g0, g1, g2]
      · have hbo : decide (op ≠ 0) = true := decide_eq_true h0
        have hlt : z < least := by rcases Int.lt_or_le z least with g | g; exact g; exact absurd ⟨h0, g⟩ hyes
        rw [hbo] at HS
        clear hbo hyes h0
        go_wp2_with fail
        refine (HS.out wr hI.out.1).mono ?_
        rintro e w2 ⟨he, hb2⟩
        subst he
        have H2 : Hid (RS B w2 p en st' ∧ Cx w p b n kk f w2) := ⟨hI.out.1.below hb2, hI.out.2.1.below hp HB.out hb2⟩
        have hx2 : XG (fun b _ => w.heap.size + 1 + 1 ≤ b) w2 t a := (XG.below hI.out.2.2.1 hb2).mono fun b _ hb => hb.1
        have hQ2 := hI.out.2.2.2.1.below hb2
        have FN : Hid (∀ v0 v1 v2 : Value, _) := fun v0 v1 v2 => (H2.out.2).fin hp H2.out.1 hx2 v0 v1 v2
        obtain ⟨q0, q1, q2, ql⟩ := hQ2.three
        obtain ⟨g0, g1, g2, gl⟩ := H2.out.2.2.1.three
        obtain ⟨f0, f1, f2⟩ := H2.out.2.2.1.fr
        have n1 : ¬ Q = w.heap.size + 1 := by omega
        have n2 : ¬ w.heap.size + 1 = Q := by omega
        clear x0 x1 xl hb2 hQ2 hI HS hx2
        go_wp2_with (go_at_call 151; refine (Calc.strength_any _ _).mono ?_; rintro e w' ⟨he, hw⟩; subst he; have hw := hw.symm; subst hw; rw [HZ.out])
        refine bodyPost_ret (v := xV t a c) ?_ rfl ⟨t, a, c, st', rfl, (FN.out _ _ _).1, (FN.out _ _ _).2.1, (FN.out _ _ _).2.2, RR.out⟩
        simp [results, Tryz.results100, go_sem, g0, g1, g2]
end Go.Proofs.YtjcanodnlnodpaaGreatDoor.Parse
/- Expressions, of any depth: contracts of the calls, over the turned program. -/
namespace Go.Proofs.YtjcanodnlnodpaaGreatDoor.Parse
open Go.RowKit Go.Maps Go.Proofs.YtjcanodnlnodpaaGreatDoor.Frame Go.Proofs.YtjcanodnlnodpaaGreatDoor.Token Go.Proofs.YtjcanodnlnodpaaGreatDoor.Expr Go.Proofs.YtjcanodnlnodpaaGreatDoor.Calc
set_option linter.unusedVariables false
set_option linter.unusedSimpArgs false

theorem both_any {B p b n kk : Nat} {f : List UInt8 → Option Nat} {names : List (List UInt8)} (hf : f = nameAt names) (hN : names.length ≤ 3000000) {en : Int} (hb : b ≠ p) : ∀ k d : Nat, d + k = 41 →
    (∀ (s : Int) (e0 : Ex) (W : World) (st : St), RS B W p en st → SMp W b n kk f → Calls Tryz.prog 149 #[exV p b, .int .i64 d] W (EPost B p en st (peR names 0 s d e0) W)) ∧
    (∀ (least s : Int), (∀ o : Int, 1 ≤ o → o ≤ 11 → (s < strengthF o ↔ least ≤ strengthF o)) → ∀ (e0 : Ex) (W : World) (st : St), RS B W p en st → SMp W b n kk f → Calls Tryz.prog 100 #[exV p b, .int .i64 least, .int .i64 d] W (EPost B p en st (peR names 1 s d e0) W)) := by
  intro k
  induction k with
  | zero =>
    intro d hd
    have h40 : 40 < d := by omega
    have hU : ∀ (s : Int) (e0 : Ex) (W : World) (st : St), RS B W p en st → SMp W b n kk f → Calls Tryz.prog 149 #[exV p b, .int .i64 d] W (EPost B p en st (peR names 0 s d e0) W) :=
      fun s e0 W st h hm => unary_all B p b n kk d f names hf hN s e0 en st W h hm hb (fun g => absurd h40 g) (fun g => absurd h40 g)
    exact ⟨hU, fun least s hls e0 W st h hm => expr_step B p b n kk d f names hf hN least s hls e0 en st W h hm hb (by omega) (fun W s' => hU s e0 W s') (fun g => absurd h40 g)⟩
  | succ k ih =>
    intro d hd
    obtain ⟨iU, iE⟩ := ih (d + 1) (by omega)
    have c1 : ((d + 1 : Nat) : Int) = (d : Int) + 1 := by omega
    rw [c1] at iU iE
    have hz : ∀ o : Int, 1 ≤ o → o ≤ 11 → ((0 : Int) < strengthF o ↔ 0 ≤ strengthF o) := fun o h1 h2 => by
      have : o = 1 ∨ o = 2 ∨ o = 3 ∨ o = 4 ∨ o = 5 ∨ o = 6 ∨ o = 7 ∨ o = 8 ∨ o = 9 ∨ o = 10 ∨ o = 11 := by omega
      rcases this with rfl | rfl | rfl | rfl | rfl | rfl | rfl | rfl | rfl | rfl | rfl <;> decide
    have hU : ∀ (s : Int) (e0 : Ex) (W : World) (st : St), RS B W p en st → SMp W b n kk f → Calls Tryz.prog 149 #[exV p b, .int .i64 d] W (EPost B p en st (peR names 0 s d e0) W) :=
      fun s e0 W st h hm => unary_all B p b n kk d f names hf hN s e0 en st W h hm hb (fun _ W s' => iU s e0 W s') (fun _ W s' => iE 0 0 hz e0 W s')
    exact ⟨hU, fun least s hls e0 W st h hm => expr_step B p b n kk d f names hf hN least s hls e0 en st W h hm hb (by omega) (fun W s' => hU s e0 W s') (fun _ W s' e' o h1 h2 => iE (strengthF o + 1) (strengthF o) (fun o' _ _ => by omega) e' W s')⟩
theorem top_any {B p b n kk : Nat} {f : List UInt8 → Option Nat} {names : List (List UInt8)} (hf : f = nameAt names) (hN : names.length ≤ 3000000) {en : Int} (hb : b ≠ p) (W : World) (st : St) (h : RS B W p en st) (hm : SMp W b n kk f) :
    Calls Tryz.prog 100 #[exV p b, .int .i64 0, .int .i64 1] W (EPost B p en st (exprP names) W) :=
  (both_any hf hN hb 40 1 rfl).2 0 0 (fun o h1 h2 => by
      have : o = 1 ∨ o = 2 ∨ o = 3 ∨ o = 4 ∨ o = 5 ∨ o = 6 ∨ o = 7 ∨ o = 8 ∨ o = 9 ∨ o = 10 ∨ o = 11 := by omega
      rcases this with rfl | rfl | rfl | rfl | rfl | rfl | rfl | rfl | rfl | rfl | rfl <;> decide) ⟨0, 0, []⟩ W st h hm

set_option maxRecDepth 100000 in
set_option maxHeartbeats 4000000 in
theorem whole_any {B p b n kk : Nat} {f : List UInt8 → Option Nat} {names : List (List UInt8)} (hf : f = nameAt names) (hN : names.length ≤ 3000000) {en : Int} (hb : b ≠ p) (w : World) (st : St) (h : RS B w p en st) (hm : SMp w b n kk f) :
    Calls Tryz.prog 48 #[exV p b] w (EPost B p en st (exprP names) w) := by
  have hp := h.lt
  have HB : Hid (b ≠ p) := hb
  have HT : Hid (∀ W, RS B W p en st → SMp W b n kk f → Calls Tryz.prog 100 #[exV p b, .int .i64 0, .int .i64 1] W (EPost B p en st (exprP names) W)) := fun W h1 h2 => top_any hf hN hb W st h1 h2
  obtain ⟨W0, hW⟩ : ∃ W0, W0 = (w.alloc (.cells #[.pointer (some ⟨p, 0, none⟩), .map (some b)] 92)).alloc (.cells #[.int .i64 0, .int .i64 0, .slice none 0 0] 40) := ⟨_, rfl⟩
  have hC0 : Cx w p b n kk f W0 := by rw [hW]; exact Cx.start hp hm
  have hB0 : Below w.heap.size w W0 := by rw [hW]; exact ((Below.refl _ _).alloc (Nat.le_refl _) _).alloc (by simp) _
  have H0 : Hid (RS B W0 p en st ∧ Cx w p b n kk f W0) := ⟨h.below hB0, hC0⟩
  have HW : Hid (W0 = _) := hW
  clear h hm hb hW hC0 hB0 hf
  unfold exV ptr
  go_enter Tryz.func48, Tryz.ntmps48
  go_wp2_with fail
  rw [← HW.out]
  clear HW
  refine (HT.out W0 H0.out.1 H0.out.2.2.2.1).mono ?_
  rintro e w1 ⟨t1, a1, c1, s1, he, hx, h1, hr1, r1⟩
  subst he
  have H1 : Hid (RS B w1 p en s1 ∧ Cx w p b n kk f w1) := ⟨h1, H0.out.2.on hp HB.out hr1⟩
  have hx2 : XG (fun b _ => w.heap.size + 1 + 1 ≤ b) w1 t1 a1 := xg_up hx (by have := H0.out.2.2.2.2.2; omega)
  have RR : Hid (Res en st (exprP names) s1 fun u => u = t1) := r1
  have FN : Hid (∀ v0 v1 v2 : Value, _) := fun v0 v1 v2 => (H1.out.2).fin hp H1.out.1 hx2 v0 v1 v2
  obtain ⟨g0, g1, g2, gl⟩ := H1.out.2.2.1.three
  obtain ⟨f0, f1, f2⟩ := H1.out.2.2.1.fr
  clear h1 hr1 r1 hx hx2 H0
  go_wp2_with fail
  refine bodyPost_ret (v := xV t1 a1 c1) ?_ rfl ⟨t1, a1, c1, s1, rfl, (FN.out _ _ _).1, (FN.out _ _ _).2.1, (FN.out _ _ _).2.2, RR.out⟩
  simp [results, Tryz.results48, go_sem, g0, g1, g2]
end Go.Proofs.YtjcanodnlnodpaaGreatDoor.Parse
/- What is told of a reader: contracts of the calls, over the turned program. -/
namespace Go.Proofs.YtjcanodnlnodpaaGreatDoor.Parse
open Go.RowKit Go.Maps Go.Proofs.YtjcanodnlnodpaaGreatDoor.Frame Go.Proofs.YtjcanodnlnodpaaGreatDoor.Token Go.Proofs.YtjcanodnlnodpaaGreatDoor.Expr Go.Proofs.YtjcanodnlnodpaaGreatDoor.Calc
set_option linter.unusedVariables false
set_option linter.unusedSimpArgs false

def toldV (en : Int) (st : St) (v none_ : Value) : Value := match st with
  | .ok _ => .tuple #[v, .int .i64 en, .int .i64 0]
  | .error e => .tuple #[none_, .int .i64 e.1, .int .i64 e.2]
theorem below_part {w W : World} (h : Below w.heap.size w W) {q : Nat} (hq : w.heap.size ≤ q) (o : Nat) (v : Value) : Below w.heap.size w (W.setCell ⟨q, o, none⟩ v) := h.setCell (p := ⟨q, o, none⟩) hq v

set_option maxRecDepth 100000 in
set_option maxHeartbeats 4000000 in
theorem toldE_any (B p : Nat) (en : Int) (st : St) (k n : Int) (a : Option Addr) (l c : Nat) (w : World) (h : RS B w p en st) :
    Calls Tryz.prog 50 #[ptr p, .agg #[.int .i64 k, .int .i64 n, .slice a l c]] w fun e w' => e = .returned (toldV en st (.agg #[.int .i64 k, .int .i64 n, .slice a l c]) (.agg #[.int .i64 0, .int .i64 0, .slice none 0 0])) ∧ Below w.heap.size w w' := by
  have hp := h.lt
  unfold ptr
  cases st with
  | error x =>
    obtain ⟨-, ⟨h0, h1, h2, h3, -⟩, hx⟩ := h
    have hx' : (x.2 != 0) = true := by simpa using hx
    clear hx
    obtain ⟨x1, x2⟩ := x
    have h2 : w.cell? ⟨p, 2, none⟩ = some (.int .i64 x1) := h2
    have h3 : w.cell? ⟨p, 3, none⟩ = some (.int .i64 x2) := h3
    have hx' : (x2 != 0) = true := hx'
    go_enter Tryz.func50, Tryz.ntmps50
    go_wp2_with fail
    obtain ⟨W, hW⟩ : ∃ W, W = ((w.alloc (.cells #[.int .i64 k, .int .i64 n, .slice a l c] 40)).alloc (.cells #[.int .i64 0, .int .i64 0, .slice none 0 0] 40)).alloc (.cells #[.int .i64 0, .int .i64 0, .slice none 0 0] 40) := ⟨_, rfl⟩
    rw [← hW]
    have hb : Below w.heap.size w W := by rw [hW]; exact (((Below.refl _ _).alloc (Nat.le_refl _) _).alloc (by simp) _).alloc (by simp; omega) _
    have HB : Hid (Below w.heap.size w W) := hb
    have g2 := (hb.cell (p := ⟨p, 2, none⟩) hp).trans h2
    have g3 := (hb.cell (p := ⟨p, 3, none⟩) hp).trans h3
    have hZ : Bx W (w.heap.size + 1 + 1) [.int .i64 0, .int .i64 0, .slice none 0 0] := by
      rw [hW]
      have := Bx.new ((w.alloc (.cells #[.int .i64 k, .int .i64 n, .slice a l c] 40)).alloc (.cells #[.int .i64 0, .int .i64 0, .slice none 0 0] 40)) #[.int .i64 0, .int .i64 0, .slice none 0 0] 40
      simpa using this
    have hR : Bx W (w.heap.size + 1) [.int .i64 0, .int .i64 0, .slice none 0 0] := by
      rw [hW]
      have := Bx.new (w.alloc (.cells #[.int .i64 k, .int .i64 n, .slice a l c] 40)) #[.int .i64 0, .int .i64 0, .slice none 0 0] 40
      refine Bx.below ?_ ((Below.refl _ _).alloc (Nat.le_refl _) _)
      simpa using this
    obtain ⟨z0, z1, z2, zl⟩ := hZ.three
    obtain ⟨r0, r1, r2, rl⟩ := hR.three
    obtain ⟨f0, f1, f2⟩ := hR.fr
    have hpW : p < W.heap.size := by have := hb.size; omega
    have n1 : ¬ p = w.heap.size + 1 := by omega
    have n2 : ¬ w.heap.size + 1 = p := by omega
    clear hW hZ hR hb h0 h1 h2 h3 hx'
    go_region_held3 (fun w' => (w'.cell? ⟨p, 2, none⟩ = some (.int .i64 x1) ∧ w'.cell? ⟨p, 3, none⟩ = some (.int .i64 x2)) ∧ w'.cell? ⟨w.heap.size + 1 + 1, 0, none⟩ = some (.int .i64 0) ∧ w'.cell? ⟨w.heap.size + 1 + 1, 1, none⟩ = some (.int .i64 0) ∧ w'.cell? ⟨w.heap.size + 1 + 1, 2, none⟩ = some (.slice none 0 0)) (go_keep) (fail)
    have HF : Hid (Below w.heap.size w (((W.setCell ⟨w.heap.size + 1, 0, none⟩ (.int .i64 0)).setCell ⟨w.heap.size + 1, 1, none⟩ (.int .i64 0)).setCell ⟨w.heap.size + 1, 2, none⟩ (.slice none 0 0)).drew) := (below_part (below_part (below_part HB.out (by omega) 0 _) (by omega) 1 _) (by omega) 2 _).drew
    go_wp2_with fail
    refine bodyPost_ret (v := .tuple #[.agg #[.int .i64 0, .int .i64 0, .slice none 0 0], .int .i64 x1, .int .i64 x2]) ?_ rfl ⟨rfl, HF.out⟩
    simp [results, Tryz.results50, go_sem, r0, r1, r2]
  | ok r =>
    obtain ⟨-, ar, cr, ⟨h0, h1, h2, h3, -⟩, -⟩ := h
    go_enter Tryz.func50, Tryz.ntmps50
    go_wp2_with fail
    obtain ⟨W, hW⟩ : ∃ W, W = (w.alloc (.cells #[.int .i64 k, .int .i64 n, .slice a l c] 40)).alloc (.cells #[.int .i64 0, .int .i64 0, .slice none 0 0] 40) := ⟨_, rfl⟩
    rw [← hW]
    have hb : Below w.heap.size w W := by rw [hW]; exact ((Below.refl _ _).alloc (Nat.le_refl _) _).alloc (by simp) _
    have HB : Hid (Below w.heap.size w W) := hb
    have g1 := (hb.cell (p := ⟨p, 1, none⟩) hp).trans h1
    have hZ : Bx W w.heap.size [.int .i64 k, .int .i64 n, .slice a l c] := by
      rw [hW]
      exact (Bx.new w #[.int .i64 k, .int .i64 n, .slice a l c] 40).below ((Below.refl _ _).alloc (Nat.le_refl _) _)
    have hR : Bx W (w.heap.size + 1) [.int .i64 0, .int .i64 0, .slice none 0 0] := by
      rw [hW]
      have := Bx.new (w.alloc (.cells #[.int .i64 k, .int .i64 n, .slice a l c] 40)) #[.int .i64 0, .int .i64 0, .slice none 0 0] 40
      simpa using this
    obtain ⟨z0, z1, z2, zl⟩ := hZ.three
    obtain ⟨r0, r1, r2, rl⟩ := hR.three
    obtain ⟨f0, f1, f2⟩ := hR.fr
    have hpW : p < W.heap.size := by have := hb.size; omega
    have n1 : ¬ p = w.heap.size + 1 := by omega
    have n2 : ¬ w.heap.size + 1 = p := by omega
    clear hW hZ hR hb h0 h1 h2 h3
    go_region_held3 (fun w' => w'.cell? ⟨p, 1, none⟩ = some (.int .i64 en) ∧ w'.cell? ⟨w.heap.size, 0, none⟩ = some (.int .i64 k) ∧ w'.cell? ⟨w.heap.size, 1, none⟩ = some (.int .i64 n) ∧ w'.cell? ⟨w.heap.size, 2, none⟩ = some (.slice a l c)) (go_keep) (fail)
    have HF : Hid (Below w.heap.size w (((W.setCell ⟨w.heap.size + 1, 0, none⟩ (.int .i64 k)).setCell ⟨w.heap.size + 1, 1, none⟩ (.int .i64 n)).setCell ⟨w.heap.size + 1, 2, none⟩ (.slice a l c)).drew) := (below_part (below_part (below_part HB.out (by omega) 0 _) (by omega) 1 _) (by omega) 2 _).drew
    go_wp2_with fail
    refine bodyPost_ret (v := .tuple #[.agg #[.int .i64 k, .int .i64 n, .slice a l c], .int .i64 en, .int .i64 0]) ?_ rfl ⟨rfl, HF.out⟩
    simp [results, Tryz.results50, go_sem, r0, r1, r2]
end Go.Proofs.YtjcanodnlnodpaaGreatDoor.Parse
/- What is told of a net's reader: a contract of the call, over the turned program. -/
namespace Go.Proofs.YtjcanodnlnodpaaGreatDoor.Parse
open Go.RowKit Go.Maps Go.Proofs.YtjcanodnlnodpaaGreatDoor.Frame Go.Proofs.YtjcanodnlnodpaaGreatDoor.Token Go.Proofs.YtjcanodnlnodpaaGreatDoor.Expr Go.Proofs.YtjcanodnlnodpaaGreatDoor.Calc
set_option linter.unusedVariables false
set_option linter.unusedSimpArgs false

def netZ : Value := .agg #[.slice none 0 0, .slice none 0 0, .slice none 0 0, .int .i64 0, .int .i64 0]
theorem Bx.five {w : World} {q : Nat} {x y z u v : Value} (h : Bx w q [x, y, z, u, v]) : w.cell? ⟨q, 0, none⟩ = some x ∧ w.cell? ⟨q, 1, none⟩ = some y ∧ w.cell? ⟨q, 2, none⟩ = some z ∧ w.cell? ⟨q, 3, none⟩ = some u ∧ w.cell? ⟨q, 4, none⟩ = some v ∧ q < w.heap.size := ⟨h.1 0, h.1 1, h.1 2, h.1 3, h.1 4, h.2.2⟩

set_option maxRecDepth 100000 in
set_option maxHeartbeats 4000000 in
theorem toldN_any (B p : Nat) (en : Int) (st : St) (a0 a1 a2 : Option Addr) (l0 c0 l1 c1 l2 c2 : Nat) (fr to_ : Int) (w : World) (h : RS B w p en st) :
    Calls Tryz.prog 36 #[ptr p, .agg #[.slice a0 l0 c0, .slice a1 l1 c1, .slice a2 l2 c2, .int .i64 fr, .int .i64 to_]] w fun e w' => e = .returned (toldV en st (.agg #[.slice a0 l0 c0, .slice a1 l1 c1, .slice a2 l2 c2, .int .i64 fr, .int .i64 to_]) netZ) ∧ Below w.heap.size w w' := by
  have hp := h.lt
  unfold ptr
  cases st with
  | error x =>
    obtain ⟨-, ⟨h0, h1, h2, h3, -⟩, hx⟩ := h
    have hx' : (x.2 != 0) = true := by simpa using hx
    clear hx
    obtain ⟨x1, x2⟩ := x
    have h2 : w.cell? ⟨p, 2, none⟩ = some (.int .i64 x1) := h2
    have h3 : w.cell? ⟨p, 3, none⟩ = some (.int .i64 x2) := h3
    have hx' : (x2 != 0) = true := hx'
    go_enter Tryz.func36, Tryz.ntmps36
    go_wp2_with fail
    obtain ⟨W, hW⟩ : ∃ W, W = ((w.alloc (.cells #[.slice a0 l0 c0, .slice a1 l1 c1, .slice a2 l2 c2, .int .i64 fr, .int .i64 to_] 28)).alloc (.cells #[.slice none 0 0, .slice none 0 0, .slice none 0 0, .int .i64 0, .int .i64 0] 28)).alloc (.cells #[.slice none 0 0, .slice none 0 0, .slice none 0 0, .int .i64 0, .int .i64 0] 28) := ⟨_, rfl⟩
    rw [← hW]
    have hb : Below w.heap.size w W := by rw [hW]; exact (((Below.refl _ _).alloc (Nat.le_refl _) _).alloc (by simp) _).alloc (by simp; omega) _
    have HB : Hid (Below w.heap.size w W) := hb
    have g2 := (hb.cell (p := ⟨p, 2, none⟩) hp).trans h2
    have g3 := (hb.cell (p := ⟨p, 3, none⟩) hp).trans h3
    have hZ : Bx W (w.heap.size + 1 + 1) [.slice none 0 0, .slice none 0 0, .slice none 0 0, .int .i64 0, .int .i64 0] := by
      rw [hW]
      have := Bx.new ((w.alloc (.cells #[.slice a0 l0 c0, .slice a1 l1 c1, .slice a2 l2 c2, .int .i64 fr, .int .i64 to_] 28)).alloc (.cells #[.slice none 0 0, .slice none 0 0, .slice none 0 0, .int .i64 0, .int .i64 0] 28)) #[.slice none 0 0, .slice none 0 0, .slice none 0 0, .int .i64 0, .int .i64 0] 28
      simpa using this
    have hR : Bx W (w.heap.size + 1) [.slice none 0 0, .slice none 0 0, .slice none 0 0, .int .i64 0, .int .i64 0] := by
      rw [hW]
      have := Bx.new (w.alloc (.cells #[.slice a0 l0 c0, .slice a1 l1 c1, .slice a2 l2 c2, .int .i64 fr, .int .i64 to_] 28)) #[.slice none 0 0, .slice none 0 0, .slice none 0 0, .int .i64 0, .int .i64 0] 28
      refine Bx.below ?_ ((Below.refl _ _).alloc (Nat.le_refl _) _)
      simpa using this
    obtain ⟨z0, z1, z2, z3, z4, zl⟩ := hZ.five
    obtain ⟨r0, r1, r2, r3, r4, rl⟩ := hR.five
    obtain ⟨f0, f1, f2⟩ := hR.fr
    have f3 := hR.2.1 3
    have f4 := hR.2.1 4
    have hpW : p < W.heap.size := by have := hb.size; omega
    have n1 : ¬ p = w.heap.size + 1 := by omega
    have n2 : ¬ w.heap.size + 1 = p := by omega
    clear hW hZ hR hb h0 h1 h2 h3 hx'
    go_region_held3 (fun w' => (w'.cell? ⟨p, 2, none⟩ = some (.int .i64 x1) ∧ w'.cell? ⟨p, 3, none⟩ = some (.int .i64 x2)) ∧ w'.cell? ⟨w.heap.size + 1 + 1, 0, none⟩ = some (.slice none 0 0) ∧ w'.cell? ⟨w.heap.size + 1 + 1, 1, none⟩ = some (.slice none 0 0) ∧ w'.cell? ⟨w.heap.size + 1 + 1, 2, none⟩ = some (.slice none 0 0) ∧ w'.cell? ⟨w.heap.size + 1 + 1, 3, none⟩ = some (.int .i64 0) ∧ w'.cell? ⟨w.heap.size + 1 + 1, 4, none⟩ = some (.int .i64 0)) (go_keep) (fail)
    have HF : Hid (Below w.heap.size w (((((W.setCell ⟨w.heap.size + 1, 0, none⟩ (.slice none 0 0)).setCell ⟨w.heap.size + 1, 1, none⟩ (.slice none 0 0)).setCell ⟨w.heap.size + 1, 2, none⟩ (.slice none 0 0)).setCell ⟨w.heap.size + 1, 3, none⟩ (.int .i64 0)).setCell ⟨w.heap.size + 1, 4, none⟩ (.int .i64 0)).drew) := (below_part (below_part (below_part (below_part (below_part HB.out (by omega) 0 _) (by omega) 1 _) (by omega) 2 _) (by omega) 3 _) (by omega) 4 _).drew
    go_wp2_with fail
    refine bodyPost_ret (v := .tuple #[.agg #[.slice none 0 0, .slice none 0 0, .slice none 0 0, .int .i64 0, .int .i64 0], .int .i64 x1, .int .i64 x2]) ?_ rfl ⟨rfl, HF.out⟩
    simp [results, Tryz.results36, go_sem, r0, r1, r2, r3, r4]
  | ok r =>
    obtain ⟨-, ar, cr, ⟨h0, h1, h2, h3, -⟩, -⟩ := h
    go_enter Tryz.func36, Tryz.ntmps36
    go_wp2_with fail
    obtain ⟨W, hW⟩ : ∃ W, W = (w.alloc (.cells #[.slice a0 l0 c0, .slice a1 l1 c1, .slice a2 l2 c2, .int .i64 fr, .int .i64 to_] 28)).alloc (.cells #[.slice none 0 0, .slice none 0 0, .slice none 0 0, .int .i64 0, .int .i64 0] 28) := ⟨_, rfl⟩
    rw [← hW]
    have hb : Below w.heap.size w W := by rw [hW]; exact ((Below.refl _ _).alloc (Nat.le_refl _) _).alloc (by simp) _
    have HB : Hid (Below w.heap.size w W) := hb
    have g1 := (hb.cell (p := ⟨p, 1, none⟩) hp).trans h1
    have hZ : Bx W w.heap.size [.slice a0 l0 c0, .slice a1 l1 c1, .slice a2 l2 c2, .int .i64 fr, .int .i64 to_] := by
      rw [hW]
      exact (Bx.new w #[.slice a0 l0 c0, .slice a1 l1 c1, .slice a2 l2 c2, .int .i64 fr, .int .i64 to_] 28).below ((Below.refl _ _).alloc (Nat.le_refl _) _)
    have hR : Bx W (w.heap.size + 1) [.slice none 0 0, .slice none 0 0, .slice none 0 0, .int .i64 0, .int .i64 0] := by
      rw [hW]
      have := Bx.new (w.alloc (.cells #[.slice a0 l0 c0, .slice a1 l1 c1, .slice a2 l2 c2, .int .i64 fr, .int .i64 to_] 28)) #[.slice none 0 0, .slice none 0 0, .slice none 0 0, .int .i64 0, .int .i64 0] 28
      simpa using this
    obtain ⟨z0, z1, z2, z3, z4, zl⟩ := hZ.five
    obtain ⟨r0, r1, r2, r3, r4, rl⟩ := hR.five
    obtain ⟨f0, f1, f2⟩ := hR.fr
    have f3 := hR.2.1 3
    have f4 := hR.2.1 4
    have hpW : p < W.heap.size := by have := hb.size; omega
    have n1 : ¬ p = w.heap.size + 1 := by omega
    have n2 : ¬ w.heap.size + 1 = p := by omega
    clear hW hZ hR hb h0 h1 h2 h3
    go_region_held3 (fun w' => w'.cell? ⟨p, 1, none⟩ = some (.int .i64 en) ∧ w'.cell? ⟨w.heap.size, 0, none⟩ = some (.slice a0 l0 c0) ∧ w'.cell? ⟨w.heap.size, 1, none⟩ = some (.slice a1 l1 c1) ∧ w'.cell? ⟨w.heap.size, 2, none⟩ = some (.slice a2 l2 c2) ∧ w'.cell? ⟨w.heap.size, 3, none⟩ = some (.int .i64 fr) ∧ w'.cell? ⟨w.heap.size, 4, none⟩ = some (.int .i64 to_)) (go_keep) (fail)
    have HF : Hid (Below w.heap.size w (((((W.setCell ⟨w.heap.size + 1, 0, none⟩ (.slice a0 l0 c0)).setCell ⟨w.heap.size + 1, 1, none⟩ (.slice a1 l1 c1)).setCell ⟨w.heap.size + 1, 2, none⟩ (.slice a2 l2 c2)).setCell ⟨w.heap.size + 1, 3, none⟩ (.int .i64 fr)).setCell ⟨w.heap.size + 1, 4, none⟩ (.int .i64 to_)).drew) := (below_part (below_part (below_part (below_part (below_part HB.out (by omega) 0 _) (by omega) 1 _) (by omega) 2 _) (by omega) 3 _) (by omega) 4 _).drew
    go_wp2_with fail
    refine bodyPost_ret (v := .tuple #[.agg #[.slice a0 l0 c0, .slice a1 l1 c1, .slice a2 l2 c2, .int .i64 fr, .int .i64 to_], .int .i64 en, .int .i64 0]) ?_ rfl ⟨rfl, HF.out⟩
    simp [results, Tryz.results36, go_sem, r0, r1, r2, r3, r4]
end Go.Proofs.YtjcanodnlnodpaaGreatDoor.Parse
