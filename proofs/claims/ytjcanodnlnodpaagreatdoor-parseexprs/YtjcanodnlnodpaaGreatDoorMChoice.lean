/- Contracts and plain mathematics, together: ParExpr0, ParChoice, ParClause, ParFew. -/
import Derived.Test.YtjcanodnlnodpaaGreatDoorMInt
import Derived.Test.YtjcanodnlnodpaaGreatDoorMCalc
import Derived.Test.YtjcanodnlnodpaaGreatDoorMExMem
/- Parts of expressions: contracts of the calls, over the turned program. -/
namespace Go.Proofs.YtjcanodnlnodpaaGreatDoor.Parse
open Go.RowKit Go.Maps Go.Proofs.YtjcanodnlnodpaaGreatDoor.Frame Go.Proofs.YtjcanodnlnodpaaGreatDoor.Token Go.Proofs.YtjcanodnlnodpaaGreatDoor.Expr Go.Proofs.YtjcanodnlnodpaaGreatDoor.Calc
set_option linter.unusedVariables false
set_option linter.unusedSimpArgs false

theorem signF_list : ∀ j, j < 11 → (signF ((j : Nat) + 1)).data.toList = opsL.getD j [] := by decide
theorem opB_list (s : List UInt8) {j : Nat} (h : j < 11) : ((signF ((j : Int) + 1)).toList == (str s).toList) = decide (opsL.getD j [] = s) := by
  rw [Go.ByteArray.toList_eq, Go.ByteArray.toList_eq, str_data, signF_list j h]
  rw [Bool.eq_iff_iff, beq_iff_eq, decide_eq_true_eq]
theorem opF_list (s : List UInt8) : opF (str s) = (opL s, decide (opL s ≠ 0)) := by
  have hB : ∀ j, j < 11 → opB (str s) j = decide (opsL.getD j [] = s) := fun j hj => opB_list s hj
  unfold opL
  by_cases h : s ∈ opsL
  · rw [if_pos h]
    have hk : opsL.idxOf s < 11 := List.idxOf_lt_length_iff.2 h
    rw [op_hit hk (fun j hj => by
      rw [hB j (by omega)]
      refine decide_eq_false fun e => ?_
      have hjl : j < opsL.length := by show j < 11; omega
      have := List.not_of_lt_findIdx (p := fun x => x == s) (xs := opsL) hj
      rw [List.getD_eq_getElem?_getD, List.getElem?_eq_getElem hjl] at e
      simp at this e
      exact this e) (by
      rw [opB_list s hk]
      refine decide_eq_true ?_
      have hkl : opsL.idxOf s < opsL.length := List.idxOf_lt_length_iff.2 h
      rw [List.getD_eq_getElem?_getD, List.getElem?_eq_getElem hkl]
      simp)]
    rw [decide_eq_true (show ((opsL.idxOf s : Int) + 1 ≠ 0) by omega)]
  · rw [if_neg h]
    rw [op_miss (k := 11) (Nat.le_refl _) (fun j hj => by
      rw [hB j hj]
      refine decide_eq_false fun e => h ?_
      have hjl : j < opsL.length := hj
      rw [List.getD_eq_getElem?_getD, List.getElem?_eq_getElem hjl] at e
      rw [← e]; exact List.getElem_mem _)]
    rfl
theorem word_op {s : List UInt8} (h : wordB s = true) : opL s = 0 := by
  have h := of_decide_eq_true h
  have : ∀ x, x ∈ wordsL → opL x = 0 := by decide
  exact this s h
def exV (p b : Nat) : Value := .agg #[ptr p, .map (some b)]
def signS (st : St) : Int := match st with
  | .error _ => 0
  | .ok r => opL (peekL (r.map ktI))

set_option maxHeartbeats 1000000 in
theorem part_any (k n : Int) (a : Option Addr) (l c : Nat) (w : World) :
    Calls Tryz.prog 153 #[.int .i64 k, .int .i64 n, .slice a l c] w fun e w' => e = .returned (.agg #[.int .i64 k, .int .i64 n, .slice a l c]) ∧ Below w.heap.size w w' := by
  go_enter Tryz.func153, Tryz.ntmps153
  go_wp2
  refine bodyPost_ret (v := .agg #[.int .i64 k, .int .i64 n, .slice a l c]) ?_ rfl ⟨rfl, ?_⟩
  · simp [results, Tryz.results153, go_sem]
  · repeat first | exact Below.refl _ _ | refine Below.setCell ?_ (by simp) _ | refine Below.alloc ?_ (by simp) _

theorem num_box2 {w1 w2 : World} {x y z : Value} {t : TypeId} (hb : Below (w1.alloc (.cells #[x, y, z] t)).heap.size (w1.alloc (.cells #[x, y, z] t)) w2) : w2.cell? ⟨w1.heap.size, 1, none⟩ = some y ∧ w1.heap.size < w2.heap.size := by
  have c0 : (w1.alloc (.cells #[x, y, z] t)).cell? ⟨w1.heap.size, 1, none⟩ = some y := World.cell?_alloc_at _ _ _ _ rfl
  have h2 := hb.size
  simp at h2
  exact ⟨(hb.cell (p := ⟨w1.heap.size, 1, none⟩) (by simp)).trans c0, by omega⟩
theorem sign_fix {en : Int} {st : St} : signS st = if fixB (hereF en st).kind (hereF en st).text = true then opL (hereF en st).text else 0 := by
  have key : ∀ t : TI, (t.kind = 3 ∨ t.kind = 1 ∧ wordB t.text = true) ↔ fixB t.kind t.text = true := fun t => by unfold fixB; simp
  cases st with
  | error e => rfl
  | ok r =>
    cases r with
    | nil => rfl
    | cons t r =>
      show opL (if t.kind = 3 ∨ t.kind = 1 ∧ wordB t.text = true then t.text else []) = if fixB t.kind t.text = true then opL t.text else 0
      by_cases h : t.kind = 3 ∨ t.kind = 1 ∧ wordB t.text = true
      · rw [if_pos h, if_pos ((key t).1 h)]
      · rw [if_neg h, if_neg (fun g => h ((key t).2 g))]; rfl

set_option maxRecDepth 100000 in
set_option maxHeartbeats 2000000 in
theorem sign_any (B p b : Nat) (en : Int) (st : St) (w : World) (h : RS B w p en st) :
    Calls Tryz.prog 150 #[exV p b] w fun e w' => e = .returned (.tuple #[.int .i64 (signS st), .bool (decide (signS st ≠ 0))]) ∧ Below w.heap.size w w' := by
  have H : Hid (∀ W, Below w.heap.size w W → RS B W p en st) := fun W hW => h.below hW
  have hp := h.lt
  obtain ⟨k, T, pl, hv, hk, hT, -⟩ := here_parts en st
  have HV : Hid (tokV (hereF en st) = .agg #[.int .i64 k, .string T, .int .i64 pl]) := hv
  have hS0 := sign_fix (en := en) (st := st)
  rw [← hk] at hS0
  unfold exV ptr
  clear h
  cases hfx : fixB k T.data.toList with
  | true =>
    have HX : Hid (fixB k T.data.toList = true) := hfx
    rw [hT, str_data] at hfx
    have hS : signS st = (opF T).1 ∧ decide (signS st ≠ 0) = (opF T).2 := by
      rw [hS0, if_pos hfx, hT, opF_list]; exact ⟨rfl, rfl⟩
    rw [hS.2, hS.1]
    clear hS hk hT hv hfx hS0
    go_enter Tryz.func150, Tryz.ntmps150
    go_wp2_with (first
      | (go_at_call 142; refine (here_any B p en st _ (H.out _ ((Below.refl _ _).alloc (Nat.le_refl _) _))).mono ?_; rintro e w1 ⟨he, hb1⟩; rw [HV.out] at he; subst he; have hs1 := hb1.size)
      | (go_at_call 201; refine (fixed_any _ _ _ _).mono ?_; rintro e w2 ⟨he, hb2⟩; rw [HX.out] at he; subst he; obtain ⟨g1, gl⟩ := num_box2 hb2)
      | (go_at_call 202; refine (Calc.op_any _ _).mono ?_; rintro e w' ⟨he, hw⟩; subst he; have hw := hw.symm; subst hw))
    go_ret2
    exact ⟨rfl, then_ ((then_ ((Below.refl _ _).alloc (Nat.le_refl _) _) hb1).alloc (by simp at hs1; omega) _) hb2⟩
  | false =>
    have HX : Hid (fixB k T.data.toList = false) := hfx
    rw [hT, str_data] at hfx
    have hS : signS st = 0 := by rw [hS0, if_neg (by rw [hfx]; decide)]
    rw [hS]
    clear hS hk hT hv hfx hS0
    go_enter Tryz.func150, Tryz.ntmps150
    go_wp2_with (first
      | (go_at_call 142; refine (here_any B p en st _ (H.out _ ((Below.refl _ _).alloc (Nat.le_refl _) _))).mono ?_; rintro e w1 ⟨he, hb1⟩; rw [HV.out] at he; subst he; have hs1 := hb1.size)
      | (go_at_call 201; refine (fixed_any _ _ _ _).mono ?_; rintro e w2 ⟨he, hb2⟩; rw [HX.out] at he; subst he; obtain ⟨g1, gl⟩ := num_box2 hb2))
    go_ret2
    exact ⟨rfl, then_ ((then_ ((Below.refl _ _).alloc (Nat.le_refl _) _) hb1).alloc (by simp at hs1; omega) _) hb2⟩

def Bx (w : World) (q : Nat) (vs : List Value) : Prop := (∀ j, w.cell? ⟨q, j, none⟩ = vs[j]?) ∧ (∀ j, w.frozen? ⟨q, j, none⟩ = false) ∧ q < w.heap.size
theorem Bx.keep {w w' : World} {q : Nat} {vs : List Value} (h : Bx w q vs) (hb : w'.heap[q]? = w.heap[q]?) (hs : w.heap.size ≤ w'.heap.size) : Bx w' q vs :=
  ⟨fun j => (cell_of_block hb j).trans (h.1 j), fun j => (frozen_of_block hb j).trans (h.2.1 j), Nat.lt_of_lt_of_le h.2.2 hs⟩
theorem Bx.ch {M : Nat → Prop} {w w' : World} {q : Nat} {vs : List Value} (h : Bx w q vs) (hc : Ch M w w') (hm : ¬ M q) : Bx w' q vs := h.keep (hc.block q h.2.2 hm) hc.size
theorem Bx.below {w w' : World} {q : Nat} {vs : List Value} (h : Bx w q vs) (hb : Below w.heap.size w w') : Bx w' q vs := h.keep (hb.block q h.2.2) hb.size
theorem Bx.new (w : World) (cs : Array Value) (t : TypeId) : Bx (w.alloc (.cells cs t)) w.heap.size cs.toList :=
  ⟨fun j => by rw [World.cell?_alloc_at _ _ _ _ rfl, Array.getElem?_toList], fun j => World.frozen?_alloc_at _ _ _ _ rfl, by simp⟩
theorem Bx.set {w : World} {q : Nat} {vs : List Value} (h : Bx w q vs) {b o : Nat} {v : Value} (hne : q ≠ b) : Bx (w.setCell ⟨b, o, none⟩ v) q vs :=
  h.keep (RowKit.Below.heap_setCell _ _ _ _ hne) (by simp [World.setCell])
theorem Bx.two {w : World} {q : Nat} {x y : Value} (h : Bx w q [x, y]) : w.cell? ⟨q, 0, none⟩ = some x ∧ w.cell? ⟨q, 1, none⟩ = some y ∧ q < w.heap.size := ⟨h.1 0, h.1 1, h.2.2⟩
theorem Bx.three {w : World} {q : Nat} {x y z : Value} (h : Bx w q [x, y, z]) : w.cell? ⟨q, 0, none⟩ = some x ∧ w.cell? ⟨q, 1, none⟩ = some y ∧ w.cell? ⟨q, 2, none⟩ = some z ∧ q < w.heap.size := ⟨h.1 0, h.1 1, h.1 2, h.2.2⟩
theorem Bx.fr {w : World} {q : Nat} {vs : List Value} (h : Bx w q vs) : w.frozen? ⟨q, 0, none⟩ = false ∧ w.frozen? ⟨q, 1, none⟩ = false ∧ w.frozen? ⟨q, 2, none⟩ = false := ⟨h.2.1 0, h.2.1 1, h.2.1 2⟩
theorem xg_mk {ok : Nat → Nat → Prop} {w : World} {k n : Int} {ks : List Ex} {q : Nat} (hk : In64 k) (hn : In64 n) (hq : ok q 0) (h : ∀ i, i < ks.length → ∃ ai ci, w.cell? ⟨q, i * 3, none⟩ = some (.int .i64 (ks.getD i nilEx).kind) ∧ w.cell? ⟨q, i * 3 + 1, none⟩ = some (.int .i64 (ks.getD i nilEx).num) ∧ w.cell? ⟨q, i * 3 + 2, none⟩ = some (.slice ai (ks.getD i nilEx).kids.length ci) ∧ XG ok w (ks.getD i nilEx) ai) :
    XG ok w ⟨k, n, ks⟩ (some ⟨q, 0, none⟩) := by
  rw [xg_eq]
  refine ⟨⟨hk, hn⟩, .inr ⟨q, 0, rfl, hq, fun i hi => ?_⟩⟩
  obtain ⟨ai, ci, h1, h2, h3, h4⟩ := h i hi
  exact ⟨ai, ci, by rw [Nat.zero_add]; exact h1, by rw [Nat.zero_add]; exact h2, by rw [Nat.zero_add]; exact h3, h4⟩
theorem xg_leaf {ok : Nat → Nat → Prop} {w : World} {k n : Int} (hk : In64 k) (hn : In64 n) (a : Option Addr) : XG ok w ⟨k, n, []⟩ a := by
  rw [xg_eq]; exact ⟨⟨hk, hn⟩, .inl rfl⟩
abbrev xV (t : Ex) (a : Option Addr) (c : Nat) : Value := .agg #[.int .i64 t.kind, .int .i64 t.num, .slice a t.kids.length c]
theorem xg_one {ok : Nat → Nat → Prop} {w : World} {k n : Int} {t : Ex} {a : Option Addr} {c q : Nat} (hk : In64 k) (hn : In64 n) (hq : ok q 0) (h : XG ok w t a) (hb : Bx w q [.int .i64 t.kind, .int .i64 t.num, .slice a t.kids.length c]) : XG ok w ⟨k, n, [t]⟩ (some ⟨q, 0, none⟩) :=
  xg_mk hk hn hq fun i hi => by
    obtain rfl : i = 0 := by simpa using hi
    exact ⟨a, c, hb.1 0, hb.1 1, hb.1 2, h⟩
theorem xg_two {ok : Nat → Nat → Prop} {w : World} {k n : Int} {t u : Ex} {a a' : Option Addr} {c c' q : Nat} (hk : In64 k) (hn : In64 n) (hq : ok q 0) (h : XG ok w t a) (h' : XG ok w u a')
    (hb : Bx w q [.int .i64 t.kind, .int .i64 t.num, .slice a t.kids.length c, .int .i64 u.kind, .int .i64 u.num, .slice a' u.kids.length c']) : XG ok w ⟨k, n, [t, u]⟩ (some ⟨q, 0, none⟩) :=
  xg_mk hk hn hq fun i hi => by
    have : i = 0 ∨ i = 1 := by simp at hi; omega
    rcases this with rfl | rfl
    · exact ⟨a, c, hb.1 0, hb.1 1, hb.1 2, h⟩
    · exact ⟨a', c', hb.1 3, hb.1 4, hb.1 5, h'⟩
theorem xg_three {ok : Nat → Nat → Prop} {w : World} {k n : Int} {t u v : Ex} {a a' a2 : Option Addr} {c c' c2 q : Nat} (hk : In64 k) (hn : In64 n) (hq : ok q 0) (h : XG ok w t a) (h' : XG ok w u a') (h2 : XG ok w v a2)
    (hb : Bx w q [.int .i64 t.kind, .int .i64 t.num, .slice a t.kids.length c, .int .i64 u.kind, .int .i64 u.num, .slice a' u.kids.length c', .int .i64 v.kind, .int .i64 v.num, .slice a2 v.kids.length c2]) : XG ok w ⟨k, n, [t, u, v]⟩ (some ⟨q, 0, none⟩) :=
  xg_mk hk hn hq fun i hi => by
    have : i = 0 ∨ i = 1 ∨ i = 2 := by simp at hi; omega
    rcases this with rfl | rfl | rfl
    · exact ⟨a, c, hb.1 0, hb.1 1, hb.1 2, h⟩
    · exact ⟨a', c', hb.1 3, hb.1 4, hb.1 5, h'⟩
    · exact ⟨a2, c2, hb.1 6, hb.1 7, hb.1 8, h2⟩
theorem xg_ch {W0 : Nat} {M : Nat → Prop} {w w' : World} {t : Ex} {a : Option Addr} (h : XG (fun b _ => W0 ≤ b) w t a) (hc : Ch M w w') (hM : ∀ b, M b → b < W0) : XG (fun b _ => W0 ≤ b) w' t a :=
  h.carry fun b off o hb v hv => hc.cell (fun m => absurd (hM b m) (by omega)) hv
theorem xg_up {W0 W1 : Nat} {w : World} {t : Ex} {a : Option Addr} (h : XG (fun b _ => W1 ≤ b) w t a) (hW : W0 ≤ W1) : XG (fun b _ => W0 ≤ b) w t a := h.mono fun b _ hb => Nat.le_trans hW hb
def EPost (B p : Nat) (en : Int) (st : St) (x : List KT → PR Ex) (w : World) (e : Ending) (w' : World) : Prop := ∃ (t : Ex) (a : Option Addr) (c : Nat) (st' : St), e = .returned (xV t a c) ∧ XG (fun b _ => w.heap.size ≤ b) w' t a ∧ RS B w' p en st' ∧ RCh p w w' ∧ Res en st x st' (fun u => u = t)
end Go.Proofs.YtjcanodnlnodpaaGreatDoor.Parse
/- What stands behind if: a contract of the call, over the turned program. -/
namespace Go.Proofs.YtjcanodnlnodpaaGreatDoor.Parse
open Go.RowKit Go.Maps Go.Proofs.YtjcanodnlnodpaaGreatDoor.Frame Go.Proofs.YtjcanodnlnodpaaGreatDoor.Token Go.Proofs.YtjcanodnlnodpaaGreatDoor.Expr Go.Proofs.YtjcanodnlnodpaaGreatDoor.Calc
set_option linter.unusedVariables false
set_option linter.unusedSimpArgs false

theorem Res.want {β : Type} {en : Int} {st0 st1 st2 : St} {s : List UInt8} {g : List KT → PR β} {Q : β → Prop} (h : Res en st0 (wantP s) st1 (fun _ => True)) (k : Res en st1 g st2 Q) : Res en st0 (fun r => (wantL s r).bind g) st2 Q :=
  (Res.bind (g := fun _ r => g r) h (fun _ _ => k) (fun e he => k.dead he)).congr fun r => (want_bind s r g).symm
theorem Res.bindp {α β : Type} {en : Int} {st0 st1 st2 : St} {x : List KT → PR α} {t : α} {g : α × List KT → PR β} {Q : β → Prop} (h : Res en st0 x st1 (fun u => u = t)) (k : Res en st1 (fun r => g (t, r)) st2 Q) : Res en st0 (fun r => (x r).bind g) st2 Q :=
  Res.bind (g := fun a r => g (a, r)) h (fun u hu => by subst hu; exact k) (fun e he => k.dead he)
def chP (names : List (List UInt8)) (d : Nat) (e0 : Ex) (r : List KT) : PR Ex :=
  (wantL [40] r).bind fun r0 => (peR names 1 0 d e0 r0).bind fun a => (wantL [44] a.2).bind fun r2 => (peR names 1 0 d e0 r2).bind fun b =>
    (wantL [44] b.2).bind fun r4 => (peR names 1 0 d e0 r4).bind fun c => (wantL [41] c.2).bind fun r6 => .ok (⟨6, 0, [a.1, b.1, c.1]⟩, r6)
theorem ch_res {names : List (List UInt8)} {d : Nat} {e0 : Ex} {en : Int} {st s1 s2 s3 s4 s5 s6 s7 : St} {t1 t2 t3 : Ex} (m1 : Res en st (wantP [40]) s1 fun _ => True) (e1 : Res en s1 (peR names 1 0 d e0) s2 fun u => u = t1) (m2 : Res en s2 (wantP [44]) s3 fun _ => True)
    (e2 : Res en s3 (peR names 1 0 d e0) s4 fun u => u = t2) (m3 : Res en s4 (wantP [44]) s5 fun _ => True) (e3 : Res en s5 (peR names 1 0 d e0) s6 fun u => u = t3) (m4 : Res en s6 (wantP [41]) s7 fun _ => True) : Res en st (chP names d e0) s7 fun u => u = ⟨6, 0, [t1, t2, t3]⟩ := by
  unfold chP
  refine Res.want m1 (Res.bindp e1 ?_)
  dsimp only
  refine Res.want m2 (Res.bindp e2 ?_)
  dsimp only
  refine Res.want m3 (Res.bindp e3 ?_)
  dsimp only
  exact Res.want m4 (Res.pure rfl)
def Cx (w : World) (p b n kk : Nat) (f : List UInt8 → Option Nat) (W : World) : Prop :=
  Bx W w.heap.size [.pointer (some ⟨p, 0, none⟩), .map (some b)] ∧ Bx W (w.heap.size + 1) [.int .i64 0, .int .i64 0, .slice none 0 0] ∧ SMp W b n kk f ∧ RCh p w W ∧ w.heap.size + 1 + 1 ≤ W.heap.size
theorem Cx.on {w : World} {p b n kk : Nat} {f : List UInt8 → Option Nat} {W W' : World} (h : Cx w p b n kk f W) (hp : p < w.heap.size) (hb : b ≠ p) (hr : RCh p W W') : Cx w p b n kk f W' :=
  ⟨h.1.ch hr.1 (by omega), h.2.1.ch hr.1 (by omega), h.2.2.1.ch hr.1 hb, h.2.2.2.1.trans hr, Nat.le_trans h.2.2.2.2 hr.1.size⟩
theorem Cx.below {w : World} {p b n kk : Nat} {f : List UInt8 → Option Nat} {W W' : World} (h : Cx w p b n kk f W) (hp : p < w.heap.size) (hb : b ≠ p) (hB : Below W.heap.size W W') : Cx w p b n kk f W' :=
  h.on hp hb (RCh.of_below (by have := h.2.2.2.2; omega) hB)
theorem Cx.al {w : World} {p b n kk : Nat} {f : List UInt8 → Option Nat} {W : World} (h : Cx w p b n kk f W) (hp : p < w.heap.size) (hb : b ≠ p) (o : Obj) : Cx w p b n kk f (W.alloc o) := h.below hp hb ((Below.refl _ _).alloc (Nat.le_refl _) _)
theorem Cx.start {w : World} {p b n kk : Nat} {f : List UInt8 → Option Nat} (hp : p < w.heap.size) (hm : SMp w b n kk f) : Cx w p b n kk f ((w.alloc (.cells #[.pointer (some ⟨p, 0, none⟩), .map (some b)] 92)).alloc (.cells #[.int .i64 0, .int .i64 0, .slice none 0 0] 40)) := by
  have hB : Below w.heap.size w ((w.alloc (.cells #[.pointer (some ⟨p, 0, none⟩), .map (some b)] 92)).alloc (.cells #[.int .i64 0, .int .i64 0, .slice none 0 0] 40)) := ((Below.refl _ _).alloc (Nat.le_refl _) _).alloc (by simp) _
  refine ⟨(Bx.new w #[.pointer (some ⟨p, 0, none⟩), .map (some b)] _).below ((Below.refl _ _).alloc (Nat.le_refl _) _), ?_, hm.below hB, RCh.of_below hp hB, by simp⟩
  have := Bx.new (w.alloc (.cells #[.pointer (some ⟨p, 0, none⟩), .map (some b)] 92)) #[.int .i64 0, .int .i64 0, .slice none 0 0] 40
  simpa using this
def Ax (L : Nat) (t : Ex) (a : Option Addr) (c q : Nat) (W : World) : Prop := XG (fun b _ => L ≤ b) W t a ∧ Bx W q [.int .i64 t.kind, .int .i64 t.num, .slice a t.kids.length c] ∧ L ≤ q
theorem Ax.on {L : Nat} {t : Ex} {a : Option Addr} {c q p : Nat} {W W' : World} (h : Ax L t a c q W) (hp : p < L) (hr : RCh p W W') : Ax L t a c q W' :=
  ⟨xg_ch h.1 hr.1 (fun b hb => by subst hb; exact hp), h.2.1.ch hr.1 (by have := h.2.2; omega), h.2.2⟩
theorem Ax.below {L : Nat} {t : Ex} {a : Option Addr} {c q : Nat} {W W' : World} (h : Ax L t a c q W) (hB : Below W.heap.size W W') : Ax L t a c q W' :=
  ⟨XG.below h.1 hB, h.2.1.below hB, h.2.2⟩
theorem Ax.al {L : Nat} {t : Ex} {a : Option Addr} {c q : Nat} {W : World} (h : Ax L t a c q W) (o : Obj) : Ax L t a c q (W.alloc o) := h.below ((Below.refl _ _).alloc (Nat.le_refl _) _)
theorem Ax.start {L : Nat} {W W' : World} {t : Ex} {a : Option Addr} {c : Nat} (hx : XG (fun b _ => W.heap.size ≤ b) W' t a) (hs : L ≤ W.heap.size) (hs2 : W.heap.size ≤ W'.heap.size) : Ax L t a c W'.heap.size (W'.alloc (.cells #[.int .i64 t.kind, .int .i64 t.num, .slice a t.kids.length c] 40)) :=
  ⟨XG.below (xg_up hx hs) ((Below.refl _ _).alloc (Nat.le_refl _) _), Bx.new W' #[.int .i64 t.kind, .int .i64 t.num, .slice a t.kids.length c] _, Nat.le_trans hs hs2⟩
theorem Cx.fin {B : Nat} {en : Int} {st : St} {w : World} {p b n kk : Nat} {f : List UInt8 → Option Nat} {W : World} {t : Ex} {a : Option Addr} (h : Cx w p b n kk f W) (hp : p < w.heap.size) (hR : RS B W p en st) (hx : XG (fun b _ => w.heap.size + 1 + 1 ≤ b) W t a) (v0 v1 v2 : Value) :
    XG (fun b _ => w.heap.size ≤ b) (((W.setCell ⟨w.heap.size + 1, 0, none⟩ v0).setCell ⟨w.heap.size + 1, 1, none⟩ v1).setCell ⟨w.heap.size + 1, 2, none⟩ v2) t a ∧ RS B (((W.setCell ⟨w.heap.size + 1, 0, none⟩ v0).setCell ⟨w.heap.size + 1, 1, none⟩ v1).setCell ⟨w.heap.size + 1, 2, none⟩ v2) p en st ∧
      RCh p w (((W.setCell ⟨w.heap.size + 1, 0, none⟩ v0).setCell ⟨w.heap.size + 1, 1, none⟩ v1).setCell ⟨w.heap.size + 1, 2, none⟩ v2) := by
  have hc : Ch (· = w.heap.size + 1) W (((W.setCell ⟨w.heap.size + 1, 0, none⟩ v0).setCell ⟨w.heap.size + 1, 1, none⟩ v1).setCell ⟨w.heap.size + 1, 2, none⟩ v2) := (((Ch.refl (fun x => x = w.heap.size + 1) W).setCell (b := w.heap.size + 1) (o := 0) (.inl rfl) v0).setCell (b := w.heap.size + 1) (o := 1) (.inl rfl) v1).setCell (b := w.heap.size + 1) (o := 2) (.inl rfl) v2
  have hB := hR.1.1
  refine ⟨xg_up (hx.carry fun b off o hb v hv => hc.cell (by show ¬ b = _; omega) hv) (by omega), hR.ch hc (fun b hb => by subst hb; omega) (by omega), ?_⟩
  have h1 := h.2.2.2.1
  have hpb := hc.block p (by have := h.2.2.2.2; omega) (by omega)
  exact ⟨⟨hc.os.trans h1.1.os, hc.tape.trans h1.1.tape, hc.output.trans h1.1.output, Nat.le_trans h1.1.size hc.size, fun k hk hm => (hc.block k (Nat.lt_of_lt_of_le hk h1.1.size) (by omega)).trans (h1.1.block k hk hm)⟩, fun o => ⟨fun ho => (cell_of_block hpb o).trans ((h1.2 o).1 ho), (frozen_of_block hpb o).trans (h1.2 o).2⟩⟩

set_option maxRecDepth 100000 in
set_option maxHeartbeats 4000000 in
theorem choice_any (B p b n kk d : Nat) (f : List UInt8 → Option Nat) (names : List (List UInt8)) (e0 : Ex) (en : Int) (st : St) (w : World) (h : RS B w p en st) (hm : SMp w b n kk f) (hb : b ≠ p) (hd : d ≤ 41)
    (hE : ∀ W s, RS B W p en s → SMp W b n kk f → Calls Tryz.prog 100 #[exV p b, .int .i64 0, .int .i64 d] W (EPost B p en s (peR names 1 0 d e0) W)) :
    Calls Tryz.prog 199 #[exV p b, .int .i64 d] w (EPost B p en st (chP names d e0) w) := by
  have hp := h.lt
  have hp2 : p < w.heap.size + 1 + 1 := by omega
  have HE : Hid (∀ W s, RS B W p en s → SMp W b n kk f → Calls Tryz.prog 100 #[exV p b, .int .i64 0, .int .i64 d] W (EPost B p en s (peR names 1 0 d e0) W)) := hE
  have HB : Hid (b ≠ p) := hb
  obtain ⟨W0, hW⟩ : ∃ W0, W0 = (w.alloc (.cells #[.pointer (some ⟨p, 0, none⟩), .map (some b)] 92)).alloc (.cells #[.int .i64 0, .int .i64 0, .slice none 0 0] 40) := ⟨_, rfl⟩
  have hC0 : Cx w p b n kk f W0 := by rw [hW]; exact Cx.start hp hm
  have hB0 : Below w.heap.size w W0 := by rw [hW]; exact ((Below.refl _ _).alloc (Nat.le_refl _) _).alloc (by simp) _
  have H0 : Hid (RS B W0 p en st ∧ Cx w p b n kk f W0) := ⟨h.below hB0, hC0⟩
  have HW : Hid (W0 = _) := hW
  clear h hm hb hE hW hC0 hB0
  unfold exV ptr
  go_enter Tryz.func199, Tryz.ntmps199
  go_wp2_with fail
  rw [← HW.out]
  clear HW
  refine (must_l B p en st _ [40] W0 H0.out.1 rfl (by decide)).mono ?_
  rintro e w1 ⟨he, s1, h1, hr1, m1⟩
  subst he
  have H1 : Hid (RS B w1 p en s1 ∧ Cx w p b n kk f w1) := ⟨h1, H0.out.2.on hp HB.out hr1⟩
  have M1 : Hid (Res en st (wantP [40]) s1 fun _ => True) := m1
  obtain ⟨x0, x1, xl⟩ := H1.out.2.1.two
  clear h1 hr1 m1 H0
  go_wp2_with fail
  refine (HE.out w1 s1 H1.out.1 H1.out.2.2.2.1).mono ?_
  rintro e w2 ⟨t1, a1, c1, s2, he, hx2, h2, hr2, r2⟩
  subst he
  have E1 : Hid (Res en s1 (peR names 1 0 d e0) s2 fun u => u = t1) := r2
  have hC2 := H1.out.2.on hp HB.out hr2
  have A2 : Hid (Ax (w.heap.size + 1 + 1) t1 a1 c1 w2.heap.size (w2.alloc (.cells #[.int .i64 t1.kind, .int .i64 t1.num, .slice a1 t1.kids.length c1] 40))) := Ax.start hx2 (by have := H1.out.2.2.2.2.2; omega) hr2.1.size
  have H2 : Hid (RS B (w2.alloc (.cells #[.int .i64 t1.kind, .int .i64 t1.num, .slice a1 t1.kids.length c1] 40)) p en s2 ∧ Cx w p b n kk f (w2.alloc (.cells #[.int .i64 t1.kind, .int .i64 t1.num, .slice a1 t1.kids.length c1] 40))) := ⟨h2.below ((Below.refl _ _).alloc (Nat.le_refl _) _), hC2.al hp HB.out _⟩
  obtain ⟨x0', x1', xl'⟩ := hC2.1.two
  clear x0 x1 xl H1 h2 hr2 r2 hx2 hC2
  go_wp2_with fail
  obtain ⟨W2, hW2⟩ : ∃ W2, W2 = w2.alloc (.cells #[.int .i64 t1.kind, .int .i64 t1.num, .slice a1 t1.kids.length c1] 40) := ⟨_, rfl⟩
  rw [← hW2] at A2 H2 ⊢
  generalize w2.heap.size = q1 at *
  clear hW2 x0' x1' xl' w2
  refine (must_l B p en s2 _ [44] W2 H2.out.1 rfl (by decide)).mono ?_
  rintro e w3 ⟨he, s3, h3, hr3, m3⟩
  subst he
  have H3 : Hid (RS B w3 p en s3 ∧ Cx w p b n kk f w3) := ⟨h3, H2.out.2.on hp HB.out hr3⟩
  have M2 : Hid (Res en s2 (wantP [44]) s3 fun _ => True) := m3
  have A3 : Hid (Ax (w.heap.size + 1 + 1) t1 a1 c1 q1 w3) := A2.out.on hp2 hr3
  obtain ⟨x0, x1, xl⟩ := H3.out.2.1.two
  clear h3 hr3 m3 H2 A2
  go_wp2_with fail
  refine (HE.out w3 s3 H3.out.1 H3.out.2.2.2.1).mono ?_
  rintro e w4 ⟨t2, a2, c2, s4, he, hx4, h4, hr4, r4⟩
  subst he
  have E2 : Hid (Res en s3 (peR names 1 0 d e0) s4 fun u => u = t2) := r4
  have hC4 := H3.out.2.on hp HB.out hr4
  have A4 : Hid (Ax (w.heap.size + 1 + 1) t1 a1 c1 q1 (w4.alloc (.cells #[.int .i64 t2.kind, .int .i64 t2.num, .slice a2 t2.kids.length c2] 40))) := (A3.out.on hp2 hr4).al _
  have B4 : Hid (Ax (w.heap.size + 1 + 1) t2 a2 c2 w4.heap.size (w4.alloc (.cells #[.int .i64 t2.kind, .int .i64 t2.num, .slice a2 t2.kids.length c2] 40))) := Ax.start hx4 (by have := H3.out.2.2.2.2.2; omega) hr4.1.size
  have H4 : Hid (RS B (w4.alloc (.cells #[.int .i64 t2.kind, .int .i64 t2.num, .slice a2 t2.kids.length c2] 40)) p en s4 ∧ Cx w p b n kk f (w4.alloc (.cells #[.int .i64 t2.kind, .int .i64 t2.num, .slice a2 t2.kids.length c2] 40))) := ⟨h4.below ((Below.refl _ _).alloc (Nat.le_refl _) _), hC4.al hp HB.out _⟩
  obtain ⟨x0', x1', xl'⟩ := hC4.1.two
  clear x0 x1 xl H3 h4 hr4 r4 hx4 hC4 A3
  go_wp2_with fail
  obtain ⟨W4, hW4⟩ : ∃ W4, W4 = w4.alloc (.cells #[.int .i64 t2.kind, .int .i64 t2.num, .slice a2 t2.kids.length c2] 40) := ⟨_, rfl⟩
  rw [← hW4] at A4 B4 H4 ⊢
  generalize w4.heap.size = q2 at *
  clear hW4 x0' x1' xl' w4
  refine (must_l B p en s4 _ [44] W4 H4.out.1 rfl (by decide)).mono ?_
  rintro e w5 ⟨he, s5, h5, hr5, m5⟩
  subst he
  have H5 : Hid (RS B w5 p en s5 ∧ Cx w p b n kk f w5) := ⟨h5, H4.out.2.on hp HB.out hr5⟩
  have M3 : Hid (Res en s4 (wantP [44]) s5 fun _ => True) := m5
  have A5 : Hid (Ax (w.heap.size + 1 + 1) t1 a1 c1 q1 w5) := A4.out.on hp2 hr5
  have B5 : Hid (Ax (w.heap.size + 1 + 1) t2 a2 c2 q2 w5) := B4.out.on hp2 hr5
  obtain ⟨x0, x1, xl⟩ := H5.out.2.1.two
  clear h5 hr5 m5 H4 A4 B4
  go_wp2_with fail
  refine (HE.out w5 s5 H5.out.1 H5.out.2.2.2.1).mono ?_
  rintro e w6 ⟨t3, a3, c3, s6, he, hx6, h6, hr6, r6⟩
  subst he
  have E3 : Hid (Res en s5 (peR names 1 0 d e0) s6 fun u => u = t3) := r6
  have hC6 := H5.out.2.on hp HB.out hr6
  have A6 : Hid (Ax (w.heap.size + 1 + 1) t1 a1 c1 q1 (w6.alloc (.cells #[.int .i64 t3.kind, .int .i64 t3.num, .slice a3 t3.kids.length c3] 40))) := (A5.out.on hp2 hr6).al _
  have B6 : Hid (Ax (w.heap.size + 1 + 1) t2 a2 c2 q2 (w6.alloc (.cells #[.int .i64 t3.kind, .int .i64 t3.num, .slice a3 t3.kids.length c3] 40))) := (B5.out.on hp2 hr6).al _
  have C6 : Hid (Ax (w.heap.size + 1 + 1) t3 a3 c3 w6.heap.size (w6.alloc (.cells #[.int .i64 t3.kind, .int .i64 t3.num, .slice a3 t3.kids.length c3] 40))) := Ax.start hx6 (by have := H5.out.2.2.2.2.2; omega) hr6.1.size
  have H6 : Hid (RS B (w6.alloc (.cells #[.int .i64 t3.kind, .int .i64 t3.num, .slice a3 t3.kids.length c3] 40)) p en s6 ∧ Cx w p b n kk f (w6.alloc (.cells #[.int .i64 t3.kind, .int .i64 t3.num, .slice a3 t3.kids.length c3] 40))) := ⟨h6.below ((Below.refl _ _).alloc (Nat.le_refl _) _), hC6.al hp HB.out _⟩
  obtain ⟨x0', x1', xl'⟩ := hC6.1.two
  clear x0 x1 xl H5 h6 hr6 r6 hx6 hC6 A5 B5
  go_wp2_with fail
  obtain ⟨W6, hW6⟩ : ∃ W6, W6 = w6.alloc (.cells #[.int .i64 t3.kind, .int .i64 t3.num, .slice a3 t3.kids.length c3] 40) := ⟨_, rfl⟩
  rw [← hW6] at A6 B6 C6 H6 ⊢
  generalize w6.heap.size = q3 at *
  clear hW6 x0' x1' xl' w6
  refine (must_l B p en s6 _ [41] W6 H6.out.1 rfl (by decide)).mono ?_
  rintro e w7 ⟨he, s7, h7, hr7, m7⟩
  subst he
  have H7 : Hid (RS B w7 p en s7 ∧ Cx w p b n kk f w7) := ⟨h7, H6.out.2.on hp HB.out hr7⟩
  have M4 : Hid (Res en s6 (wantP [41]) s7 fun _ => True) := m7
  have A7 : Hid (Ax (w.heap.size + 1 + 1) t1 a1 c1 q1 w7) := A6.out.on hp2 hr7
  have B7 : Hid (Ax (w.heap.size + 1 + 1) t2 a2 c2 q2 w7) := B6.out.on hp2 hr7
  have C7 : Hid (Ax (w.heap.size + 1 + 1) t3 a3 c3 q3 w7) := C6.out.on hp2 hr7
  obtain ⟨y0, y1, y2, yl⟩ := A7.out.2.1.three
  obtain ⟨z0, z1, z2, zl⟩ := B7.out.2.1.three
  obtain ⟨u0, u1, u2, ul⟩ := C7.out.2.1.three
  have RR : Hid (Res en st (chP names d e0) s7 fun u => u = ⟨6, 0, [t1, t2, t3]⟩) := ch_res M1.out E1.out M2.out E2.out M3.out E3.out M4.out
  clear h7 hr7 m7 H6 A6 B6 C6
  go_wp2_with fail
  refine (part_any 6 0 (some ⟨w7.heap.size, 0, none⟩) 3 3 _).mono ?_
  rintro e w8 ⟨he, hb8⟩
  subst he
  have hal : Below w7.heap.size w7 (w7.alloc (.cells #[.int .i64 t1.kind, .int .i64 t1.num, .slice a1 t1.kids.length c1, .int .i64 t2.kind, .int .i64 t2.num, .slice a2 t2.kids.length c2, .int .i64 t3.kind, .int .i64 t3.num, .slice a3 t3.kids.length c3] 40)) := (Below.refl _ _).alloc (Nat.le_refl _) _
  have hB8 := then_ hal hb8
  have hx8 : XG (fun b _ => w.heap.size + 1 + 1 ≤ b) w8 ⟨6, 0, [t1, t2, t3]⟩ (some ⟨w7.heap.size, 0, none⟩) :=
    xg_three ⟨by decide, by decide⟩ ⟨by decide, by decide⟩ (by have := H7.out.2.2.2.2.2; omega) (XG.below A7.out.1 hB8) (XG.below B7.out.1 hB8) (XG.below C7.out.1 hB8)
      ((Bx.new w7 #[.int .i64 t1.kind, .int .i64 t1.num, .slice a1 t1.kids.length c1, .int .i64 t2.kind, .int .i64 t2.num, .slice a2 t2.kids.length c2, .int .i64 t3.kind, .int .i64 t3.num, .slice a3 t3.kids.length c3] 40).below hb8)
  have F8 := H7.out.2.below hp HB.out hB8
  have FN : Hid (∀ v0 v1 v2 : Value, _) := fun v0 v1 v2 => F8.fin hp (H7.out.1.below hB8) hx8 v0 v1 v2
  obtain ⟨g0, g1, g2, gl⟩ := F8.2.1.three
  obtain ⟨f0, f1, f2⟩ := F8.2.1.fr
  clear hx8 hB8 hb8 hal F8 A7 B7 C7 H7 y0 y1 y2 yl z0 z1 z2 zl u0 u1 u2 ul
  go_wp2_with fail
  refine bodyPost_ret (v := xV ⟨6, 0, [t1, t2, t3]⟩ (some ⟨w7.heap.size, 0, none⟩) 3) ?_ rfl ⟨⟨6, 0, [t1, t2, t3]⟩, some ⟨w7.heap.size, 0, none⟩, 3, s7, rfl, (FN.out _ _ _).1, (FN.out _ _ _).2.1, (FN.out _ _ _).2.2, RR.out⟩
  simp [results, Tryz.results199, go_sem, g0, g1, g2]
end Go.Proofs.YtjcanodnlnodpaaGreatDoor.Parse
/- Clauses, one by one. No program stands in it. -/
namespace Go.Proofs.YtjcanodnlnodpaaGreatDoor.Parse
open Go.Proofs.YtjcanodnlnodpaaGreatDoor.Token Go.Proofs.YtjcanodnlnodpaaGreatDoor.Expr Go.Proofs.YtjcanodnlnodpaaGreatDoor.Calc
set_option linter.unusedVariables false
set_option linter.unusedSimpArgs false

def varB (n : PNet) (t : PTask) (r : List KT) : PR PTask := (freshP (t.vars.map Prod.fst) r).bind fun s => (wantL [58] s.2).bind fun r1 => (findP (n.colours.map PCol.name) r1).bind fun c => .ok ({ t with vars := t.vars ++ [(s.1, c.1)] }, c.2)
def whenB (n : PNet) (t : PTask) (r : List KT) : PR PTask := (exprP (t.vars.map Prod.fst) r).bind fun e => .ok ({ t with guard := e.1 }, e.2)
def joinB (n : PNet) (t : PTask) (r : List KT) : PR PTask := (kindP r).bind fun k => .ok ({ t with join := k.1 }, k.2)
def splitB (n : PNet) (t : PTask) (r : List KT) : PR PTask := (kindP r).bind fun k => .ok ({ t with split := k.1 }, k.2)
def inB (n : PNet) (t : PTask) (r : List KT) : PR PTask := (arcP n (t.vars.map Prod.fst) r).bind fun a => .ok ({ t with ins := t.ins ++ [a.1] }, a.2)
def outB (n : PNet) (t : PTask) (r : List KT) : PR PTask := (arcP n (t.vars.map Prod.fst) r).bind fun a => .ok ({ t with outs := t.outs ++ [a.1] }, a.2)
def cancelB (n : PNet) (t : PTask) (r : List KT) : PR PTask := (findP (n.places.map PPlace.name) r).bind fun k => .ok ({ t with cancel := t.cancel ++ [k.1] }, k.2)
def afterB (n : PNet) (t : PTask) (r : List KT) : PR PTask := (numP r).bind fun k => .ok ({ t with after := k.1 }, k.2)
def manyB (n : PNet) (t : PTask) (r : List KT) : PR PTask := (numP r).bind fun a => (wantL [44] a.2).bind fun r1 => (numP r1).bind fun b => (wantL [44] b.2).bind fun r2 => (numP r2).bind fun c => .ok ({ t with m0 := a.1, m1 := b.1, m2 := c.1 }, c.2)
def wordN : Nat → List UInt8
  | 0 => [118, 97, 114]
  | 1 => [119, 104, 101, 110]
  | 2 => [106, 111, 105, 110]
  | 3 => [115, 112, 108, 105, 116]
  | 4 => [105, 110]
  | 5 => [111, 117, 116]
  | 6 => [99, 97, 110, 99, 101, 108]
  | 7 => [97, 102, 116, 101, 114]
  | _ => [109, 97, 110, 121]
def bodyN (n : PNet) (t : PTask) : Nat → List KT → PR PTask
  | 0 => varB n t
  | 1 => whenB n t
  | 2 => joinB n t
  | 3 => splitB n t
  | 4 => inB n t
  | 5 => outB n t
  | 6 => cancelB n t
  | 7 => afterB n t
  | _ => manyB n t
def onceN : Nat → Bool
  | 1 => true
  | 2 => true
  | 3 => true
  | 7 => true
  | 8 => true
  | _ => false
theorem once_iff {i : Nat} (h : i < 9) : (wordN i ∈ onceL) ↔ onceN i = true := by
  have : i = 0 ∨ i = 1 ∨ i = 2 ∨ i = 3 ∨ i = 4 ∨ i = 5 ∨ i = 6 ∨ i = 7 ∨ i = 8 := by omega
  rcases this with rfl | rfl | rfl | rfl | rfl | rfl | rfl | rfl | rfl <;> decide
theorem word_ne {i : Nat} (h : i < 9) : wordN i ≠ [] := by
  have : i = 0 ∨ i = 1 ∨ i = 2 ∨ i = 3 ∨ i = 4 ∨ i = 5 ∨ i = 6 ∨ i = 7 ∨ i = 8 := by omega
  rcases this with rfl | rfl | rfl | rfl | rfl | rfl | rfl | rfl | rfl <;> decide
theorem word_inj : ∀ i, i < 9 → ∀ j, j < 9 → wordN i = wordN j → i = j := by decide
theorem word_end {i : Nat} (h : i < 9) : wordN i ≠ [125] := by
  have : i = 0 ∨ i = 1 ∨ i = 2 ∨ i = 3 ∨ i = 4 ∨ i = 5 ∨ i = 6 ∨ i = 7 ∨ i = 8 := by omega
  rcases this with rfl | rfl | rfl | rfl | rfl | rfl | rfl | rfl | rfl <;> decide
theorem clause_eq (n : PNet) (had : List (List UInt8)) (t : PTask) {i : Nat} (hi : i < 9) (h1 : ¬ (onceN i = true ∧ wordN i ∈ had)) (r : List KT) (hr : peekL r = wordN i) :
    clauseP n had t r = (bodyN n t i r.tail).bind fun u => (wantL [59] u.2).bind fun r3 => .ok (u.1, r3) := by
  unfold clauseP
  rw [hr, if_neg (fun g => h1 ⟨(once_iff hi).1 g.1, g.2⟩)]
  have : i = 0 ∨ i = 1 ∨ i = 2 ∨ i = 3 ∨ i = 4 ∨ i = 5 ∨ i = 6 ∨ i = 7 ∨ i = 8 := by omega
  rcases this with rfl | rfl | rfl | rfl | rfl | rfl | rfl | rfl | rfl <;> rfl
theorem clause_twice (n : PNet) (had : List (List UInt8)) (t : PTask) {i : Nat} (hi : i < 9) (h1 : onceN i = true ∧ wordN i ∈ had) (r : List KT) (hr : peekL r = wordN i) : clauseP n had t r = .error (r, 5) := by
  unfold clauseP
  rw [hr, if_pos ⟨(once_iff hi).2 h1.1, h1.2⟩]
theorem clause_none (n : PNet) (had : List (List UInt8)) (t : PTask) (r : List KT) (h : ∀ i, i < 9 → peekL r ≠ wordN i) : clauseP n had t r = .error (r, 4) := by
  unfold clauseP
  rw [if_neg (fun g => by
    have := g.1
    unfold onceL at this
    simp only [List.mem_cons, List.not_mem_nil, or_false] at this
    rcases this with e | e | e | e | e
    · exact h 1 (by decide) e
    · exact h 2 (by decide) e
    · exact h 3 (by decide) e
    · exact h 7 (by decide) e
    · exact h 8 (by decide) e)]
  rw [if_neg (show ¬ peekL r = [118, 97, 114] from h 0 (by decide)), if_neg (show ¬ peekL r = [119, 104, 101, 110] from h 1 (by decide)), if_neg (show ¬ peekL r = [106, 111, 105, 110] from h 2 (by decide)), if_neg (show ¬ peekL r = [115, 112, 108, 105, 116] from h 3 (by decide)), if_neg (show ¬ peekL r = [105, 110] from h 4 (by decide)), if_neg (show ¬ peekL r = [111, 117, 116] from h 5 (by decide)), if_neg (show ¬ peekL r = [99, 97, 110, 99, 101, 108] from h 6 (by decide)), if_neg (show ¬ peekL r = [97, 102, 116, 101, 114] from h 7 (by decide)), if_neg (show ¬ peekL r = [109, 97, 110, 121] from h 8 (by decide))]
  rfl
theorem clause_res {en : Int} {st st2 st3 : St} {n : PNet} {had : List (List UInt8)} {t t' : PTask} {i : Nat} (hi : i < 9) (hw : tookB st (wordN i) = true) (h1 : ¬ (onceN i = true ∧ wordN i ∈ had)) (hB : Res en (tookS st (wordN i)) (bodyN n t i) st2 fun u => u = t') (hm : Res en st2 (wantP [59]) st3 fun _ => True) : Res en st (clauseP n had t) st3 fun u => u = t' := by
  refine took_res (x := fun r => (bodyN n t i r).bind fun u => (wantL [59] u.2).bind fun r3 => .ok (u.1, r3)) (word_ne hi) hw ?_ (fun r hr => clause_eq n had t hi h1 r hr)
  refine Res.bindp hB ?_
  dsimp only
  exact Res.want hm (Res.pure rfl)
theorem twice_res {en : Int} {st : St} {n : PNet} {had : List (List UInt8)} {t : PTask} {i : Nat} (hi : i < 9) (hw : tookB st (wordN i) = true) (h1 : onceN i = true ∧ wordN i ∈ had) {P : PTask → Prop} : Res en st (clauseP n had t) (failS st (hereF en st).at_ 5) P := by
  obtain ⟨t0, r, rfl, hp, -⟩ := took_yes hw (word_ne hi)
  exact Res.of_err (s := t0 :: r) (clause_twice n had t hi h1 _ hp) List.suffix_rfl rfl
theorem peek_res {α : Type} {en : Int} {st st1 : St} {s : List UInt8} {x y : List KT → PR α} {P : α → Prop} (hs : s ≠ []) (hb : tookB st s = true) (h : Res en st x st1 P) (hy : ∀ r, peekL r = s → y r = x r) : Res en st y st1 P := by
  obtain ⟨t, r, rfl, hp, -⟩ := took_yes hb hs
  have e : y ((t :: r).map ktI) = x ((t :: r).map ktI) := hy _ hp
  cases hx : x ((t :: r).map ktI) with
  | error e' => obtain ⟨s', h1, h2, rfl⟩ := h.err hx; exact Res.of_err (e.trans hx) h1 h2
  | ok v => obtain ⟨⟨s', h1, h2, rfl⟩, hp⟩ := h.ok hx; exact Res.of_ok (e.trans hx) h1 h2 hp
theorem none_res {α : Type} {en : Int} {st st1 : St} {x y : List KT → PR α} {P : α → Prop} {ss : List (List UInt8)} (hb : ∀ s, s ∈ ss → tookB st s = false) (h : Res en st x st1 P) (hy : ∀ r, (∀ s, s ∈ ss → peekL r ≠ s) → y r = x r) : Res en st y st1 P := by
  cases st with
  | error e => exact h
  | ok r =>
    have e : y (r.map ktI) = x (r.map ktI) := hy _ fun s hs => of_decide_eq_false (hb s hs)
    cases hx : x (r.map ktI) with
    | error e' => obtain ⟨s', h1, h2, rfl⟩ := h.err hx; exact Res.of_err (e.trans hx) h1 h2
    | ok v => obtain ⟨⟨s', h1, h2, rfl⟩, hp⟩ := h.ok hx; exact Res.of_ok (e.trans hx) h1 h2 hp
theorem res_rest {α : Type} {en : Int} {r : List TI} {st' : St} {x : List KT → PR α} {P : α → Prop} (h : Res en (.ok r) x st' P) {s : List TI} (hs : st' = .ok s) : s.length ≤ r.length := by
  cases hx : x (r.map ktI) with
  | error e => obtain ⟨z, _, _, h3⟩ := h.err hx; rw [hs] at h3; cases h3
  | ok v =>
    obtain ⟨⟨z, h1, _, h3⟩, _⟩ := h.ok hx
    rw [hs] at h3
    injection h3 with h3
    subst h3
    exact h1.length_le
end Go.Proofs.YtjcanodnlnodpaaGreatDoor.Parse
/- A member and how many, and a join's kind: contracts of the calls, over the turned program. -/
namespace Go.Proofs.YtjcanodnlnodpaaGreatDoor.Parse
open Go.RowKit Go.Maps Go.Proofs.YtjcanodnlnodpaaGreatDoor.Frame Go.Proofs.YtjcanodnlnodpaaGreatDoor.Token Go.Proofs.YtjcanodnlnodpaaGreatDoor.Expr Go.Proofs.YtjcanodnlnodpaaGreatDoor.Calc
set_option linter.unusedVariables false
set_option linter.unusedSimpArgs false

def fewP (r : List KT) : PR (Int × Int) := (numP r).bind fun m => (if peekL m.2 = [42] then numP m.2.tail else (.ok (1, m.2) : PR Int)).bind fun k => .ok ((m.1, k.1), k.2)
def FewPost (B p : Nat) (en : Int) (st : St) (w : World) (e : Ending) (w' : World) : Prop := ∃ m k st', e = .returned (.agg #[.int .i64 m, .int .i64 (min k 1048576)]) ∧ (0 ≤ m ∧ m < 9223372036854775808) ∧ (0 ≤ k ∧ k < 9223372036854775808) ∧ RS B w' p en st' ∧ RCh p w w' ∧ Res en st fewP st' (fun u => u = (m, k))
theorem fin2 {B p : Nat} {en : Int} {st : St} {w W : World} (hp : p < w.heap.size) (hR : RS B W p en st) (hr : RCh p w W) (v0 v1 : Value) : RS B ((W.setCell ⟨w.heap.size, 0, none⟩ v0).setCell ⟨w.heap.size, 1, none⟩ v1) p en st ∧ RCh p w ((W.setCell ⟨w.heap.size, 0, none⟩ v0).setCell ⟨w.heap.size, 1, none⟩ v1) := by
  have hc : Ch (fun x => x = w.heap.size) W ((W.setCell ⟨w.heap.size, 0, none⟩ v0).setCell ⟨w.heap.size, 1, none⟩ v1) := ((Ch.refl (fun x => x = w.heap.size) W).setCell (b := w.heap.size) (o := 0) (.inl rfl) v0).setCell (b := w.heap.size) (o := 1) (.inl rfl) v1
  have hB := hR.1.1
  have hs := hr.1.size
  have hpb := hc.block p (by omega) (by omega)
  exact ⟨hR.ch hc (fun b hb => by subst hb; omega) (by omega), ⟨hc.os.trans hr.1.os, hc.tape.trans hr.1.tape, hc.output.trans hr.1.output, Nat.le_trans hs hc.size, fun k hk hm => (hc.block k (Nat.lt_of_lt_of_le hk hs) (by omega)).trans (hr.1.block k hk hm)⟩, fun o => ⟨fun ho => (cell_of_block hpb o).trans ((hr.2 o).1 ho), (frozen_of_block hpb o).trans (hr.2 o).2⟩⟩

set_option maxRecDepth 100000 in
set_option maxHeartbeats 4000000 in
theorem few_any (B p : Nat) (en : Int) (st : St) (w : World) (h : RS B w p en st) : Calls Tryz.prog 216 #[ptr p] w (FewPost B p en st w) := by
  have hp := h.lt
  have H0 : Hid (∀ o, RS B (w.alloc o) p en st ∧ RCh p w (w.alloc o)) := fun o => ⟨h.below ((Below.refl _ _).alloc (Nat.le_refl _) _), RCh.of_below hp ((Below.refl _ _).alloc (Nat.le_refl _) _)⟩
  have HBx : Hid (Bx (w.alloc (.cells #[.int .i64 0, .int .i64 0] 71)) w.heap.size [.int .i64 0, .int .i64 0]) := Bx.new w #[.int .i64 0, .int .i64 0] _
  obtain ⟨m, s1, hm⟩ : ∃ m s1, numberF en st = (m, s1) := ⟨_, _, rfl⟩
  have n1 := number_in en st
  have R1 : Hid (Res en st numP s1 fun u => u = m) := by have := number_res en st; rw [hm] at this; exact this
  have HN1 : Hid (∀ W, RS B W p en st → Calls Tryz.prog 200 #[ptr p] W fun e w' => e = .returned (.int .i64 m) ∧ RS B w' p en s1 ∧ RCh p W w') := fun W hW => by have := number_any B p en st W hW; rw [hm] at this; exact this
  rw [hm] at n1
  have n1 : 0 ≤ m ∧ m < 9223372036854775808 := n1
  clear h hm
  unfold ptr
  cases hb : tookB s1 [42] with
  | true =>
    have HB : Hid (tookB s1 [42] = true) := hb
    obtain ⟨k, s2, hk⟩ : ∃ k s2, numberF en (tookS s1 [42]) = (k, s2) := ⟨_, _, rfl⟩
    have n2 := number_in en (tookS s1 [42])
    have R2 : Hid (Res en (tookS s1 [42]) numP s2 fun u => u = k) := by have := number_res en (tookS s1 [42]); rw [hk] at this; exact this
    have HN2 : Hid (∀ W, RS B W p en (tookS s1 [42]) → Calls Tryz.prog 200 #[ptr p] W fun e w' => e = .returned (.int .i64 k) ∧ RS B w' p en s2 ∧ RCh p W w') := fun W hW => by have := number_any B p en _ W hW; rw [hk] at this; exact this
    rw [hk] at n2
    have n2 : 0 ≤ k ∧ k < 9223372036854775808 := n2
    have RR : Hid (Res en st fewP s2 fun u => u = (m, k)) := by
      refine Res.bindp R1.out ?_
      dsimp only
      refine took_res (x := fun r => (numP r).bind fun k => .ok ((m, k.1), k.2)) (by decide) HB.out (Res.map (f := fun k => (m, k)) R2.out (fun u hu => by rw [hu])) (fun r hr => by rw [if_pos hr])
    clear hb hk
    go_enter Tryz.func216, Tryz.ntmps216
    go_wp2_with fail
    refine (HN1.out _ (H0.out _).1).mono ?_
    rintro e w1 ⟨he, h1, hr1⟩
    subst he
    have K1 : Hid (RS B w1 p en s1 ∧ RCh p w w1 ∧ Bx w1 w.heap.size [.int .i64 0, .int .i64 0]) := ⟨h1, (H0.out _).2.trans hr1, HBx.out.ch hr1.1 (by omega)⟩
    clear h1 hr1
    go_wp2_with fail
    refine (took_t B p en s1 _ [42] w1 K1.out.1 rfl (by decide) HB.out).mono ?_
    rintro e w2 ⟨he, h2, hr2⟩
    subst he
    have K2 : Hid (RS B w2 p en (tookS s1 [42]) ∧ RCh p w w2 ∧ Bx w2 w.heap.size [.int .i64 0, .int .i64 0]) := ⟨h2, K1.out.2.1.trans hr2, K1.out.2.2.ch hr2.1 (by omega)⟩
    clear h2 hr2 K1
    go_wp2_with fail
    refine (HN2.out w2 K2.out.1).mono ?_
    rintro e w3 ⟨he, h3, hr3⟩
    subst he
    have K3 : Hid (RS B w3 p en s2 ∧ RCh p w w3 ∧ Bx w3 w.heap.size [.int .i64 0, .int .i64 0]) := ⟨h3, K2.out.2.1.trans hr3, K2.out.2.2.ch hr3.1 (by omega)⟩
    have FN : Hid (∀ v0 v1 : Value, _) := fun v0 v1 => fin2 hp K3.out.1 K3.out.2.1 v0 v1
    obtain ⟨g0, g1, gl⟩ := K3.out.2.2.two
    have f0 := K3.out.2.2.2.1 0
    have f1 := K3.out.2.2.2.1 1
    clear h3 hr3 K2
    go_wp2_with fail
    refine bodyPost_ret (v := .agg #[.int .i64 m, .int .i64 (min k 1048576)]) ?_ rfl ⟨m, k, s2, rfl, n1, n2, (FN.out _ _).1, (FN.out _ _).2, RR.out⟩
    simp [results, Tryz.results216, go_sem, g0, g1]
  | false =>
    have HB : Hid (tookB s1 [42] = false) := hb
    have RR : Hid (Res en st fewP s1 fun u => u = (m, 1)) := by
      refine Res.bindp R1.out ?_
      dsimp only
      exact nottook_res (P := fun u => u = (m, 1)) (x := fun r => .ok ((m, 1), r)) HB.out (Res.pure rfl) (fun r hr => by rw [if_neg hr]; rfl)
    clear hb
    go_enter Tryz.func216, Tryz.ntmps216
    go_wp2_with fail
    refine (HN1.out _ (H0.out _).1).mono ?_
    rintro e w1 ⟨he, h1, hr1⟩
    subst he
    have K1 : Hid (RS B w1 p en s1 ∧ RCh p w w1 ∧ Bx w1 w.heap.size [.int .i64 0, .int .i64 0]) := ⟨h1, (H0.out _).2.trans hr1, HBx.out.ch hr1.1 (by omega)⟩
    clear h1 hr1
    go_wp2_with fail
    refine (took_f B p en s1 _ [42] w1 K1.out.1 rfl (by decide) HB.out).mono ?_
    rintro e w2 ⟨he, h2, hr2⟩
    subst he
    have K2 : Hid (RS B w2 p en s1 ∧ RCh p w w2 ∧ Bx w2 w.heap.size [.int .i64 0, .int .i64 0]) := ⟨h2, K1.out.2.1.trans hr2, K1.out.2.2.ch hr2.1 (by omega)⟩
    have FN : Hid (∀ v0 v1 : Value, _) := fun v0 v1 => fin2 hp K2.out.1 K2.out.2.1 v0 v1
    obtain ⟨g0, g1, gl⟩ := K2.out.2.2.two
    have f0 := K2.out.2.2.2.1 0
    have f1 := K2.out.2.2.2.1 1
    clear h2 hr2 K1
    go_wp2_with fail
    refine bodyPost_ret (v := .agg #[.int .i64 m, .int .i64 (min 1 1048576)]) ?_ rfl ⟨m, 1, s1, rfl, n1, ⟨by decide, by decide⟩, (FN.out _ _).1, (FN.out _ _).2, RR.out⟩
    simp [results, Tryz.results216, go_sem, g0, g1]

def TRp (w : World) (q p : Nat) : Prop := w.cell? ⟨q, 0, none⟩ = some (.pointer (some ⟨p, 0, none⟩)) ∧ q < w.heap.size ∧ q ≠ p
theorem TRp.on {w w' : World} {q p : Nat} (h : TRp w q p) (hr : RCh p w w') : TRp w' q p := ⟨hr.1.cell h.2.2 h.1, Nat.lt_of_lt_of_le h.2.1 hr.1.size, h.2.2⟩
def KindPost (B p : Nat) (en : Int) (st : St) (w : World) (e : Ending) (w' : World) : Prop := ∃ k st', e = .returned (.int .i64 k) ∧ RS B w' p en st' ∧ RCh p w w' ∧ Res en st kindP st' (fun u => u = k) ∧ (0 ≤ k ∧ k ≤ 3)

set_option maxRecDepth 100000 in
set_option maxHeartbeats 4000000 in
theorem kind_any (B p q : Nat) (en : Int) (st : St) (w : World) (h : RS B w p en st) (hq : TRp w q p) : Calls Tryz.prog 237 #[ptr q] w (KindPost B p en st w) := by
  have H0 : Hid (RS B w p en st ∧ TRp w q p) := ⟨h, hq⟩
  obtain ⟨t0, tl, tn⟩ := hq
  clear h
  unfold ptr
  cases b1 : tookB st [97, 110, 100] with
  | true =>
    have B1 : Hid (tookB st [97, 110, 100] = true) := b1
    have RR : Hid (Res en st kindP (tookS st [97, 110, 100]) fun u => u = 1) := took_res (P := fun u => u = 1) (y := kindP) (x := fun r => .ok (1, r)) (by decide) b1 (Res.pure rfl) (fun r hr => by unfold kindP; rw [if_pos hr])
    clear b1
    go_enter Tryz.func237, Tryz.ntmps237
    go_wp2_with fail
    refine (took_t B p en st _ [97, 110, 100] w H0.out.1 rfl (by decide) B1.out).mono ?_
    rintro e w1 ⟨he, h1, hr1⟩
    subst he
    have K1 : Hid (_ ∧ _) := And.intro h1 hr1
    clear h1 hr1 t0 tl
    go_wp2_with fail
    go_ret
    exact ⟨1, _, rfl, K1.out.1, K1.out.2, RR.out, by decide, by decide⟩
  | false =>
    have B1 : Hid (tookB st [97, 110, 100] = false) := b1
    cases b2 : tookB st [120, 111, 114] with
    | true =>
      have B2 : Hid (tookB st [120, 111, 114] = true) := b2
      have RR : Hid (Res en st kindP (tookS st [120, 111, 114]) fun u => u = 2) := took_res (P := fun u => u = 2) (y := kindP) (x := fun r => .ok (2, r)) (by decide) b2 (Res.pure rfl) (fun r hr => by unfold kindP; rw [if_neg (by rw [hr]; decide), if_pos hr])
      clear b1 b2
      go_enter Tryz.func237, Tryz.ntmps237
      go_wp2_with fail
      refine (took_f B p en st _ [97, 110, 100] w H0.out.1 rfl (by decide) B1.out).mono ?_
      rintro e w1 ⟨he, h1, hr1⟩
      subst he
      have K1 : Hid (RS B w1 p en st ∧ RCh p w w1) := And.intro h1 hr1
      obtain ⟨u0, ul, un⟩ := H0.out.2.on hr1
      clear h1 hr1 t0 tl
      go_wp2_with fail
      refine (took_t B p en st _ [120, 111, 114] w1 K1.out.1 rfl (by decide) B2.out).mono ?_
      rintro e w2 ⟨he, h2, hr2⟩
      subst he
      have K2 : Hid (RS B w2 p en (tookS st [120, 111, 114]) ∧ RCh p w w2) := And.intro h2 (K1.out.2.trans hr2)
      clear h2 hr2 u0 ul
      go_wp2_with fail
      go_ret
      exact ⟨2, _, rfl, K2.out.1, K2.out.2, RR.out, by decide, by decide⟩
    | false =>
      have B2 : Hid (tookB st [120, 111, 114] = false) := b2
      cases b3 : tookB st [111, 114] with
      | true =>
        have B3 : Hid (tookB st [111, 114] = true) := b3
        have RR : Hid (Res en st kindP (tookS st [111, 114]) fun u => u = 3) := took_res (P := fun u => u = 3) (y := kindP) (x := fun r => .ok (3, r)) (by decide) b3 (Res.pure rfl) (fun r hr => by unfold kindP; rw [if_neg (by rw [hr]; decide), if_neg (by rw [hr]; decide), if_pos hr])
        clear b1 b2 b3
        go_enter Tryz.func237, Tryz.ntmps237
        go_wp2_with fail
        refine (took_f B p en st _ [97, 110, 100] w H0.out.1 rfl (by decide) B1.out).mono ?_
        rintro e w1 ⟨he, h1, hr1⟩
        subst he
        have K1 : Hid (RS B w1 p en st ∧ RCh p w w1 ∧ TRp w1 q p) := ⟨h1, hr1, H0.out.2.on hr1⟩
        obtain ⟨u0, ul, un⟩ := K1.out.2.2
        clear h1 hr1 t0 tl
        go_wp2_with fail
        refine (took_f B p en st _ [120, 111, 114] w1 K1.out.1 rfl (by decide) B2.out).mono ?_
        rintro e w2 ⟨he, h2, hr2⟩
        subst he
        have K2 : Hid (RS B w2 p en st ∧ RCh p w w2 ∧ TRp w2 q p) := ⟨h2, K1.out.2.1.trans hr2, K1.out.2.2.on hr2⟩
        clear u0 ul un h2 hr2 K1
        obtain ⟨u0, ul, un⟩ := K2.out.2.2
        go_wp2_with fail
        refine (took_t B p en st _ [111, 114] w2 K2.out.1 rfl (by decide) B3.out).mono ?_
        rintro e w3 ⟨he, h3, hr3⟩
        subst he
        have K3 : Hid (RS B w3 p en (tookS st [111, 114]) ∧ RCh p w w3) := ⟨h3, K2.out.2.1.trans hr3⟩
        clear u0 ul un h3 hr3 K2
        go_wp2_with fail
        go_ret
        exact ⟨3, _, rfl, K3.out.1, K3.out.2, RR.out, by decide, by decide⟩
      | false =>
        have B3 : Hid (tookB st [111, 114] = false) := b3
        have RR : Hid (Res en st kindP (failS st (hereF en st).at_ 4) fun u => u = 0) := by
          cases st with
          | error x => exact Res.of_dead x
          | ok r =>
            show Res en (.ok r) _ (.error ((hereF en (.ok r)).at_, 4)) _
            rw [here_plc]
            refine Res.of_err (z := r.map ktI) ?_ List.suffix_rfl rfl
            unfold kindP
            rw [if_neg (of_decide_eq_false b1), if_neg (of_decide_eq_false b2), if_neg (of_decide_eq_false b3)]
        clear b1 b2 b3
        go_enter Tryz.func237, Tryz.ntmps237
        go_wp2_with fail
        refine (took_f B p en st _ [97, 110, 100] w H0.out.1 rfl (by decide) B1.out).mono ?_
        rintro e w1 ⟨he, h1, hr1⟩
        subst he
        have K1 : Hid (RS B w1 p en st ∧ RCh p w w1 ∧ TRp w1 q p) := ⟨h1, hr1, H0.out.2.on hr1⟩
        obtain ⟨u0, ul, un⟩ := K1.out.2.2
        clear h1 hr1 t0 tl
        go_wp2_with fail
        refine (took_f B p en st _ [120, 111, 114] w1 K1.out.1 rfl (by decide) B2.out).mono ?_
        rintro e w2 ⟨he, h2, hr2⟩
        subst he
        have K2 : Hid (RS B w2 p en st ∧ RCh p w w2 ∧ TRp w2 q p) := ⟨h2, K1.out.2.1.trans hr2, K1.out.2.2.on hr2⟩
        clear u0 ul un h2 hr2 K1
        obtain ⟨u0, ul, un⟩ := K2.out.2.2
        go_wp2_with fail
        refine (took_f B p en st _ [111, 114] w2 K2.out.1 rfl (by decide) B3.out).mono ?_
        rintro e w3 ⟨he, h3, hr3⟩
        subst he
        have K3 : Hid (RS B w3 p en st ∧ RCh p w w3 ∧ TRp w3 q p) := ⟨h3, K2.out.2.1.trans hr3, K2.out.2.2.on hr3⟩
        clear u0 ul un h3 hr3 K2
        obtain ⟨u0, ul, un⟩ := K3.out.2.2
        go_wp2_with fail
        refine (wrong_any B p en st w3 K3.out.1).mono ?_
        rintro e w4 ⟨he, h4, hr4⟩
        subst he
        have K4 : Hid (RS B w4 p en (failS st (hereF en st).at_ 4) ∧ RCh p w w4) := ⟨h4, K3.out.2.1.trans hr4⟩
        clear u0 ul un h4 hr4 K3
        go_wp2_with fail
        go_ret
        exact ⟨0, _, rfl, K4.out.1, K4.out.2, RR.out, by decide, by decide⟩
end Go.Proofs.YtjcanodnlnodpaaGreatDoor.Parse
