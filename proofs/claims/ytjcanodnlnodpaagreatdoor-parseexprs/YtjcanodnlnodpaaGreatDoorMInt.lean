/- Contracts and plain mathematics, together: ParRows, ParName, ParNumb, ParInt. -/
import Derived.Test.YtjcanodnlnodpaaGreatDoorMRead
import Derived.Maps.OwnSet
import Derived.Maps.OwnOps
import Derived.OwnWalk
import Derived.StringKeys
/- Names in a map; names and numbers that are read: contracts of the calls, over the turned program. -/
namespace Go.Proofs.YtjcanodnlnodpaaGreatDoor.Parse
open Go.RowKit Go.Maps Go.Proofs.YtjcanodnlnodpaaGreatDoor.Frame Go.Proofs.YtjcanodnlnodpaaGreatDoor.Token
set_option linter.unusedVariables false
set_option linter.unusedSimpArgs false

theorem law : Keyed Tryz.prog 9 := string_keyed Tryz.underlying9
theorem zeroI (w : World) : (zeroValue 3).run Tryz.prog w = .ok (.int .i64 0) w := by kernel_rfl
theorem key_of {s : ByteArray} (h : s.size ≤ maxLen) : keyOf Tryz.prog 9 (.string s) = some (.string s.data.toList) := WideMaps.keyOf_string_mk Tryz.underlying9 h
def SMp (w : World) (b n k : Nat) (f : List UInt8 → Option Nat) : Prop :=
  ∃ D : DataW Unit, w.ownsMap Tryz.prog 9 (plainElem Tryz.prog 3) b n D ∧ Maps.size D = k ∧ ∀ s, Maps.has D (.string s) = (f s).isSome ∧ D.atKey (.string s) (.lit (.int .i64 0)) = .lit (.int .i64 ((f s).getD 0 : Nat))
theorem SMp.lt {w : World} {b n k : Nat} {f : List UInt8 → Option Nat} (h : SMp w b n k f) : b < w.heap.size := by obtain ⟨D, hD, _⟩ := h; exact hD.lt
theorem SMp.keep {w w' : World} {b n k : Nat} {f : List UInt8 → Option Nat} (h : SMp w b n k f) (hb : w'.heap[b]? = w.heap[b]?) : SMp w' b n k f := by
  obtain ⟨D, hD, r⟩ := h
  obtain ⟨es, clock, hx, Ft, hs, hDD⟩ := hD
  exact ⟨D, ⟨es, clock, hb.trans hx, Ft, hs, hDD⟩, r⟩
theorem SMp.ch {w w' : World} {b n k : Nat} {f : List UInt8 → Option Nat} {M : Nat → Prop} (h : SMp w b n k f) (hc : Ch M w w') (hm : ¬ M b) : SMp w' b n k f := h.keep (hc.block b h.lt hm)
theorem SMp.below {w w' : World} {b n k : Nat} {f : List UInt8 → Option Nat} (h : SMp w b n k f) (hb : Below w.heap.size w w') : SMp w' b n k f := h.keep (hb.block b h.lt)
theorem SMp.made (w : World) : SMp (w.alloc (.map #[] 0)) w.heap.size 0 0 (fun _ => none) := ⟨.map [], World.ownsMap_made _ _ _ _, rfl, fun s => ⟨rfl, rfl⟩⟩
theorem SMp.le {w : World} {b n k : Nat} {f : List UInt8 → Option Nat} (h : SMp w b n k f) : k ≤ n := by obtain ⟨D, hD, rfl, _⟩ := h; exact hD.size_le
theorem wp_look {ops : Array Oper} {rest : List Oper} {o : Oper} {a : Act} {Q : Exit → Act → World → Prop} (w : World) (hg : o.guard = none) (m x : Operand) (hop : o.op = Op.lookup 75 m x true)
    (b n k : Nat) (f : List UInt8 → Option Nat) (hm : a.eval m = .map (some b)) (h : SMp w b n k f) (s : ByteArray) (hx : a.eval x = .string s) (hs : s.size ≤ maxLen)
    (hK : wpList Tryz.prog ops Q rest (a.put o.dst (.tuple #[.int .i64 ((f s.data.toList).getD 0 : Nat), .bool (f s.data.toList).isSome])) w) : wpList Tryz.prog ops Q (o :: rest) a w := by
  obtain ⟨D, hD, _, r⟩ := h
  refine wpList_lookup_own_ok_int w hg m x 75 hop 9 3 .i64 law Tryz.underlying75 Tryz.underlying3 (zeroI _) b n D hm hD _ _ hx (key_of hs) ?_
  intro c hc _
  obtain ⟨r1, r2⟩ := r s.data.toList
  rw [hc] at r2
  simp only [DataW.lit.injEq, Lit.int.injEq, true_and] at r2
  rw [r1, r2]
  exact hK
def addK (f : List UInt8 → Option Nat) (s : List UInt8) (k : Nat) : Nat := if (f s).isSome = true then k else k + 1
def addF (f : List UInt8 → Option Nat) (s : List UInt8) (k : Nat) : List UInt8 → Option Nat := fun t => if t = s then some k else f t
theorem wp_put {ops : Array Oper} {rest : List Oper} {o : Oper} {a : Act} {Q : Exit → Act → World → Prop} (w : World) (hg : o.guard = none) (m x v : Operand) (hop : o.op = Op.mapUpdate 75 m x v)
    (b n k : Nat) (f : List UInt8 → Option Nat) (hm : a.eval m = .map (some b)) (h : SMp w b n k f) (hn : n ≤ 3000000) (s : ByteArray) (z : Nat) (hx : a.eval x = .string s) (hs : s.size ≤ maxLen) (hv : a.eval v = .int .i64 z) (hz : z ≤ 3000000)
    (hK : ∀ w', SMp w' b (n + 1) (addK f s.data.toList k) (addF f s.data.toList z) → w.grownBy w' (some b) → wpList Tryz.prog ops Q rest (a.put o.dst undef) w') : wpList Tryz.prog ops Q (o :: rest) a w := by
  obtain ⟨D, hD, hk, r⟩ := h
  have hml : (3000000 : Nat) < maxLen := by decide
  refine wpList_mapUpdate_own w hg m x v 75 hop 9 3 law Tryz.underlying75 _ b n D hm hD (by omega) _ _ _ hx hv (key_of hs) _ [] (plainElem_int Tryz.underlying3 (WalkArith.wf_i64 (by omega))) ?_
  intro w1 h1 hg1
  refine hK w1 ⟨_, h1, ?_, fun t => ?_⟩ hg1
  · rw [Maps.size_put (hD.tidy law), (r s.data.toList).1, hk]; rfl
  · by_cases e : t = s.data.toList
    · subst e
      exact ⟨by rw [Maps.has_put_same hD.isMap (by trivial)]; simp [addF], by rw [Maps.atKey_put_same hD.isMap (by trivial)]; simp [addF]⟩
    · have hne : (Lit.string t) ≠ .string s.data.toList := fun e' => e (by simpa using e')
      exact ⟨by rw [Maps.has_put_other hne, (r t).1]; simp [e, addF], by rw [Maps.atKey_put_other hne, (r t).2]; simp [e, addF]⟩

set_option maxHeartbeats 1000000 in
theorem add_any (b n k : Nat) (f : List UInt8 → Option Nat) (s : ByteArray) (w : World) (h : SMp w b n k f) (hn : n ≤ 2000000) (hs : s.size ≤ maxLen) :
    Calls Tryz.prog 193 #[.map (some b), .string s] w fun e w' => e = .returned (.tuple #[]) ∧ SMp w' b (n + 1) (addK f s.data.toList k) (addF f s.data.toList k) ∧ Ch (· = b) w w' := by
  have H : Hid (SMp w b n k f) := h
  have hk := h.le
  clear h
  go_enter Tryz.func193, Tryz.ntmps193
  go_wp2_with (first
    | (at_len; obtain ⟨D, hD, hDk, hDr⟩ := H.out; refine wpList_len_own _ rfl _ 75 rfl 9 3 Tryz.underlying75 _ b n D rfl hD ?_; rw [hDk])
    | (at_mapUpdate; refine wp_put _ rfl _ _ _ rfl b n k f rfl H.out (by omega) s k rfl hs rfl (by omega) ?_; intro w1 h1 hg1)
    | go_in)
  go_end0
  exact ⟨rfl, h1, Ch.grown hg1 (fun x hx => by cases hx; rfl)⟩
end Go.Proofs.YtjcanodnlnodpaaGreatDoor.Parse
/- Names and numbers that are read: contracts of the calls, over the turned program. -/
namespace Go.Proofs.YtjcanodnlnodpaaGreatDoor.Parse
open Go.RowKit Go.Maps Go.Proofs.YtjcanodnlnodpaaGreatDoor.Frame Go.Proofs.YtjcanodnlnodpaaGreatDoor.Token
set_option linter.unusedVariables false
set_option linter.unusedSimpArgs false

def nameOk (t : TI) : Bool := decide (t.kind = 1) && !wordB t.text
def nameF (en : Int) (st : St) : List UInt8 × St := match st with
  | .ok (t :: r) => if nameOk t = true then (t.text, .ok r) else ([], .error (t.at_, 4))
  | .ok [] => ([], .error (en, 4))
  | .error e => ([], .error e)
theorem nameF_no {en : Int} {st : St} (h : nameOk (hereF en st) = false) : nameF en st = ([], failS st (hereF en st).at_ 4) := by
  cases st with
  | error e => rfl
  | ok r =>
    cases r with
    | nil => rfl
    | cons t r => show (if nameOk t = true then _ else _) = _; rw [if_neg (by rw [show nameOk t = false from h]; decide)]; rfl
theorem nameF_yes {en : Int} {st : St} (h : nameOk (hereF en st) = true) : ∃ t r, st = .ok (t :: r) ∧ nameOk t = true ∧ nameF en st = (t.text, .ok r) := by
  cases st with
  | error e => cases h
  | ok r =>
    cases r with
    | nil => cases h
    | cons t r => exact ⟨t, r, rfl, h, if_pos h⟩
theorem nameP_no {r : List TI} {t : TI} (h : nameOk t = false) : nameP ((t :: r).map ktI) = .error ((t :: r).map ktI, 4) := by
  show (if t.kind = 1 ∧ wordB t.text = false then _ else _) = _
  refine if_neg ?_
  rintro ⟨h1, h2⟩
  unfold nameOk at h
  rw [h2, decide_eq_true h1] at h; cases h
theorem nameP_yes {r : List TI} {t : TI} (h : nameOk t = true) : nameP ((t :: r).map ktI) = .ok (t.text, (t :: r).map ktI) := by
  show (if t.kind = 1 ∧ wordB t.text = false then _ else _) = _
  unfold nameOk at h
  rw [Bool.and_eq_true] at h
  rw [if_pos ⟨of_decide_eq_true h.1, by simpa using h.2⟩]; rfl
theorem name_len {B p : Nat} {en : Int} {st : St} {w : World} (h : RS B w p en st) : (hereF en st).text.length ≤ 140737488355328 := by
  cases st with
  | error e => show ([] : List UInt8).length ≤ 140737488355328; simp
  | ok r =>
    cases r with
    | nil => show ([] : List UInt8).length ≤ 140737488355328; simp
    | cons t r => obtain ⟨_, _, _, _, _, _, _, hP⟩ := h; exact hP t (by simp)
theorem nameF_len {B p : Nat} {en : Int} {st : St} {w : World} (h : RS B w p en st) : (nameF en st).1.length ≤ 140737488355328 := by
  cases hk : nameOk (hereF en st) with
  | false => rw [nameF_no hk]; simp
  | true => obtain ⟨t, r, rfl, _, h2⟩ := nameF_yes hk; rw [h2]; exact name_len h

theorem tok_box {p : Nat} {w w1 w2 : World} (hp : p < w.heap.size) (hb : Below w.heap.size w w1) {x y z : Value} {t : TypeId} (hr : RCh p (w1.alloc (.cells #[x, y, z] t)) w2) : w2.cell? ⟨w1.heap.size, 1, none⟩ = some y ∧ w1.heap.size < w2.heap.size := by
  have hs := hb.size
  have c1 : (w1.alloc (.cells #[x, y, z] t)).cell? ⟨w1.heap.size, 1, none⟩ = some y := World.cell?_alloc_at _ _ _ _ rfl
  have h2 := hr.1.size
  simp at h2
  exact ⟨hr.1.cell (by omega) c1, by omega⟩
set_option maxRecDepth 100000 in
set_option maxHeartbeats 2000000 in
theorem name_any (B p : Nat) (en : Int) (st : St) (w : World) (h : RS B w p en st) :
    Calls Tryz.prog 143 #[ptr p] w fun e w' => e = .returned (.string (str (nameF en st).1)) ∧ RS B w' p en (nameF en st).2 ∧ RCh p w w' := by
  have H : Hid (RS B w p en st) := h
  have hp := h.lt
  have hlen := name_len h
  obtain ⟨k, T, pl, hv, hk, hT, -⟩ := here_parts en st
  have HV : Hid (tokV (hereF en st) = .agg #[.int .i64 k, .string T, .int .i64 pl]) := hv
  have HT : Hid (T.data.toList = (hereF en st).text) := by show T.data.toList = _; rw [hT, str_data]
  have hTs : T.size ≤ 140737488355328 := by rw [hT, str_size]; exact hlen
  have HK : Hid (k = (hereF en st).kind) := hk
  clear h hv hk hT hlen
  cases hn : nameOk (hereF en st) with
  | true =>
    obtain ⟨t, r, hst, -, hN⟩ := nameF_yes hn
    have hE : str (nameF en st).1 = T := by rw [hN]; show str t.text = T; have := HT.out; rw [hst] at this; rw [← str_list T, this]; rfl
    have h2 : (nameF en st).2 = .ok r := by rw [hN]
    rw [hE, h2]
    have H1 : Hid (st = .ok (t :: r)) := hst
    have hn2 := hn
    unfold nameOk at hn2
    rw [Bool.and_eq_true] at hn2
    obtain rfl : k = 1 := HK.out.trans (of_decide_eq_true hn2.1)
    have HW : Hid (wordB T.data.toList = false) := by show _ = _; rw [HT.out]; simpa using hn2.2
    clear hn hst hN hE h2 hn2
    go_enter Tryz.func143, Tryz.ntmps143
    go_wp2_with (first
      | (go_at_call 142; refine (here_any B p en st _ H.out).mono ?_; rintro e w1 ⟨he, hb1⟩; rw [HV.out] at he; subst he)
      | (go_at_call 198; refine (Token.word_any _ _).mono ?_; rintro e w' ⟨he, hw⟩; subst he; have hw := hw.symm; subst hw; rw [HW.out])
      | (go_at_call 152; refine (step_any B p en t r _ (by rw [← H1.out]; exact (H.out.below hb1).below ((Below.refl _ _).alloc (Nat.le_refl _) _))).mono ?_; rintro e w2 ⟨he, h2, hr2⟩; subst he; obtain ⟨g1, g2⟩ := tok_box hp hb1 hr2)
      | (go_at_call 54; refine (clone_any _ _ hTs).mono ?_; rintro e w3 ⟨he, hb3⟩; subst he))
    go_ret
    exact ⟨rfl, h2.below hb3, ((RCh.of_below hp (hb1.alloc hb1.size _)).trans hr2).trans (RCh.of_below h2.lt hb3)⟩
  | false =>
    rw [nameF_no hn]
    have hn2 : k = 1 → wordB T.data.toList = true := fun e => by
      unfold nameOk at hn
      rw [HT.out]
      rw [← HK.out, e] at hn
      simpa using hn
    by_cases hk1 : k = 1
    · subst hk1
      have HW : Hid (wordB T.data.toList = true) := hn2 rfl
      clear hn hn2
      go_enter Tryz.func143, Tryz.ntmps143
      go_wp2_with (first
        | (go_at_call 142; refine (here_any B p en st _ H.out).mono ?_; rintro e w1 ⟨he, hb1⟩; rw [HV.out] at he; subst he)
        | (go_at_call 198; refine (Token.word_any _ _).mono ?_; rintro e w' ⟨he, hw⟩; subst he; have hw := hw.symm; subst hw; rw [HW.out])
        | (go_at_call 101; refine (wrong_any B p en st _ ((H.out.below hb1).below ((Below.refl _ _).alloc (Nat.le_refl _) _))).mono ?_; rintro e w2 ⟨he, h2, hr2⟩; subst he))
      go_ret
      exact ⟨rfl, h2, (RCh.of_below hp (hb1.alloc hb1.size _)).trans hr2⟩
    · have hk1' : (k != 1) = true := by simpa using hk1
      clear hn hn2 hk1
      go_enter Tryz.func143, Tryz.ntmps143
      go_wp2_with (first
        | (go_at_call 142; refine (here_any B p en st _ H.out).mono ?_; rintro e w1 ⟨he, hb1⟩; rw [HV.out] at he; subst he)
        | (go_at_call 101; refine (wrong_any B p en st _ ((H.out.below hb1).below ((Below.refl _ _).alloc (Nat.le_refl _) _))).mono ?_; rintro e w2 ⟨he, h2, hr2⟩; subst he))
      go_ret
      exact ⟨rfl, h2, (RCh.of_below hp (hb1.alloc hb1.size _)).trans hr2⟩

def freshF (en : Int) (f : List UInt8 → Option Nat) (st : St) : St := if (f (nameF en st).1).isSome = true then failS (nameF en st).2 (hereF en st).at_ 5 else (nameF en st).2
def knownF (en : Int) (f : List UInt8 → Option Nat) (st : St) : St := if (f (nameF en st).1).isSome = true then (nameF en st).2 else failS (nameF en st).2 (hereF en st).at_ 3

set_option maxRecDepth 100000 in
set_option maxHeartbeats 2000000 in
theorem fresh_any (B p b n kk : Nat) (f : List UInt8 → Option Nat) (en : Int) (st : St) (w : World) (h : RS B w p en st) (hm : SMp w b n kk f) (hb : b ≠ p) :
    Calls Tryz.prog 190 #[ptr p, .map (some b)] w fun e w' => e = .returned (.string (str (nameF en st).1)) ∧ RS B w' p en (freshF en f st) ∧ RCh p w w' := by
  have H : Hid (RS B w p en st) := h
  have HM : Hid (SMp w b n kk f) := hm
  have HB : Hid (b ≠ p) := hb
  have hp := h.lt
  have hlen := nameF_len h
  obtain ⟨k, T, pl, hv, -, -, hpl⟩ := here_parts en st
  have HV : Hid (tokV (hereF en st) = .agg #[.int .i64 k, .string T, .int .i64 pl]) := hv
  have hfd := field_at k T pl
  have hml : (140737488355328 : Nat) ≤ maxLen := by decide
  have hss : (str (nameF en st).1).size ≤ maxLen := by rw [str_size]; omega
  have HD : Hid ((str (nameF en st).1).data.toList = (nameF en st).1) := str_data _
  unfold freshF
  rw [← hpl]
  obtain ⟨nm, hnm⟩ : ∃ nm, nm = (nameF en st).1 := ⟨_, rfl⟩
  obtain ⟨s2, hs2⟩ : ∃ s2, s2 = (nameF en st).2 := ⟨_, rfl⟩
  have HN : Hid (∀ W, RS B W p en st → Calls Tryz.prog 143 #[ptr p] W fun e w' => e = .returned (.string (str nm)) ∧ RS B w' p en s2 ∧ RCh p W w') := fun W hW => by rw [hnm, hs2]; exact name_any B p en st W hW
  rw [← hnm] at hss HD ⊢
  rw [← hs2]
  clear h hm hb hv hpl hlen hnm hs2
  cases hi : (f nm).isSome with
  | true =>
    have HI : Hid ((f nm).isSome = true) := hi
    clear hi
    rw [if_pos rfl]
    go_enter Tryz.func190, Tryz.ntmps190
    go_wp2_with (first
      | (go_at_call 142; refine (here_any B p en st _ H.out).mono ?_; rintro e w1 ⟨he, hb1⟩; rw [HV.out] at he; subst he)
      | (go_at_call 143; refine (HN.out _ (H.out.below hb1)).mono ?_; rintro e w2 ⟨he, h2, hr2⟩; subst he)
      | (at_lookup; refine wp_look _ rfl _ _ rfl b n kk f rfl ((HM.out.below hb1).ch hr2.1 HB.out) _ rfl hss ?_; rw [HD.out, HI.out])
      | (go_at_call 144; refine (fail_any B p en s2 pl 5 _ h2 (by decide)).mono ?_; rintro e w3 ⟨he, h3, hr3⟩; subst he)
      | go_in)
    go_ret
    exact ⟨rfl, h3, ((RCh.of_below hp hb1).trans hr2).trans hr3⟩
  | false =>
    have HI : Hid ((f nm).isSome = false) := hi
    clear hi
    rw [if_neg (by decide)]
    go_enter Tryz.func190, Tryz.ntmps190
    go_wp2_with (first
      | (go_at_call 142; refine (here_any B p en st _ H.out).mono ?_; rintro e w1 ⟨he, hb1⟩; rw [HV.out] at he; subst he)
      | (go_at_call 143; refine (HN.out _ (H.out.below hb1)).mono ?_; rintro e w2 ⟨he, h2, hr2⟩; subst he)
      | (at_lookup; refine wp_look _ rfl _ _ rfl b n kk f rfl ((HM.out.below hb1).ch hr2.1 HB.out) _ rfl hss ?_; rw [HD.out, HI.out])
      | go_in)
    go_ret
    exact ⟨rfl, h2, (RCh.of_below hp hb1).trans hr2⟩

set_option maxRecDepth 100000 in
set_option maxHeartbeats 2000000 in
theorem known_any (B p b n kk : Nat) (f : List UInt8 → Option Nat) (en : Int) (st : St) (w : World) (h : RS B w p en st) (hm : SMp w b n kk f) (hb : b ≠ p) :
    Calls Tryz.prog 82 #[ptr p, .map (some b)] w fun e w' => e = .returned (.int .i64 ((f (nameF en st).1).getD 0 : Nat)) ∧ RS B w' p en (knownF en f st) ∧ RCh p w w' := by
  have H : Hid (RS B w p en st) := h
  have HM : Hid (SMp w b n kk f) := hm
  have HB : Hid (b ≠ p) := hb
  have hp := h.lt
  have hlen := nameF_len h
  obtain ⟨k, T, pl, hv, -, -, hpl⟩ := here_parts en st
  have HV : Hid (tokV (hereF en st) = .agg #[.int .i64 k, .string T, .int .i64 pl]) := hv
  have hfd := field_at k T pl
  have hml : (140737488355328 : Nat) ≤ maxLen := by decide
  have hss : (str (nameF en st).1).size ≤ maxLen := by rw [str_size]; omega
  have HD : Hid ((str (nameF en st).1).data.toList = (nameF en st).1) := str_data _
  unfold knownF
  rw [← hpl]
  obtain ⟨nm, hnm⟩ : ∃ nm, nm = (nameF en st).1 := ⟨_, rfl⟩
  obtain ⟨s2, hs2⟩ : ∃ s2, s2 = (nameF en st).2 := ⟨_, rfl⟩
  have HN : Hid (∀ W, RS B W p en st → Calls Tryz.prog 143 #[ptr p] W fun e w' => e = .returned (.string (str nm)) ∧ RS B w' p en s2 ∧ RCh p W w') := fun W hW => by rw [hnm, hs2]; exact name_any B p en st W hW
  rw [← hnm] at hss HD ⊢
  rw [← hs2]
  clear h hm hb hv hpl hlen hnm hs2
  obtain ⟨z, hz⟩ : ∃ z : Nat, z = (f nm).getD 0 := ⟨_, rfl⟩
  have HZ : Hid ((f nm).getD 0 = z) := hz.symm
  rw [← hz]
  clear hz
  cases hi : (f nm).isSome with
  | true =>
    have HI : Hid ((f nm).isSome = true) := hi
    clear hi
    rw [if_pos rfl]
    go_enter Tryz.func82, Tryz.ntmps82
    go_wp2_with (first
      | (go_at_call 142; refine (here_any B p en st _ H.out).mono ?_; rintro e w1 ⟨he, hb1⟩; rw [HV.out] at he; subst he)
      | (go_at_call 143; refine (HN.out _ (H.out.below hb1)).mono ?_; rintro e w2 ⟨he, h2, hr2⟩; subst he)
      | (at_lookup; refine wp_look _ rfl _ _ rfl b n kk f rfl ((HM.out.below hb1).ch hr2.1 HB.out) _ rfl hss ?_; rw [HD.out, HI.out, HZ.out])
      | go_in)
    go_ret
    exact ⟨rfl, h2, (RCh.of_below hp hb1).trans hr2⟩
  | false =>
    have HI : Hid ((f nm).isSome = false) := hi
    clear hi
    rw [if_neg (by decide)]
    go_enter Tryz.func82, Tryz.ntmps82
    go_wp2_with (first
      | (go_at_call 142; refine (here_any B p en st _ H.out).mono ?_; rintro e w1 ⟨he, hb1⟩; rw [HV.out] at he; subst he)
      | (go_at_call 143; refine (HN.out _ (H.out.below hb1)).mono ?_; rintro e w2 ⟨he, h2, hr2⟩; subst he)
      | (at_lookup; refine wp_look _ rfl _ _ rfl b n kk f rfl ((HM.out.below hb1).ch hr2.1 HB.out) _ rfl hss ?_; rw [HD.out, HI.out, HZ.out])
      | (go_at_call 144; refine (fail_any B p en s2 pl 3 _ h2 (by decide)).mono ?_; rintro e w3 ⟨he, h3, hr3⟩; subst he)
      | go_in)
    go_ret
    exact ⟨rfl, h3, ((RCh.of_below hp hb1).trans hr2).trans hr3⟩
end Go.Proofs.YtjcanodnlnodpaaGreatDoor.Parse
/- Numbers that are read: contracts of the calls, over the turned program; and what became of the reader. -/
namespace Go.Proofs.YtjcanodnlnodpaaGreatDoor.Parse
open Go.RowKit Go.Maps Go.Proofs.YtjcanodnlnodpaaGreatDoor.Frame Go.Proofs.YtjcanodnlnodpaaGreatDoor.Token
set_option linter.unusedVariables false
set_option linter.unusedSimpArgs false

def numOk (t : TI) : Bool := decide (t.kind = 2) && numB t.text
def numberF (en : Int) (st : St) : Int × St := match st with
  | .ok (t :: r) => if numOk t = true then ((valL 0 t.text : Int), .ok r) else (0, .error (t.at_, 4))
  | .ok [] => (0, .error (en, 4))
  | .error e => (0, .error e)
theorem numF_no {en : Int} {st : St} (h : numOk (hereF en st) = false) : numberF en st = (0, failS st (hereF en st).at_ 4) := by
  cases st with
  | error e => rfl
  | ok r =>
    cases r with
    | nil => rfl
    | cons t r => show (if numOk t = true then _ else _) = _; rw [if_neg (by rw [show numOk t = false from h]; decide)]; rfl
theorem numF_yes {en : Int} {st : St} (h : numOk (hereF en st) = true) : ∃ t r, st = .ok (t :: r) ∧ numOk t = true ∧ numberF en st = ((valL 0 t.text : Int), .ok r) := by
  cases st with
  | error e => cases h
  | ok r =>
    cases r with
    | nil => cases h
    | cons t r => exact ⟨t, r, rfl, h, if_pos h⟩
theorem numP_no {r : List TI} {t : TI} (h : numOk t = false) : numP ((t :: r).map ktI) = .error ((t :: r).map ktI, 4) := by
  show (if t.kind = 2 ∧ numB t.text = true then _ else _) = _
  refine if_neg ?_
  rintro ⟨h1, h2⟩
  unfold numOk at h
  rw [h2, decide_eq_true h1] at h; cases h
theorem numP_yes {r : List TI} {t : TI} (h : numOk t = true) : numP ((t :: r).map ktI) = .ok ((valL 0 t.text : Int), r.map ktI) := by
  show (if t.kind = 2 ∧ numB t.text = true then _ else _) = _
  unfold numOk at h
  rw [Bool.and_eq_true] at h
  rw [if_pos ⟨of_decide_eq_true h.1, h.2⟩]; rfl

theorem num_box {w1 w2 : World} {x y z : Value} {t : TypeId} (hb : Below (w1.alloc (.cells #[x, y, z] t)).heap.size (w1.alloc (.cells #[x, y, z] t)) w2) : w2.cell? ⟨w1.heap.size, 0, none⟩ = some x ∧ w1.heap.size < w2.heap.size := by
  have c0 : (w1.alloc (.cells #[x, y, z] t)).cell? ⟨w1.heap.size, 0, none⟩ = some x := World.cell?_alloc_at _ _ _ _ rfl
  have h2 := hb.size
  simp at h2
  exact ⟨(hb.cell (p := ⟨w1.heap.size, 0, none⟩) (by simp)).trans c0, by omega⟩
set_option maxRecDepth 100000 in
set_option maxHeartbeats 2000000 in
theorem number_any (B p : Nat) (en : Int) (st : St) (w : World) (h : RS B w p en st) :
    Calls Tryz.prog 200 #[ptr p] w fun e w' => e = .returned (.int .i64 (numberF en st).1) ∧ RS B w' p en (numberF en st).2 ∧ RCh p w w' := by
  have H : Hid (RS B w p en st) := h
  have hp := h.lt
  have hlen := name_len h
  have HFx : Hid (Fx w) := h.1.2.2.1
  obtain ⟨k, T, pl, hv, hk, hT, -⟩ := here_parts en st
  have HV : Hid (tokV (hereF en st) = .agg #[.int .i64 k, .string T, .int .i64 pl]) := hv
  have HT : Hid (T.data.toList = (hereF en st).text) := by show T.data.toList = _; rw [hT, str_data]
  have hTs : T.size ≤ 140737488355328 := by rw [hT, str_size]; exact hlen
  have HK : Hid (k = (hereF en st).kind) := hk
  clear h hv hk hT hlen
  obtain ⟨z, b, hR, hz⟩ : ∃ z b, numR T.data.toList = .returned (.tuple #[.int .i64 z, .bool b]) ∧ z = numV T.data.toList ∧ b = numB T.data.toList := ⟨_, _, rfl, rfl, rfl⟩
  have HR : Hid (numR T.data.toList = .returned (.tuple #[.int .i64 z, .bool b])) := hR
  have HZ : Hid (z = numV T.data.toList ∧ b = numB T.data.toList) := hz
  clear hR hz
  cases hn : numOk (hereF en st) with
  | true =>
    obtain ⟨t, r, hst, -, hN⟩ := numF_yes hn
    have hn2 := hn
    unfold numOk at hn2
    rw [Bool.and_eq_true] at hn2
    obtain rfl : k = 2 := HK.out.trans (of_decide_eq_true hn2.1)
    have hT2 : T.data.toList = t.text := by rw [HT.out, hst]; rfl
    have hb : b = true := by rw [HZ.out.2, HT.out]; exact hn2.2
    have hz : z = (valL 0 t.text : Int) := by
      have hbb : numB t.text = true := by rw [← hT2]; exact HZ.out.2.symm.trans hb
      rw [HZ.out.1, hT2]; unfold numV; rw [hbb]; rfl
    subst hb
    rw [hN]
    show Calls _ _ _ _ fun e w' => e = .returned (.int .i64 (valL 0 t.text : Int)) ∧ RS B w' p en (.ok r) ∧ RCh p w w'
    rw [← hz]
    have H1 : Hid (st = .ok (t :: r)) := hst
    clear hn hst hN hn2 hT2 hz
    go_enter Tryz.func200, Tryz.ntmps200
    go_wp2_with (first
      | (go_at_call 142; refine (here_any B p en st _ H.out).mono ?_; rintro e w1 ⟨he, hb1⟩; rw [HV.out] at he; subst he)
      | (go_at_call 159; refine (Token.number_any _ _ hTs ((HFx.out.below hb1).below ((Below.refl _ _).alloc (Nat.le_refl _) _))).mono ?_; rintro e w2 ⟨he, hb2⟩; rw [HR.out] at he; subst he; obtain ⟨g0, gl⟩ := num_box hb2)
      | (go_at_call 152; refine (step_any B p en t r _ (by rw [← H1.out]; exact ((H.out.below hb1).below ((Below.refl _ _).alloc (Nat.le_refl _) _)).below hb2)).mono ?_; rintro e w3 ⟨he, h3, hr3⟩; subst he))
    go_ret
    exact ⟨rfl, h3, (RCh.of_below hp (then_ (hb1.alloc hb1.size _) hb2)).trans hr3⟩
  | false =>
    rw [numF_no hn]
    have hn2 : k = 2 → b = false := fun e => by
      unfold numOk at hn
      rw [HZ.out.2, HT.out]
      rw [← HK.out, e] at hn
      simpa using hn
    by_cases hk1 : k = 2
    · subst hk1
      obtain rfl : b = false := hn2 rfl
      clear hn hn2
      go_enter Tryz.func200, Tryz.ntmps200
      go_wp2_with (first
        | (go_at_call 142; refine (here_any B p en st _ H.out).mono ?_; rintro e w1 ⟨he, hb1⟩; rw [HV.out] at he; subst he)
        | (go_at_call 159; refine (Token.number_any _ _ hTs ((HFx.out.below hb1).below ((Below.refl _ _).alloc (Nat.le_refl _) _))).mono ?_; rintro e w2 ⟨he, hb2⟩; rw [HR.out] at he; subst he; obtain ⟨g0, gl⟩ := num_box hb2)
        | (go_at_call 101; refine (wrong_any B p en st _ (((H.out.below hb1).below ((Below.refl _ _).alloc (Nat.le_refl _) _)).below hb2)).mono ?_; rintro e w3 ⟨he, h3, hr3⟩; subst he))
      go_ret
      exact ⟨rfl, h3, (RCh.of_below hp (then_ (hb1.alloc hb1.size _) hb2)).trans hr3⟩
    · have hk1' : (k != 2) = true := by simpa using hk1
      clear hn hn2 hk1
      go_enter Tryz.func200, Tryz.ntmps200
      go_wp2_with (first
        | (go_at_call 142; refine (here_any B p en st _ H.out).mono ?_; rintro e w1 ⟨he, hb1⟩; rw [HV.out] at he; subst he)
        | (go_at_call 159; refine (Token.number_any _ _ hTs ((HFx.out.below hb1).below ((Below.refl _ _).alloc (Nat.le_refl _) _))).mono ?_; rintro e w2 ⟨he, hb2⟩; rw [HR.out] at he; subst he; obtain ⟨g0, gl⟩ := num_box hb2)
        | (go_at_call 101; refine (wrong_any B p en st _ (((H.out.below hb1).below ((Below.refl _ _).alloc (Nat.le_refl _) _)).below hb2)).mono ?_; rintro e w3 ⟨he, h3, hr3⟩; subst he))
      go_ret
      exact ⟨rfl, h3, (RCh.of_below hp (then_ (hb1.alloc hb1.size _) hb2)).trans hr3⟩
end Go.Proofs.YtjcanodnlnodpaaGreatDoor.Parse
/- An int that is read; and what became of the reader by names and numbers. -/
namespace Go.Proofs.YtjcanodnlnodpaaGreatDoor.Parse
open Go.RowKit Go.Maps Go.Proofs.YtjcanodnlnodpaaGreatDoor.Frame Go.Proofs.YtjcanodnlnodpaaGreatDoor.Token
set_option linter.unusedVariables false
set_option linter.unusedSimpArgs false

theorem number_res (en : Int) (st : St) : Res en st numP (numberF en st).2 (fun u => u = (numberF en st).1) := by
  cases st with
  | error e => exact Res.of_dead e
  | ok r =>
    cases r with
    | nil => exact Res.of_err (s := []) (z := []) rfl List.suffix_rfl rfl
    | cons t r =>
      cases h : numOk t with
      | true =>
        have hF : numberF en (.ok (t :: r)) = ((valL 0 t.text : Int), .ok r) := if_pos h
        rw [hF]
        exact Res.of_ok (numP_yes h) (List.suffix_cons t r) rfl rfl
      | false =>
        have hF : numberF en (.ok (t :: r)) = (0, .error (t.at_, 4)) := if_neg (by rw [h]; decide)
        rw [hF]
        exact Res.of_err (s := t :: r) (numP_no h) List.suffix_rfl rfl
theorem name_res (en : Int) (st : St) : Res en st nameQ (nameF en st).2 (fun u => u = (nameF en st).1) := by
  cases st with
  | error e => exact Res.of_dead e
  | ok r =>
    cases r with
    | nil => exact Res.of_err (s := []) (z := []) rfl List.suffix_rfl rfl
    | cons t r =>
      cases h : nameOk t with
      | true =>
        have hF : nameF en (.ok (t :: r)) = (t.text, .ok r) := if_pos h
        rw [hF]
        refine Res.of_ok (v := t.text) (z := r.map ktI) ?_ (List.suffix_cons t r) rfl rfl
        unfold nameQ
        rw [nameP_yes h]; rfl
      | false =>
        have hF : nameF en (.ok (t :: r)) = ([], .error (t.at_, 4)) := if_neg (by rw [h]; decide)
        rw [hF]
        refine Res.of_err (s := t :: r) (z := (t :: r).map ktI) ?_ List.suffix_rfl rfl
        unfold nameQ
        rw [nameP_no h]; rfl
theorem nameAt_some (names : List (List UInt8)) (s : List UInt8) : (nameAt names s).isSome = decide (s ∈ names) := by
  unfold nameAt
  by_cases h : s ∈ names
  · rw [if_pos h, decide_eq_true h]; rfl
  · rw [if_neg h, decide_eq_false h]; rfl
theorem fresh_res (en : Int) (st : St) {f : List UInt8 → Option Nat} {names : List (List UInt8)} (hf : f = nameAt names) : Res en st (freshP names) (freshF en f st) (fun u => u = (nameF en st).1) := by
  subst hf
  cases st with
  | error e =>
    show freshF en _ (.error e) = .error e
    unfold freshF
    split <;> rfl
  | ok r =>
    cases r with
    | nil =>
      have : freshF en (nameAt names) (.ok []) = .error (en, 4) := by unfold freshF; split <;> rfl
      rw [this]
      exact Res.of_err (s := []) (z := []) rfl List.suffix_rfl rfl
    | cons t r =>
      cases h : nameOk t with
      | true =>
        have hF : nameF en (.ok (t :: r)) = (t.text, .ok r) := if_pos h
        unfold freshF
        rw [hF, nameAt_some]
        by_cases hm : t.text ∈ names
        · rw [decide_eq_true hm, if_pos rfl]
          refine Res.of_err (s := t :: r) (z := (t :: r).map ktI) (er := 5) ?_ List.suffix_rfl rfl
          unfold freshP
          rw [nameP_yes h]
          exact if_pos hm
        · rw [decide_eq_false hm, if_neg (by decide)]
          refine Res.of_ok (v := t.text) (z := r.map ktI) ?_ (List.suffix_cons t r) rfl rfl
          unfold freshP
          rw [nameP_yes h]
          exact if_neg hm
      | false =>
        have hF : nameF en (.ok (t :: r)) = ([], .error (t.at_, 4)) := if_neg (by rw [h]; decide)
        have : freshF en (nameAt names) (.ok (t :: r)) = .error (t.at_, 4) := by unfold freshF; rw [hF]; split <;> rfl
        rw [this]
        refine Res.of_err (s := t :: r) (z := (t :: r).map ktI) (er := 4) ?_ List.suffix_rfl rfl
        unfold freshP
        rw [nameP_no h]; rfl
theorem known_res (en : Int) (st : St) {f : List UInt8 → Option Nat} {names : List (List UInt8)} (hf : f = nameAt names) : Res en st (findP names) (knownF en f st) (fun u => u = (((f (nameF en st).1).getD 0 : Nat) : Int)) := by
  subst hf
  cases st with
  | error e =>
    show knownF en _ (.error e) = .error e
    unfold knownF
    split <;> rfl
  | ok r =>
    cases r with
    | nil =>
      have : knownF en (nameAt names) (.ok []) = .error (en, 4) := by unfold knownF; split <;> rfl
      rw [this]
      exact Res.of_err (s := []) (z := []) rfl List.suffix_rfl rfl
    | cons t r =>
      cases h : nameOk t with
      | true =>
        have hF : nameF en (.ok (t :: r)) = (t.text, .ok r) := if_pos h
        have hP : findP names ((t :: r).map ktI) = match nameAt names t.text with | some i => .ok ((i : Int), r.map ktI) | none => .error ((t :: r).map ktI, 3) := by
          unfold findP
          rw [nameP_yes h]; rfl
        unfold knownF
        rw [hF]
        cases hn : nameAt names t.text with
        | some i =>
          rw [hn] at hP
          exact Res.of_ok hP (List.suffix_cons t r) rfl rfl
        | none =>
          rw [hn] at hP
          exact Res.of_err (s := t :: r) hP List.suffix_rfl rfl
      | false =>
        have hF : nameF en (.ok (t :: r)) = ([], .error (t.at_, 4)) := if_neg (by rw [h]; decide)
        have : knownF en (nameAt names) (.ok (t :: r)) = .error (t.at_, 4) := by unfold knownF; rw [hF]; split <;> rfl
        rw [this]
        refine Res.of_err (s := t :: r) (z := (t :: r).map ktI) (er := 4) ?_ List.suffix_rfl rfl
        unfold findP
        rw [nameP_no h]; rfl
theorem number_in (en : Int) (st : St) : 0 ≤ (numberF en st).1 ∧ (numberF en st).1 < 9223372036854775808 := by
  cases h : numOk (hereF en st) with
  | false => rw [numF_no h]; exact ⟨Int.le_refl _, by show (0 : Int) < _; decide⟩
  | true =>
    obtain ⟨t, r, _, h1, h2⟩ := numF_yes h
    rw [h2]
    unfold numOk at h1
    rw [numB_parts] at h1
    simp only [Bool.and_eq_true, decide_eq_true_eq] at h1
    have := h1.2.2
    exact ⟨by omega, by show ((valL 0 t.text : Nat) : Int) < _; omega⟩
theorem took_t (B p : Nat) (en : Int) (st : St) (s : ByteArray) (sl : List UInt8) (w : World) (h : RS B w p en st) (hs : s.data.toList = sl) (hn : sl ≠ []) (hb : tookB st sl = true) :
    Calls Tryz.prog 138 #[ptr p, .string s] w fun e w' => e = .returned (.bool true) ∧ RS B w' p en (tookS st sl) ∧ RCh p w w' := by
  subst hs
  refine (took_any B p en st s w h hn).mono ?_
  rintro e w' ⟨he, h1⟩
  exact ⟨by rw [he, hb], h1⟩
theorem took_f (B p : Nat) (en : Int) (st : St) (s : ByteArray) (sl : List UInt8) (w : World) (h : RS B w p en st) (hs : s.data.toList = sl) (hn : sl ≠ []) (hb : tookB st sl = false) :
    Calls Tryz.prog 138 #[ptr p, .string s] w fun e w' => e = .returned (.bool false) ∧ RS B w' p en st ∧ RCh p w w' := by
  subst hs
  refine (took_any B p en st s w h hn).mono ?_
  rintro e w' ⟨he, h1⟩
  rw [took_no hb] at h1
  exact ⟨by rw [he, hb], h1⟩
theorem must_l (B p : Nat) (en : Int) (st : St) (s : ByteArray) (sl : List UInt8) (w : World) (h : RS B w p en st) (hs : s.data.toList = sl) (hn : sl ≠ []) :
    Calls Tryz.prog 81 #[ptr p, .string s] w fun e w' => e = .returned (.tuple #[]) ∧ MustPost B p en st sl w w' := by
  subst hs
  exact must_any B p en st s w h hn
def intF (en : Int) (st : St) : Int × St := if tookB st [45] = true then (-(numberF en (tookS st [45])).1, (numberF en (tookS st [45])).2) else numberF en st

set_option maxHeartbeats 1000000 in
theorem integer_any (B p : Nat) (en : Int) (st : St) (w : World) (h : RS B w p en st) :
    Calls Tryz.prog 191 #[ptr p] w fun e w' => e = .returned (.int .i64 (intF en st).1) ∧ RS B w' p en (intF en st).2 ∧ RCh p w w' := by
  have H : Hid (RS B w p en st) := h
  have hp := h.lt
  clear h
  unfold intF
  cases hb : tookB st [45] with
  | true =>
    have HB : Hid (tookB st [45] = true) := hb
    rw [if_pos rfl]
    obtain ⟨n1, n2⟩ := number_in en (tookS st [45])
    have HN : Hid (∀ W, RS B W p en (tookS st [45]) → Calls Tryz.prog 200 #[ptr p] W fun e w' => e = .returned (.int .i64 (numberF en (tookS st [45])).1) ∧ RS B w' p en (numberF en (tookS st [45])).2 ∧ RCh p W w') := fun W hW => number_any B p en _ W hW
    generalize numberF en (tookS st [45]) = q at *
    obtain ⟨z, s2⟩ := q
    have n1 : 0 ≤ z := n1
    have n2 : z < 9223372036854775808 := n2
    clear hb
    go_enter Tryz.func191, Tryz.ntmps191
    go_wp2_with (first
      | (go_at_call 138; refine (took_t B p en st _ [45] _ H.out rfl (by decide) HB.out).mono ?_; rintro e w1 ⟨he, h1⟩; subst he)
      | (go_at_call 200; refine (HN.out _ h1.1).mono ?_; rintro e w2 ⟨he, h2⟩; subst he))
    go_ret
    exact ⟨rfl, h2.1, h1.2.trans h2.2⟩
  | false =>
    have HB : Hid (tookB st [45] = false) := hb
    have HT : Hid (tookS st [45] = st) := took_no hb
    rw [if_neg (by decide)]
    clear hb
    go_enter Tryz.func191, Tryz.ntmps191
    go_wp2_with (first
      | (go_at_call 138; refine (took_f B p en st _ [45] _ H.out rfl (by decide) HB.out).mono ?_; rintro e w1 ⟨he, h1⟩; subst he)
      | (go_at_call 200; refine (number_any B p en st _ h1.1).mono ?_; rintro e w2 ⟨he, h2⟩; subst he))
    go_ret
    exact ⟨rfl, h2.1, h1.2.trans h2.2⟩
theorem took_res {α : Type} {en : Int} {st st1 : St} {s : List UInt8} {x : List KT → PR α} {P : α → Prop} (hs : s ≠ []) (hb : tookB st s = true) (h : Res en (tookS st s) (fun r => x r) st1 P) {y : List KT → PR α} (hy : ∀ r, peekL r = s → y r = x r.tail) : Res en st y st1 P := by
  obtain ⟨t, r, rfl, hp, hS⟩ := took_yes hb hs
  rw [hS] at h
  have e : y ((t :: r).map ktI) = x (r.map ktI) := hy _ hp
  cases hx : x (r.map ktI) with
  | error e' => obtain ⟨s', h1, h2, rfl⟩ := h.err hx; exact Res.of_err (e.trans hx) (h1.trans (List.suffix_cons t r)) h2
  | ok v => obtain ⟨⟨s', h1, h2, rfl⟩, hp⟩ := h.ok hx; exact Res.of_ok (e.trans hx) (h1.trans (List.suffix_cons t r)) h2 hp
theorem nottook_res {α : Type} {en : Int} {st st1 : St} {s : List UInt8} {x : List KT → PR α} {P : α → Prop} (hb : tookB st s = false) (h : Res en st x st1 P) {y : List KT → PR α} (hy : ∀ r, peekL r ≠ s → y r = x r) : Res en st y st1 P := by
  cases st with
  | error e => exact h
  | ok r =>
    have e : y (r.map ktI) = x (r.map ktI) := hy _ (of_decide_eq_false hb)
    cases hx : x (r.map ktI) with
    | error e' => obtain ⟨s', h1, h2, rfl⟩ := h.err hx; exact Res.of_err (e.trans hx) h1 h2
    | ok v => obtain ⟨⟨s', h1, h2, rfl⟩, hp⟩ := h.ok hx; exact Res.of_ok (e.trans hx) h1 h2 hp
theorem integer_res (en : Int) (st : St) : Res en st intP (intF en st).2 (fun u => u = (intF en st).1) := by
  unfold intF
  cases hb : tookB st [45] with
  | true =>
    rw [if_pos rfl]
    exact took_res (x := fun r => (numP r).bind fun x => .ok (-x.1, x.2)) (by decide) hb (Res.map (f := fun z => -z) (number_res en _) (fun u hu => by rw [hu])) (fun r hr => by unfold intP; rw [if_pos hr])
  | false =>
    rw [if_neg (by decide)]
    exact nottook_res hb (number_res en st) (fun r hr => by unfold intP; rw [if_neg hr])
end Go.Proofs.YtjcanodnlnodpaaGreatDoor.Parse
