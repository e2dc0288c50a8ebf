/- Contracts and plain mathematics, together: ParQ7, ParQ8, ParQ9, ParQ10. -/
import Derived.Test.YtjcanodnlnodpaaGreatDoorMQa
import Derived.Test.YtjcanodnlnodpaaGreatDoorMUnary
/- The document's own parser: what its expressions keep, and one token on. -/
namespace Go.Proofs.YtjcanodnlnodpaaGreatDoor.Parse
open Go.RowKit Go.Maps Go.Proofs.YtjcanodnlnodpaaGreatDoor.Frame Go.Proofs.YtjcanodnlnodpaaGreatDoor.Token Go.Proofs.YtjcanodnlnodpaaGreatDoor.Expr Go.Proofs.YtjcanodnlnodpaaGreatDoor.Calc
set_option linter.unusedVariables false
set_option linter.unusedSimpArgs false

def QN (p : Nat) (W : World) (names : List (List UInt8)) : Prop := ∃ an cn, W.cell? ⟨p, 10, none⟩ = some (.slice an names.length cn) ∧ (names.length = 0 ∨ ∃ b off, an = some ⟨b, off, none⟩ ∧ b ≠ p ∧ ∀ i, i < names.length → W.cell? ⟨b, off + i, none⟩ = some (.string (str (names.getD i []))))
theorem QN.on {p : Nat} {W W' : World} {names : List (List UInt8)} (h : QN p W names) (hc : QCh p W W') : QN p W' names := by
  obtain ⟨an, cn, h0, h1⟩ := h
  refine ⟨an, cn, ((hc.2 10).1 (by omega)).trans h0, ?_⟩
  rcases h1 with h1 | ⟨b, off, ha, hb, hr⟩
  · exact .inl h1
  · exact .inr ⟨b, off, ha, hb, fun i hi => hc.1.cell (by show ¬ b = p; exact hb) (hr i hi)⟩
theorem QN.below {p : Nat} {W W' : World} {names : List (List UInt8)} (h : QN p W names) (hp : p < W.heap.size) (hb : Below W.heap.size W W') : QN p W' names := h.on (QCh.of_below hp hb)
def QPost (B p : Nat) (en : Int) (l : List TI) (st : St) (x : List KT → PR Ex) (w : World) (e : Ending) (w' : World) : Prop := ∃ (t : Ex) (a : Option Addr) (c : Nat) (st' : St), e = .returned (xV t a c) ∧ XG (fun b _ => w.heap.size ≤ b) w' t a ∧ QS B w' p en l st' ∧ QCh p w w' ∧ Res en st x st' (fun u => u = t)
def QB (B p : Nat) (en : Int) (l : List TI) (st : St) (names : List (List UInt8)) (w W : World) : Prop := QS B W p en l st ∧ QN p W names ∧ QCh p w W ∧ p < w.heap.size ∧ w.heap.size ≤ W.heap.size
theorem QB.below {B p : Nat} {en : Int} {l : List TI} {st : St} {names : List (List UInt8)} {w W W' : World} (h : QB B p en l st names w W) (hb : Below W.heap.size W W') : QB B p en l st names w W' :=
  ⟨h.1.below hb, h.2.1.below h.1.1.2 hb, h.2.2.1.trans (QCh.of_below h.1.1.2 hb), h.2.2.2.1, Nat.le_trans h.2.2.2.2 hb.size⟩
theorem QB.to {B p : Nat} {en : Int} {l : List TI} {st st' : St} {names : List (List UInt8)} {w W W' : World} (h : QB B p en l st names w W) (h1 : QS B W' p en l st') (h2 : QCh p W W') : QB B p en l st' names w W' :=
  ⟨h1, h.2.1.on h2, h.2.2.1.trans h2, h.2.2.2.1, Nat.le_trans h.2.2.2.2 h2.1.size⟩
theorem QB.start {B p : Nat} {en : Int} {l : List TI} {st : St} {names : List (List UInt8)} {w : World} (h : QS B w p en l st) (hn : QN p w names) : QB B p en l st names w w := ⟨h, hn, QCh.refl _ _, h.1.2, Nat.le_refl _⟩
theorem q_took {B p : Nat} {en : Int} {l : List TI} {st : St} {s : List UInt8} {w : World} (h : QS B w p en l st) (hb : tookB st s = true) (hs : s ≠ []) :
    ∃ k : Nat, (w.cell? ⟨p, 1, none⟩ = some (.int .i64 (k : Int)) ∧ w.frozen? ⟨p, 1, none⟩ = false ∧ p < w.heap.size ∧ (k : Int) + 1 < 9223372036854775808) ∧
      QS B (w.setCell ⟨p, 1, none⟩ (.int .i64 ((k : Int) + 1))) p en l (tookS st s) ∧ QCh p w (w.setCell ⟨p, 1, none⟩ (.int .i64 ((k : Int) + 1))) := by
  obtain ⟨r, rfl, hr, hr2⟩ := took_ok hb hs
  obtain ⟨⟨hB, hp⟩, a, c, k, er, pl, hq, hT, hz, e1, e2⟩ := h
  subst e1 e2
  have hk := drop_lt hr2
  have hT2 : tookS (.ok (l.drop k)) s = .ok (l.drop k).tail := by show (if peekL ((l.drop k).map ktI) = s then _ else _) = _; rw [if_pos hr]
  obtain ⟨q1, q2⟩ := qadv hB hp hq hT hz hk
  rw [hT2]
  exact ⟨k, ⟨hq.2.1, hq.2.2.2.2.2 1, hp, by have := hz.2.2.1; omega⟩, q1, q2⟩
theorem QB.took {B p : Nat} {en : Int} {l : List TI} {st : St} {names : List (List UInt8)} {s : List UInt8} {w W : World} (h : QB B p en l st names w W) (hb : tookB st s = true) (hs : s ≠ []) :
    ∃ k : Nat, (W.cell? ⟨p, 1, none⟩ = some (.int .i64 (k : Int)) ∧ W.frozen? ⟨p, 1, none⟩ = false ∧ p < W.heap.size ∧ (k : Int) + 1 < 9223372036854775808) ∧ QB B p en l (tookS st s) names w (W.setCell ⟨p, 1, none⟩ (.int .i64 ((k : Int) + 1))) := by
  obtain ⟨k, hk, h1, h2⟩ := q_took h.1 hb hs
  exact ⟨k, hk, h.to h1 h2⟩
theorem took_peek {st : St} {s : List UInt8} {T : ByteArray} (hT : T.data.toList = peekS st) (hs : s ≠ []) : (T.toList == s) = tookB st s := by
  rw [Go.ByteArray.toList_eq, hT, peekS_took hs, Bool.eq_iff_iff, beq_iff_eq, decide_eq_true_eq]
theorem took_one {st : St} {s t : List UInt8} (hs : s ≠ []) (h : tookB st s = true) (hst : s ≠ t) : tookB st t = false := by
  obtain ⟨r, rfl, hr, _⟩ := took_ok h hs
  exact decide_eq_false fun e => hst (hr.symm.trans e)
theorem q_live {B p : Nat} {en : Int} {l : List TI} {st : St} {w : World} (h : QS B w p en l st) : ∃ (a : Option Addr) (c k : Nat) (er pl : Int), QAt w p (.slice a l.length c) k en er pl ∧ TIs B w a l ∧ (l.length ≤ c ∧ c ≤ maxLen ∧ l.length ≤ 1000000000 ∧ k ≤ l.length ∧ Pk l) ∧
    ((∃ x, st = .error x ∧ er ≠ 0) ∨ (st = .ok (l.drop k) ∧ er = 0)) := by
  obtain ⟨_, a, c, k, er, pl, hq, hT, hz, hs⟩ := h
  refine ⟨a, c, k, er, pl, hq, hT, hz, ?_⟩
  cases st with
  | error x => exact .inl ⟨x, rfl, by rw [hs.1]; exact hs.2.2⟩
  | ok r => exact .inr ⟨by rw [hs.2], hs.1⟩
theorem xg_q {L p : Nat} {W W' : World} {t : Ex} {a : Option Addr} (h : XG (fun b _ => L ≤ b) W t a) (hp : p < L) (hc : QCh p W W') : XG (fun b _ => L ≤ b) W' t a :=
  xg_ch h hc.1 (fun b hb => by subst hb; exact hp)
theorem QAt.keep {p : Nat} {w w' : World} {lv : Value} {k : Nat} {en er pl : Int} (h : QAt w p lv k en er pl) (hb : w'.heap[p]? = w.heap[p]?) : QAt w' p lv k en er pl := by
  obtain ⟨h0, h1, h2, h3, h4, hf⟩ := h
  exact ⟨(cell_of_block hb 0).trans h0, (cell_of_block hb 1).trans h1, (cell_of_block hb 2).trans h2, (cell_of_block hb 3).trans h3, (cell_of_block hb 4).trans h4, fun o => (frozen_of_block hb o).trans (hf o)⟩
theorem QS.ch {B p : Nat} {en : Int} {l : List TI} {st : St} {M : Nat → Prop} {w w' : World} (h : QS B w p en l st) (hc : Ch M w w') (hM : ∀ b, M b → B ≤ b) (hp : ¬ M p) : QS B w' p en l st := by
  obtain ⟨⟨hB, hpl⟩, a, c, k, er, pl, hq, hT, hz, hs⟩ := h
  exact ⟨⟨hB, Nat.lt_of_lt_of_le hpl hc.size⟩, a, c, k, er, pl, hq.keep (hc.block p hpl hp), hT.below (hc.below (by omega) hM), hz, hs⟩
def Cq (B p : Nat) (en : Int) (l : List TI) (st : St) (names : List (List UInt8)) (w W : World) : Prop := QB B p en l st names w W ∧ Bx W w.heap.size [.int .i64 0, .int .i64 0, .slice none 0 0] ∧ w.heap.size + 1 ≤ W.heap.size
theorem Cq.below {B p : Nat} {en : Int} {l : List TI} {st : St} {names : List (List UInt8)} {w W W' : World} (h : Cq B p en l st names w W) (hb : Below W.heap.size W W') : Cq B p en l st names w W' := ⟨h.1.below hb, h.2.1.below hb, Nat.le_trans h.2.2 hb.size⟩
theorem Cq.to {B p : Nat} {en : Int} {l : List TI} {st st' : St} {names : List (List UInt8)} {w W W' : World} (h : Cq B p en l st names w W) (h1 : QS B W' p en l st') (h2 : QCh p W W') : Cq B p en l st' names w W' :=
  ⟨h.1.to h1 h2, h.2.1.ch h2.1 (by have := h.1.2.2.2.1; omega), Nat.le_trans h.2.2 h2.1.size⟩
theorem Cq.took {B p : Nat} {en : Int} {l : List TI} {st : St} {names : List (List UInt8)} {s : List UInt8} {w W : World} (h : Cq B p en l st names w W) (hb : tookB st s = true) (hs : s ≠ []) :
    ∃ k : Nat, (W.cell? ⟨p, 1, none⟩ = some (.int .i64 (k : Int)) ∧ W.frozen? ⟨p, 1, none⟩ = false ∧ p < W.heap.size ∧ (k : Int) + 1 < 9223372036854775808) ∧ Cq B p en l (tookS st s) names w (W.setCell ⟨p, 1, none⟩ (.int .i64 ((k : Int) + 1))) := by
  obtain ⟨k, hk, h1, h2⟩ := q_took h.1.1 hb hs
  exact ⟨k, hk, h.to h1 h2⟩
theorem Cq.start {B p : Nat} {en : Int} {l : List TI} {st : St} {names : List (List UInt8)} {w : World} (h : QS B w p en l st) (hn : QN p w names) : Cq B p en l st names w (w.alloc (.cells #[.int .i64 0, .int .i64 0, .slice none 0 0] 40)) :=
  ⟨(QB.start h hn).below ((Below.refl _ _).alloc (Nat.le_refl _) _), Bx.new w #[.int .i64 0, .int .i64 0, .slice none 0 0] _, by simp⟩
theorem Cq.fin {B p : Nat} {en : Int} {l : List TI} {st : St} {names : List (List UInt8)} {w W : World} {t : Ex} {a : Option Addr} (h : Cq B p en l st names w W) (hx : XG (fun b _ => w.heap.size + 1 ≤ b) W t a) (v0 v1 v2 : Value) :
    XG (fun b _ => w.heap.size ≤ b) (((W.setCell ⟨w.heap.size, 0, none⟩ v0).setCell ⟨w.heap.size, 1, none⟩ v1).setCell ⟨w.heap.size, 2, none⟩ v2) t a ∧ QS B (((W.setCell ⟨w.heap.size, 0, none⟩ v0).setCell ⟨w.heap.size, 1, none⟩ v1).setCell ⟨w.heap.size, 2, none⟩ v2) p en l st ∧
      QCh p w (((W.setCell ⟨w.heap.size, 0, none⟩ v0).setCell ⟨w.heap.size, 1, none⟩ v1).setCell ⟨w.heap.size, 2, none⟩ v2) := by
  have hc : Ch (· = w.heap.size) W (((W.setCell ⟨w.heap.size, 0, none⟩ v0).setCell ⟨w.heap.size, 1, none⟩ v1).setCell ⟨w.heap.size, 2, none⟩ v2) := (((Ch.refl (fun x => x = w.heap.size) W).setCell (b := w.heap.size) (o := 0) (.inl rfl) v0).setCell (b := w.heap.size) (o := 1) (.inl rfl) v1).setCell (b := w.heap.size) (o := 2) (.inl rfl) v2
  have hp := h.1.2.2.2.1
  have hB := h.1.1.1.1
  refine ⟨xg_up (hx.carry fun b off o hb v hv => hc.cell (by show ¬ b = _; omega) hv) (by omega), h.1.1.ch hc (fun b hb => by subst hb; omega) (by omega), ?_⟩
  have h1 := h.1.2.2.1
  have hpb := hc.block p (by have := h.2.2; omega) (by omega)
  exact ⟨⟨hc.os.trans h1.1.os, hc.tape.trans h1.1.tape, hc.output.trans h1.1.output, Nat.le_trans h1.1.size hc.size, fun k hk hm => (hc.block k (Nat.lt_of_lt_of_le hk h1.1.size) (by omega)).trans (h1.1.block k hk hm)⟩, fun o => ⟨fun ho => (cell_of_block hpb o).trans ((h1.2 o).1 ho), (frozen_of_block hpb o).trans (h1.2 o).2⟩⟩
theorem xg_box {w W W' : World} {t : Ex} {a : Option Addr} (hx : XG (fun b _ => W.heap.size ≤ b) W' t a) (hs : w.heap.size + 1 ≤ W.heap.size) : XG (fun b _ => w.heap.size + 1 ≤ b) W' t a := xg_up hx hs
end Go.Proofs.YtjcanodnlnodpaaGreatDoor.Parse
/- The document's own parser: a part of an expression without signs: contracts of the calls, over the turned program. -/
namespace Go.Proofs.YtjcanodnlnodpaaGreatDoor.Parse
open Go.RowKit Go.Maps Go.Proofs.YtjcanodnlnodpaaGreatDoor.Frame Go.Proofs.YtjcanodnlnodpaaGreatDoor.Token Go.Proofs.YtjcanodnlnodpaaGreatDoor.Expr Go.Proofs.YtjcanodnlnodpaaGreatDoor.Calc
set_option linter.unusedVariables false
set_option linter.unusedSimpArgs false

theorem res_err {α : Type} {en : Int} {st : St} {x : List KT → PR α} {P Q : α → Prop} {e : Int × Int} (h : Res en st x (.error e) P) : Res en st x (.error e) Q := by
  cases st with
  | error e' => exact h
  | ok r =>
    cases hx : x (r.map ktI) with
    | error e' => obtain ⟨s, h1, h2, h3⟩ := h.err hx; rw [h3]; exact Res.of_err hx h1 h2
    | ok v => obtain ⟨⟨s, _, _, h3⟩, _⟩ := h.ok hx; cases h3
theorem here_live {en : Int} {st : St} (h : nameOk (hereF en st) = true ∨ (hereF en st).kind = 2) : ∃ t r, st = .ok (t :: r) := by
  have z : nameOk ⟨0, [], en⟩ = false := by unfold nameOk; simp
  cases st with
  | error e =>
    rcases h with h | h
    · have h : nameOk ⟨0, [], en⟩ = true := h
      rw [z] at h; cases h
    · exact absurd h (by show ¬ (0 : Int) = 2; decide)
  | ok r =>
    cases r with
    | nil =>
      rcases h with h | h
      · have h : nameOk ⟨0, [], en⟩ = true := h
        rw [z] at h; cases h
      · exact absurd h (by show ¬ (0 : Int) = 2; decide)
    | cons t r => exact ⟨t, r, rfl⟩
theorem kn_yes {en : Int} {names : List (List UInt8)} {t : TI} {r : List TI} (hk : nameOk t = true) {i : Nat} (hi : i < names.length) (h0 : ∀ j, j < i → names.getD j [] ≠ t.text) (hm : names.getD i [] = t.text) :
    knownF en (nameAt names) (.ok (t :: r)) = .ok r ∧ (nameAt names (nameF en (.ok (t :: r))).1).getD 0 = i := by
  have hF : nameF en (.ok (t :: r)) = (t.text, .ok r) := if_pos hk
  have hmem : t.text ∈ names := by
    rw [← hm, List.getD_eq_getElem?_getD, List.getElem?_eq_getElem hi]; exact List.getElem_mem _
  have hix : names.idxOf t.text = i := by
    have e1 : names.idxOf t.text < names.length := List.idxOf_lt_length_iff.2 hmem
    have e2 : names.getD (names.idxOf t.text) [] = t.text := by
      rw [List.getD_eq_getElem?_getD, List.getElem?_eq_getElem e1]; exact List.getElem_idxOf e1
    rcases Nat.lt_trichotomy (names.idxOf t.text) i with g | g | g
    · exact absurd e2 (h0 _ g)
    · exact g
    · have e3 : ¬ i < names.idxOf t.text := fun g' => by
        have h3 : i < names.findIdx (· == t.text) := g'
        have := List.not_of_lt_findIdx h3
        rw [List.getD_eq_getElem?_getD, List.getElem?_eq_getElem hi] at hm
        simp only [Option.getD_some] at hm
        simp [hm] at this
      exact absurd g e3
  have hN : nameAt names t.text = some i := by unfold nameAt; rw [if_pos hmem, hix]
  unfold knownF
  rw [hF, hN]
  exact ⟨rfl, rfl⟩
theorem kn_no {en : Int} {names : List (List UInt8)} {t : TI} {r : List TI} (hk : nameOk t = true) (h0 : ∀ j, j < names.length → names.getD j [] ≠ t.text) : knownF en (nameAt names) (.ok (t :: r)) = .error (t.at_, 3) := by
  have hF : nameF en (.ok (t :: r)) = (t.text, .ok r) := if_pos hk
  have hmem : ¬ t.text ∈ names := fun h => by
    obtain ⟨j, hj, he⟩ := List.getElem_of_mem h
    exact h0 j hj (by rw [List.getD_eq_getElem?_getD, List.getElem?_eq_getElem hj]; exact he)
  have hN : nameAt names t.text = none := by unfold nameAt; rw [if_neg hmem]
  unfold knownF
  rw [hF, hN]
  rfl
theorem kn_bad {en : Int} {f : List UInt8 → Option Nat} {st : St} (hk : nameOk (hereF en st) = false) : ∃ e, failS st (hereF en st).at_ 4 = .error e ∧ knownF en f st = .error e := by
  cases st with
  | error e => exact ⟨e, rfl, (by unfold knownF; split <;> rfl)⟩
  | ok r =>
    cases r with
    | nil => exact ⟨(en, 4), rfl, by unfold knownF; split <;> rfl⟩
    | cons t r =>
      have hk : nameOk t = false := hk
      have hF : nameF en (.ok (t :: r)) = ([], .error (t.at_, 4)) := if_neg (by rw [hk]; decide)
      exact ⟨(t.at_, 4), rfl, by unfold knownF; rw [hF]; split <;> rfl⟩

set_option maxRecDepth 100000 in
set_option maxHeartbeats 8000000 in
theorem runary_neg (B p d : Nat) (names : List (List UInt8)) (hN : names.length ≤ 3000000) (s : Int) (e0 : Ex) (en : Int) (l : List TI) (st : St) (w : World) (h : QS B w p en l st) (hn : QN p w names) (hd : ¬ 40 < d)
    (hU : ∀ W s', QS B W p en l s' → QN p W names → Calls Tryz.prog 102 #[ptr p, .int .i64 ((d : Int) + 1)] W (QPost B p en l s' (peR names 0 s (d + 1) e0) W)) (b0 : tookB st [45] = true) :
    Calls Tryz.prog 102 #[ptr p, .int .i64 d] w (QPost B p en l st (peR names 0 s d e0) w) := by
  have HU : Hid (∀ W s', QS B W p en l s' → QN p W names → Calls Tryz.prog 102 #[.pointer (some ⟨p, 0, none⟩), .int .i64 ((d : Int) + 1)] W (QPost B p en l s' (peR names 0 s (d + 1) e0) W)) := hU
  clear hU
  have hp := h.1.2
  have hd41 : d ≤ 41 := by omega
  obtain ⟨W0, hW⟩ : ∃ W0, W0 = w.alloc (.cells #[.int .i64 0, .int .i64 0, .slice none 0 0] 40) := ⟨_, rfl⟩
  have H0 : Hid (Cq B p en l st names w W0) := by rw [hW]; exact Cq.start h hn
  have HW : Hid (W0 = _) := hW
  obtain ⟨T, hT⟩ : ∃ T, T = str (peekS st) := ⟨_, rfl⟩
  have hTd : T.data.toList = peekS st := by rw [hT, str_data]
  have CP : Hid (∀ W, QS B W p en l st → Calls Tryz.prog 37 #[.pointer (some ⟨p, 0, none⟩)] W fun e w' => e = .returned (.string T) ∧ Below W.heap.size W w') := fun W hW => by rw [hT]; exact rpeek_any B p en l st W hW
  have hd' : ¬ (40 : Int) < d := by omega
  have t0 : (T.toList == [45]) = true := by rw [took_peek hTd (by decide)]; exact b0
  have B0 : Hid (tookB st [45] = true) := b0
  clear h hn hW hT hTd
  unfold ptr
  go_enter Tryz.func102, Tryz.ntmps102
  go_wp2_with fail
  rw [← HW.out]
  clear HW
  refine (CP.out W0 H0.out.1.1).mono ?_
  rintro e w1 ⟨he, hb⟩
  subst he
  have H1 : Hid (Cq B p en l st names w w1) := H0.out.below hb
  clear hb H0 CP
  clear b0
  obtain ⟨k, ⟨k0, k1, k2, k3⟩, hC2⟩ := H1.out.took B0.out (by decide)
  have hk4 : Hid (0 = 0) := rfl
  obtain ⟨W2, hW2⟩ : ∃ W2, W2 = w1.setCell ⟨p, 1, none⟩ (.int .i64 ((k : Int) + 1)) := ⟨_, rfl⟩
  have H2 : Hid (Cq B p en l (tookS st [45]) names w W2) := by rw [hW2]; exact hC2
  have HW2 : Hid (W2 = _) := hW2
  clear hC2 hW2
  go_wp2_with fail
  rw [← HW2.out]
  clear HW2 k0 k1 k2 k3 hk4
  refine (HU.out W2 _ H2.out.1.1 H2.out.1.2.1).mono ?_
  rintro e v1 ⟨t1, a1, c1, s1, he, hx, h5, hr5, r5⟩
  subst he
  have H5 : Hid (Cq B p en l s1 names w v1) := H2.out.to h5 hr5
  have X5 : Hid (XG (fun b _ => w.heap.size + 1 ≤ b) v1 t1 a1) := xg_box hx H2.out.2.2
  have RR : Hid (Res en st (peR names 0 s d e0) s1 fun u => u = ⟨3, 0, [t1]⟩) := took_res (x := fun r => (peR names 0 s (d + 1) e0 r).bind fun x => .ok (⟨3, 0, [x.1]⟩, x.2)) (by decide) B0.out (Res.map (f := fun x => (⟨3, 0, [x]⟩ : Ex)) r5 (fun u hu => by rw [hu])) (fun r hr => peR_neg names s d e0 r hd hr)
  clear h5 hr5 r5 hx H2
  have hB2 : Below v1.heap.size v1 (v1.alloc (.cells #[.int .i64 t1.kind, .int .i64 t1.num, .slice a1 t1.kids.length c1] 40)) := (Below.refl _ _).alloc (Nat.le_refl _) _
  have H6 : Hid (Cq B p en l s1 names w (v1.alloc (.cells #[.int .i64 t1.kind, .int .i64 t1.num, .slice a1 t1.kids.length c1] 40))) := H5.out.below hB2
  have hx2 : Hid (XG (fun b _ => w.heap.size + 1 ≤ b) (v1.alloc (.cells #[.int .i64 t1.kind, .int .i64 t1.num, .slice a1 t1.kids.length c1] 40)) ⟨3, 0, [t1]⟩ (some ⟨v1.heap.size, 0, none⟩)) := xg_one ⟨by decide, by decide⟩ ⟨by decide, by decide⟩ H5.out.2.2 (XG.below X5.out hB2) (Bx.new v1 #[.int .i64 t1.kind, .int .i64 t1.num, .slice a1 t1.kids.length c1] 40)
  clear hB2 X5 H5
  have FN : Hid (∀ v0 v1 v2 : Value, _) := fun v0 v1 v2 => H6.out.fin hx2.out v0 v1 v2
  obtain ⟨g0, g1, g2, gl⟩ := H6.out.2.1.three
  obtain ⟨f0, f1, f2⟩ := H6.out.2.1.fr
  go_wp2_with fail
  refine bodyPost_ret (v := xV ⟨3, 0, [t1]⟩ (some ⟨v1.heap.size, 0, none⟩) 1) ?_ rfl ⟨⟨3, 0, [t1]⟩, (some ⟨v1.heap.size, 0, none⟩), 1, s1, rfl, (FN.out _ _ _).1, (FN.out _ _ _).2.1, (FN.out _ _ _).2.2, RR.out⟩
  simp [results, Tryz.results102, go_sem, g0, g1, g2]

set_option maxRecDepth 100000 in
set_option maxHeartbeats 8000000 in
theorem runary_not (B p d : Nat) (names : List (List UInt8)) (hN : names.length ≤ 3000000) (s : Int) (e0 : Ex) (en : Int) (l : List TI) (st : St) (w : World) (h : QS B w p en l st) (hn : QN p w names) (hd : ¬ 40 < d)
    (hU : ∀ W s', QS B W p en l s' → QN p W names → Calls Tryz.prog 102 #[ptr p, .int .i64 ((d : Int) + 1)] W (QPost B p en l s' (peR names 0 s (d + 1) e0) W)) (b0 : tookB st [45] = false) (b1 : tookB st [33] = true) :
    Calls Tryz.prog 102 #[ptr p, .int .i64 d] w (QPost B p en l st (peR names 0 s d e0) w) := by
  have HU : Hid (∀ W s', QS B W p en l s' → QN p W names → Calls Tryz.prog 102 #[.pointer (some ⟨p, 0, none⟩), .int .i64 ((d : Int) + 1)] W (QPost B p en l s' (peR names 0 s (d + 1) e0) W)) := hU
  clear hU
  have hp := h.1.2
  have hd41 : d ≤ 41 := by omega
  obtain ⟨W0, hW⟩ : ∃ W0, W0 = w.alloc (.cells #[.int .i64 0, .int .i64 0, .slice none 0 0] 40) := ⟨_, rfl⟩
  have H0 : Hid (Cq B p en l st names w W0) := by rw [hW]; exact Cq.start h hn
  have HW : Hid (W0 = _) := hW
  obtain ⟨T, hT⟩ : ∃ T, T = str (peekS st) := ⟨_, rfl⟩
  have hTd : T.data.toList = peekS st := by rw [hT, str_data]
  have CP : Hid (∀ W, QS B W p en l st → Calls Tryz.prog 37 #[.pointer (some ⟨p, 0, none⟩)] W fun e w' => e = .returned (.string T) ∧ Below W.heap.size W w') := fun W hW => by rw [hT]; exact rpeek_any B p en l st W hW
  have hd' : ¬ (40 : Int) < d := by omega
  have t0 : (T.toList == [45]) = false := by rw [took_peek hTd (by decide)]; exact b0
  have t1 : (T.toList == [33]) = true := by rw [took_peek hTd (by decide)]; exact b1
  have B0 : Hid (tookB st [45] = false) := b0
  have B1 : Hid (tookB st [33] = true) := b1
  clear h hn hW hT hTd
  unfold ptr
  go_enter Tryz.func102, Tryz.ntmps102
  go_wp2_with fail
  rw [← HW.out]
  clear HW
  refine (CP.out W0 H0.out.1.1).mono ?_
  rintro e w1 ⟨he, hb⟩
  subst he
  have H1 : Hid (Cq B p en l st names w w1) := H0.out.below hb
  clear hb H0 CP
  clear b0 b1
  obtain ⟨k, ⟨k0, k1, k2, k3⟩, hC2⟩ := H1.out.took B1.out (by decide)
  have hk4 : Hid (0 = 0) := rfl
  obtain ⟨W2, hW2⟩ : ∃ W2, W2 = w1.setCell ⟨p, 1, none⟩ (.int .i64 ((k : Int) + 1)) := ⟨_, rfl⟩
  have H2 : Hid (Cq B p en l (tookS st [33]) names w W2) := by rw [hW2]; exact hC2
  have HW2 : Hid (W2 = _) := hW2
  clear hC2 hW2
  go_wp2_with fail
  rw [← HW2.out]
  clear HW2 k0 k1 k2 k3 hk4
  refine (HU.out W2 _ H2.out.1.1 H2.out.1.2.1).mono ?_
  rintro e v1 ⟨t1, a1, c1, s1, he, hx, h5, hr5, r5⟩
  subst he
  have H5 : Hid (Cq B p en l s1 names w v1) := H2.out.to h5 hr5
  have X5 : Hid (XG (fun b _ => w.heap.size + 1 ≤ b) v1 t1 a1) := xg_box hx H2.out.2.2
  have RR : Hid (Res en st (peR names 0 s d e0) s1 fun u => u = ⟨4, 0, [t1]⟩) := took_res (x := fun r => (peR names 0 s (d + 1) e0 r).bind fun x => .ok (⟨4, 0, [x.1]⟩, x.2)) (by decide) B1.out (Res.map (f := fun x => (⟨4, 0, [x]⟩ : Ex)) r5 (fun u hu => by rw [hu])) (fun r hr => peR_not names s d e0 r hd hr)
  clear h5 hr5 r5 hx H2
  have hB2 : Below v1.heap.size v1 (v1.alloc (.cells #[.int .i64 t1.kind, .int .i64 t1.num, .slice a1 t1.kids.length c1] 40)) := (Below.refl _ _).alloc (Nat.le_refl _) _
  have H6 : Hid (Cq B p en l s1 names w (v1.alloc (.cells #[.int .i64 t1.kind, .int .i64 t1.num, .slice a1 t1.kids.length c1] 40))) := H5.out.below hB2
  have hx2 : Hid (XG (fun b _ => w.heap.size + 1 ≤ b) (v1.alloc (.cells #[.int .i64 t1.kind, .int .i64 t1.num, .slice a1 t1.kids.length c1] 40)) ⟨4, 0, [t1]⟩ (some ⟨v1.heap.size, 0, none⟩)) := xg_one ⟨by decide, by decide⟩ ⟨by decide, by decide⟩ H5.out.2.2 (XG.below X5.out hB2) (Bx.new v1 #[.int .i64 t1.kind, .int .i64 t1.num, .slice a1 t1.kids.length c1] 40)
  clear hB2 X5 H5
  have FN : Hid (∀ v0 v1 v2 : Value, _) := fun v0 v1 v2 => H6.out.fin hx2.out v0 v1 v2
  obtain ⟨g0, g1, g2, gl⟩ := H6.out.2.1.three
  obtain ⟨f0, f1, f2⟩ := H6.out.2.1.fr
  go_wp2_with fail
  refine bodyPost_ret (v := xV ⟨4, 0, [t1]⟩ (some ⟨v1.heap.size, 0, none⟩) 1) ?_ rfl ⟨⟨4, 0, [t1]⟩, (some ⟨v1.heap.size, 0, none⟩), 1, s1, rfl, (FN.out _ _ _).1, (FN.out _ _ _).2.1, (FN.out _ _ _).2.2, RR.out⟩
  simp [results, Tryz.results102, go_sem, g0, g1, g2]
end Go.Proofs.YtjcanodnlnodpaaGreatDoor.Parse
/- The document's own parser: a part of an expression without signs, in brackets and behind if: contracts of the calls, over the turned program. -/
namespace Go.Proofs.YtjcanodnlnodpaaGreatDoor.Parse
open Go.RowKit Go.Maps Go.Proofs.YtjcanodnlnodpaaGreatDoor.Frame Go.Proofs.YtjcanodnlnodpaaGreatDoor.Token Go.Proofs.YtjcanodnlnodpaaGreatDoor.Expr Go.Proofs.YtjcanodnlnodpaaGreatDoor.Calc
set_option linter.unusedVariables false
set_option linter.unusedSimpArgs false

theorem Ax.onq {L : Nat} {t : Ex} {a : Option Addr} {c q p : Nat} {W W' : World} (h : Ax L t a c q W) (hp : p < L) (hr : QCh p W W') : Ax L t a c q W' :=
  ⟨xg_ch h.1 hr.1 (fun b hb => by subst hb; exact hp), h.2.1.ch hr.1 (by have := h.2.2; omega), h.2.2⟩

set_option maxRecDepth 100000 in
set_option maxHeartbeats 8000000 in
theorem runary_par (B p d : Nat) (names : List (List UInt8)) (hN : names.length ≤ 3000000) (s : Int) (e0 : Ex) (en : Int) (l : List TI) (st : St) (w : World) (h : QS B w p en l st) (hn : QN p w names) (hd : ¬ 40 < d)
    (hE : ∀ W s', QS B W p en l s' → QN p W names → Calls Tryz.prog 51 #[ptr p, .int .i64 0, .int .i64 ((d : Int) + 1)] W (QPost B p en l s' (peR names 1 0 (d + 1) e0) W)) (b0 : tookB st [45] = false) (b1 : tookB st [33] = false) (b2 : tookB st [40] = true) :
    Calls Tryz.prog 102 #[ptr p, .int .i64 d] w (QPost B p en l st (peR names 0 s d e0) w) := by
  have HE : Hid (∀ W s', QS B W p en l s' → QN p W names → Calls Tryz.prog 51 #[.pointer (some ⟨p, 0, none⟩), .int .i64 0, .int .i64 ((d : Int) + 1)] W (QPost B p en l s' (peR names 1 0 (d + 1) e0) W)) := hE
  clear hE
  have hp1 : p < w.heap.size + 1 := Nat.lt_succ_of_lt h.1.2
  have hp := h.1.2
  have hd41 : d ≤ 41 := by omega
  obtain ⟨W0, hW⟩ : ∃ W0, W0 = w.alloc (.cells #[.int .i64 0, .int .i64 0, .slice none 0 0] 40) := ⟨_, rfl⟩
  have H0 : Hid (Cq B p en l st names w W0) := by rw [hW]; exact Cq.start h hn
  have HW : Hid (W0 = _) := hW
  obtain ⟨T, hT⟩ : ∃ T, T = str (peekS st) := ⟨_, rfl⟩
  have hTd : T.data.toList = peekS st := by rw [hT, str_data]
  have CP : Hid (∀ W, QS B W p en l st → Calls Tryz.prog 37 #[.pointer (some ⟨p, 0, none⟩)] W fun e w' => e = .returned (.string T) ∧ Below W.heap.size W w') := fun W hW => by rw [hT]; exact rpeek_any B p en l st W hW
  have hd' : ¬ (40 : Int) < d := by omega
  have t0 : (T.toList == [45]) = false := by rw [took_peek hTd (by decide)]; exact b0
  have t1 : (T.toList == [33]) = false := by rw [took_peek hTd (by decide)]; exact b1
  have t2 : (T.toList == [40]) = true := by rw [took_peek hTd (by decide)]; exact b2
  have B0 : Hid (tookB st [45] = false) := b0
  have B1 : Hid (tookB st [33] = false) := b1
  have B2 : Hid (tookB st [40] = true) := b2
  clear h hn hW hT hTd
  unfold ptr
  go_enter Tryz.func102, Tryz.ntmps102
  go_wp2_with fail
  rw [← HW.out]
  clear HW
  refine (CP.out W0 H0.out.1.1).mono ?_
  rintro e w1 ⟨he, hb⟩
  subst he
  have H1 : Hid (Cq B p en l st names w w1) := H0.out.below hb
  clear hb H0 CP
  clear b0 b1 b2
  obtain ⟨k, ⟨k0, k1, k2, k3⟩, hC2⟩ := H1.out.took B2.out (by decide)
  have hk4 : Hid (0 = 0) := rfl
  obtain ⟨W2, hW2⟩ : ∃ W2, W2 = w1.setCell ⟨p, 1, none⟩ (.int .i64 ((k : Int) + 1)) := ⟨_, rfl⟩
  have H2 : Hid (Cq B p en l (tookS st [40]) names w W2) := by rw [hW2]; exact hC2
  have HW2 : Hid (W2 = _) := hW2
  clear hC2 hW2
  go_wp2_with fail
  rw [← HW2.out]
  clear HW2 k0 k1 k2 k3 hk4
  refine (HE.out W2 _ H2.out.1.1 H2.out.1.2.1).mono ?_
  rintro e v1 ⟨t1, a1, c1, s1, he, hx, h5, hr5, r5⟩
  subst he
  have E1 : Hid (Res en (tookS st [40]) (peR names 1 0 (d + 1) e0) s1 fun u => u = t1) := r5
  have hC5 : Cq B p en l s1 names w v1 := H2.out.to h5 hr5
  have A1 : Hid (Ax (w.heap.size + 1) t1 a1 c1 v1.heap.size (v1.alloc (.cells #[.int .i64 t1.kind, .int .i64 t1.num, .slice a1 t1.kids.length c1] 40))) := Ax.start hx H2.out.2.2 hr5.1.size
  have HV1 : Hid (Cq B p en l s1 names w (v1.alloc (.cells #[.int .i64 t1.kind, .int .i64 t1.num, .slice a1 t1.kids.length c1] 40))) := hC5.below ((Below.refl _ _).alloc (Nat.le_refl _) _)
  clear h5 hr5 r5 hx H2 hC5 
  go_wp2_with fail
  obtain ⟨V1, hV1⟩ : ∃ V1, V1 = v1.alloc (.cells #[.int .i64 t1.kind, .int .i64 t1.num, .slice a1 t1.kids.length c1] 40) := ⟨_, rfl⟩
  rw [← hV1] at A1  HV1 ⊢
  generalize v1.heap.size = q1 at *
  clear hV1 v1
  refine (rwant_any B p en l s1 _ [41] V1 HV1.out.1.1 rfl (by decide)).mono ?_
  rintro e w6 ⟨he, s2, h6, hr6, m6⟩
  subst he
  have H6 : Hid (Cq B p en l s2 names w w6) := HV1.out.to h6 hr6
  have M1 : Hid (Res en s1 (wantP [41]) s2 fun _ => True) := m6
  have A1w : Hid (Ax (w.heap.size + 1) t1 a1 c1 q1 w6) := A1.out.onq hp1 hr6
  clear h6 hr6 m6 HV1 A1
  have A1 : Hid (Ax (w.heap.size + 1) t1 a1 c1 q1 w6) := A1w.out
  clear A1w
  have RR : Hid (Res en st (peR names 0 s d e0) s2 fun u => u = t1) := by
    refine took_res (x := fun r => (peR names 1 0 (d + 1) e0 r).bind fun x => (wantL [41] x.2).bind fun r2 => .ok (x.1, r2)) (by decide) B2.out (Res.bindp E1.out ?_) (fun r hr => peR_par names s d e0 r hd hr)
    dsimp only
    exact Res.want M1.out (Res.pure rfl)
  obtain ⟨y0, y1, y2, yl⟩ := A1.out.2.1.three
  have hx2 := A1.out.1
  have FN : Hid (∀ v0 v1 v2 : Value, _) := fun v0 v1 v2 => H6.out.fin hx2 v0 v1 v2
  obtain ⟨g0, g1, g2, gl⟩ := H6.out.2.1.three
  obtain ⟨f0, f1, f2⟩ := H6.out.2.1.fr
  go_wp2_with fail
  refine bodyPost_ret (v := xV t1 a1 c1) ?_ rfl ⟨t1, a1, c1, s2, rfl, (FN.out _ _ _).1, (FN.out _ _ _).2.1, (FN.out _ _ _).2.2, RR.out⟩
  simp [results, Tryz.results102, go_sem, g0, g1, g2]

set_option maxRecDepth 100000 in
set_option maxHeartbeats 8000000 in
theorem runary_if (B p d : Nat) (names : List (List UInt8)) (hN : names.length ≤ 3000000) (s : Int) (e0 : Ex) (en : Int) (l : List TI) (st : St) (w : World) (h : QS B w p en l st) (hn : QN p w names) (hd : ¬ 40 < d)
    (hE : ∀ W s', QS B W p en l s' → QN p W names → Calls Tryz.prog 51 #[ptr p, .int .i64 0, .int .i64 ((d : Int) + 1)] W (QPost B p en l s' (peR names 1 0 (d + 1) e0) W)) (b0 : tookB st [45] = false) (b1 : tookB st [33] = false) (b2 : tookB st [40] = false) (b3 : tookB st [105, 102] = true) :
    Calls Tryz.prog 102 #[ptr p, .int .i64 d] w (QPost B p en l st (peR names 0 s d e0) w) := by
  have HE : Hid (∀ W s', QS B W p en l s' → QN p W names → Calls Tryz.prog 51 #[.pointer (some ⟨p, 0, none⟩), .int .i64 0, .int .i64 ((d : Int) + 1)] W (QPost B p en l s' (peR names 1 0 (d + 1) e0) W)) := hE
  clear hE
  have hp1 : p < w.heap.size + 1 := Nat.lt_succ_of_lt h.1.2
  have hp := h.1.2
  have hd41 : d ≤ 41 := by omega
  obtain ⟨W0, hW⟩ : ∃ W0, W0 = w.alloc (.cells #[.int .i64 0, .int .i64 0, .slice none 0 0] 40) := ⟨_, rfl⟩
  have H0 : Hid (Cq B p en l st names w W0) := by rw [hW]; exact Cq.start h hn
  have HW : Hid (W0 = _) := hW
  obtain ⟨T, hT⟩ : ∃ T, T = str (peekS st) := ⟨_, rfl⟩
  have hTd : T.data.toList = peekS st := by rw [hT, str_data]
  have CP : Hid (∀ W, QS B W p en l st → Calls Tryz.prog 37 #[.pointer (some ⟨p, 0, none⟩)] W fun e w' => e = .returned (.string T) ∧ Below W.heap.size W w') := fun W hW => by rw [hT]; exact rpeek_any B p en l st W hW
  have hd' : ¬ (40 : Int) < d := by omega
  have t0 : (T.toList == [45]) = false := by rw [took_peek hTd (by decide)]; exact b0
  have t1 : (T.toList == [33]) = false := by rw [took_peek hTd (by decide)]; exact b1
  have t2 : (T.toList == [40]) = false := by rw [took_peek hTd (by decide)]; exact b2
  have t3 : (T.toList == [105, 102]) = true := by rw [took_peek hTd (by decide)]; exact b3
  have B0 : Hid (tookB st [45] = false) := b0
  have B1 : Hid (tookB st [33] = false) := b1
  have B2 : Hid (tookB st [40] = false) := b2
  have B3 : Hid (tookB st [105, 102] = true) := b3
  clear h hn hW hT hTd
  unfold ptr
  go_enter Tryz.func102, Tryz.ntmps102
  go_wp2_with fail
  rw [← HW.out]
  clear HW
  refine (CP.out W0 H0.out.1.1).mono ?_
  rintro e w1 ⟨he, hb⟩
  subst he
  have H1 : Hid (Cq B p en l st names w w1) := H0.out.below hb
  clear hb H0 CP
  clear b0 b1 b2 b3
  obtain ⟨k, ⟨k0, k1, k2, k3⟩, hC2⟩ := H1.out.took B3.out (by decide)
  have hk4 : Hid (0 = 0) := rfl
  obtain ⟨W2, hW2⟩ : ∃ W2, W2 = w1.setCell ⟨p, 1, none⟩ (.int .i64 ((k : Int) + 1)) := ⟨_, rfl⟩
  have H2 : Hid (Cq B p en l (tookS st [105, 102]) names w W2) := by rw [hW2]; exact hC2
  have HW2 : Hid (W2 = _) := hW2
  clear hC2 hW2
  go_wp2_with fail
  rw [← HW2.out]
  clear HW2 k0 k1 k2 k3 hk4
  refine (rwant_any B p en l (tookS st [105, 102]) _ [40] W2 H2.out.1.1 rfl (by decide)).mono ?_
  rintro e w3 ⟨he, s1, h6, hr6, m6⟩
  subst he
  have H3 : Hid (Cq B p en l s1 names w w3) := H2.out.to h6 hr6
  have M1 : Hid (Res en (tookS st [105, 102]) (wantP [40]) s1 fun _ => True) := m6
  clear h6 hr6 m6 H2 
  go_wp2_with fail
  refine (HE.out w3 _ H3.out.1.1 H3.out.1.2.1).mono ?_
  rintro e v1 ⟨t1, a1, c1, s2, he, hx, h5, hr5, r5⟩
  subst he
  have E1 : Hid (Res en s1 (peR names 1 0 (d + 1) e0) s2 fun u => u = t1) := r5
  have hC5 : Cq B p en l s2 names w v1 := H3.out.to h5 hr5
  have A1 : Hid (Ax (w.heap.size + 1) t1 a1 c1 v1.heap.size (v1.alloc (.cells #[.int .i64 t1.kind, .int .i64 t1.num, .slice a1 t1.kids.length c1] 40))) := Ax.start hx H3.out.2.2 hr5.1.size
  have HV1 : Hid (Cq B p en l s2 names w (v1.alloc (.cells #[.int .i64 t1.kind, .int .i64 t1.num, .slice a1 t1.kids.length c1] 40))) := hC5.below ((Below.refl _ _).alloc (Nat.le_refl _) _)
  clear h5 hr5 r5 hx H3 hC5 
  go_wp2_with fail
  obtain ⟨V1, hV1⟩ : ∃ V1, V1 = v1.alloc (.cells #[.int .i64 t1.kind, .int .i64 t1.num, .slice a1 t1.kids.length c1] 40) := ⟨_, rfl⟩
  rw [← hV1] at A1  HV1 ⊢
  generalize v1.heap.size = q1 at *
  clear hV1 v1
  refine (rwant_any B p en l s2 _ [44] V1 HV1.out.1.1 rfl (by decide)).mono ?_
  rintro e w5 ⟨he, s3, h6, hr6, m6⟩
  subst he
  have H5 : Hid (Cq B p en l s3 names w w5) := HV1.out.to h6 hr6
  have M2 : Hid (Res en s2 (wantP [44]) s3 fun _ => True) := m6
  have A1w : Hid (Ax (w.heap.size + 1) t1 a1 c1 q1 w5) := A1.out.onq hp1 hr6
  clear h6 hr6 m6 HV1 A1
  have A1 : Hid (Ax (w.heap.size + 1) t1 a1 c1 q1 w5) := A1w.out
  clear A1w
  go_wp2_with fail
  refine (HE.out w5 _ H5.out.1.1 H5.out.1.2.1).mono ?_
  rintro e v2 ⟨t2, a2, c2, s4, he, hx, h5, hr5, r5⟩
  subst he
  have E2 : Hid (Res en s3 (peR names 1 0 (d + 1) e0) s4 fun u => u = t2) := r5
  have hC5 : Cq B p en l s4 names w v2 := H5.out.to h5 hr5
  have A2 : Hid (Ax (w.heap.size + 1) t2 a2 c2 v2.heap.size (v2.alloc (.cells #[.int .i64 t2.kind, .int .i64 t2.num, .slice a2 t2.kids.length c2] 40))) := Ax.start hx H5.out.2.2 hr5.1.size
  have A1' : Hid (Ax (w.heap.size + 1) t1 a1 c1 q1 (v2.alloc (.cells #[.int .i64 t2.kind, .int .i64 t2.num, .slice a2 t2.kids.length c2] 40))) := (A1.out.onq hp1 hr5).al _
  have HV2 : Hid (Cq B p en l s4 names w (v2.alloc (.cells #[.int .i64 t2.kind, .int .i64 t2.num, .slice a2 t2.kids.length c2] 40))) := hC5.below ((Below.refl _ _).alloc (Nat.le_refl _) _)
  clear h5 hr5 r5 hx H5 hC5 A1
  go_wp2_with fail
  obtain ⟨V2, hV2⟩ : ∃ V2, V2 = v2.alloc (.cells #[.int .i64 t2.kind, .int .i64 t2.num, .slice a2 t2.kids.length c2] 40) := ⟨_, rfl⟩
  rw [← hV2] at A2 A1' HV2 ⊢
  generalize v2.heap.size = q2 at *
  clear hV2 v2
  refine (rwant_any B p en l s4 _ [44] V2 HV2.out.1.1 rfl (by decide)).mono ?_
  rintro e w7 ⟨he, s5, h6, hr6, m6⟩
  subst he
  have H7 : Hid (Cq B p en l s5 names w w7) := HV2.out.to h6 hr6
  have M3 : Hid (Res en s4 (wantP [44]) s5 fun _ => True) := m6
  have A1w : Hid (Ax (w.heap.size + 1) t1 a1 c1 q1 w7) := A1'.out.onq hp1 hr6
  have A2w : Hid (Ax (w.heap.size + 1) t2 a2 c2 q2 w7) := A2.out.onq hp1 hr6
  clear h6 hr6 m6 HV2 A1' A2
  have A1 : Hid (Ax (w.heap.size + 1) t1 a1 c1 q1 w7) := A1w.out
  clear A1w
  have A2 : Hid (Ax (w.heap.size + 1) t2 a2 c2 q2 w7) := A2w.out
  clear A2w
  go_wp2_with fail
  refine (HE.out w7 _ H7.out.1.1 H7.out.1.2.1).mono ?_
  rintro e v3 ⟨t3, a3, c3, s6, he, hx, h5, hr5, r5⟩
  subst he
  have E3 : Hid (Res en s5 (peR names 1 0 (d + 1) e0) s6 fun u => u = t3) := r5
  have hC5 : Cq B p en l s6 names w v3 := H7.out.to h5 hr5
  have A3 : Hid (Ax (w.heap.size + 1) t3 a3 c3 v3.heap.size (v3.alloc (.cells #[.int .i64 t3.kind, .int .i64 t3.num, .slice a3 t3.kids.length c3] 40))) := Ax.start hx H7.out.2.2 hr5.1.size
  have A1' : Hid (Ax (w.heap.size + 1) t1 a1 c1 q1 (v3.alloc (.cells #[.int .i64 t3.kind, .int .i64 t3.num, .slice a3 t3.kids.length c3] 40))) := (A1.out.onq hp1 hr5).al _
  have A2' : Hid (Ax (w.heap.size + 1) t2 a2 c2 q2 (v3.alloc (.cells #[.int .i64 t3.kind, .int .i64 t3.num, .slice a3 t3.kids.length c3] 40))) := (A2.out.onq hp1 hr5).al _
  have HV3 : Hid (Cq B p en l s6 names w (v3.alloc (.cells #[.int .i64 t3.kind, .int .i64 t3.num, .slice a3 t3.kids.length c3] 40))) := hC5.below ((Below.refl _ _).alloc (Nat.le_refl _) _)
  clear h5 hr5 r5 hx H7 hC5 A1 A2
  go_wp2_with fail
  obtain ⟨V3, hV3⟩ : ∃ V3, V3 = v3.alloc (.cells #[.int .i64 t3.kind, .int .i64 t3.num, .slice a3 t3.kids.length c3] 40) := ⟨_, rfl⟩
  rw [← hV3] at A3 A1' A2' HV3 ⊢
  generalize v3.heap.size = q3 at *
  clear hV3 v3
  refine (rwant_any B p en l s6 _ [41] V3 HV3.out.1.1 rfl (by decide)).mono ?_
  rintro e w9 ⟨he, s7, h6, hr6, m6⟩
  subst he
  have H9 : Hid (Cq B p en l s7 names w w9) := HV3.out.to h6 hr6
  have M4 : Hid (Res en s6 (wantP [41]) s7 fun _ => True) := m6
  have A1w : Hid (Ax (w.heap.size + 1) t1 a1 c1 q1 w9) := A1'.out.onq hp1 hr6
  have A2w : Hid (Ax (w.heap.size + 1) t2 a2 c2 q2 w9) := A2'.out.onq hp1 hr6
  have A3w : Hid (Ax (w.heap.size + 1) t3 a3 c3 q3 w9) := A3.out.onq hp1 hr6
  clear h6 hr6 m6 HV3 A1' A2' A3
  have A1 : Hid (Ax (w.heap.size + 1) t1 a1 c1 q1 w9) := A1w.out
  clear A1w
  have A2 : Hid (Ax (w.heap.size + 1) t2 a2 c2 q2 w9) := A2w.out
  clear A2w
  have A3 : Hid (Ax (w.heap.size + 1) t3 a3 c3 q3 w9) := A3w.out
  clear A3w
  obtain ⟨y0, y1, y2, yl⟩ := A1.out.2.1.three
  obtain ⟨z0, z1, z2, zl⟩ := A2.out.2.1.three
  obtain ⟨u0, u1, u2, ul⟩ := A3.out.2.1.three
  have RR : Hid (Res en st (peR names 0 s d e0) s7 fun u => u = ⟨6, 0, [t1, t2, t3]⟩) := took_res (x := chP names (d + 1) e0) (by decide) B3.out (ch_res M1.out E1.out M2.out E2.out M3.out E3.out M4.out) (fun r hr => peR_if names s d e0 r hd hr)
  have hB8 : Below w9.heap.size w9 (w9.alloc (.cells #[.int .i64 t1.kind, .int .i64 t1.num, .slice a1 t1.kids.length c1, .int .i64 t2.kind, .int .i64 t2.num, .slice a2 t2.kids.length c2, .int .i64 t3.kind, .int .i64 t3.num, .slice a3 t3.kids.length c3] 40)) := (Below.refl _ _).alloc (Nat.le_refl _) _
  have H10 : Hid (Cq B p en l s7 names w (w9.alloc (.cells #[.int .i64 t1.kind, .int .i64 t1.num, .slice a1 t1.kids.length c1, .int .i64 t2.kind, .int .i64 t2.num, .slice a2 t2.kids.length c2, .int .i64 t3.kind, .int .i64 t3.num, .slice a3 t3.kids.length c3] 40))) := H9.out.below hB8
  have hx2 : Hid (XG (fun b _ => w.heap.size + 1 ≤ b) (w9.alloc (.cells #[.int .i64 t1.kind, .int .i64 t1.num, .slice a1 t1.kids.length c1, .int .i64 t2.kind, .int .i64 t2.num, .slice a2 t2.kids.length c2, .int .i64 t3.kind, .int .i64 t3.num, .slice a3 t3.kids.length c3] 40)) ⟨6, 0, [t1, t2, t3]⟩ (some ⟨w9.heap.size, 0, none⟩)) :=
    xg_three ⟨by decide, by decide⟩ ⟨by decide, by decide⟩ H9.out.2.2 (XG.below A1.out.1 hB8) (XG.below A2.out.1 hB8) (XG.below A3.out.1 hB8) (Bx.new w9 #[.int .i64 t1.kind, .int .i64 t1.num, .slice a1 t1.kids.length c1, .int .i64 t2.kind, .int .i64 t2.num, .slice a2 t2.kids.length c2, .int .i64 t3.kind, .int .i64 t3.num, .slice a3 t3.kids.length c3] 40)
  clear hB8 A1 A2 A3 H9
  have FN : Hid (∀ v0 v1 v2 : Value, _) := fun v0 v1 v2 => H10.out.fin hx2.out v0 v1 v2
  obtain ⟨g0, g1, g2, gl⟩ := H10.out.2.1.three
  obtain ⟨f0, f1, f2⟩ := H10.out.2.1.fr
  go_wp2_with fail
  refine bodyPost_ret (v := xV ⟨6, 0, [t1, t2, t3]⟩ (some ⟨w9.heap.size, 0, none⟩) 3) ?_ rfl ⟨⟨6, 0, [t1, t2, t3]⟩, (some ⟨w9.heap.size, 0, none⟩), 3, s7, rfl, (FN.out _ _ _).1, (FN.out _ _ _).2.1, (FN.out _ _ _).2.2, RR.out⟩
  simp [results, Tryz.results102, go_sem, g0, g1, g2]
end Go.Proofs.YtjcanodnlnodpaaGreatDoor.Parse
/- The document's own parser: a number, a name, what is too deep; a part of an expression, whole: contracts of the calls, over the turned program. -/
namespace Go.Proofs.YtjcanodnlnodpaaGreatDoor.Parse
open Go.RowKit Go.Maps Go.Proofs.YtjcanodnlnodpaaGreatDoor.Frame Go.Proofs.YtjcanodnlnodpaaGreatDoor.Token Go.Proofs.YtjcanodnlnodpaaGreatDoor.Expr Go.Proofs.YtjcanodnlnodpaaGreatDoor.Calc
set_option linter.unusedVariables false
set_option linter.unusedSimpArgs false

theorem q_num {B p : Nat} {en : Int} {l : List TI} {st : St} {w : World} (h : QS B w p en l st) (hk : (hereF en st).kind = 2) : ∃ (b off c k : Nat) (pl : Int), QAt w p (.slice (some ⟨b, off, none⟩) l.length c) k en 0 pl ∧ k < l.length ∧ l.length ≤ c ∧ c ≤ maxLen ∧ l.length ≤ 1000000000 ∧ b < w.heap.size ∧ w.cell? ⟨b, off + k * 3, none⟩ = some (.int .i64 2) := by
  obtain ⟨t, r, hst⟩ := here_live (.inr hk)
  obtain ⟨⟨hB, hp⟩, a, c, k, er, pl, hq, hT, ⟨z1, z2, z3, z4, z5⟩, hs⟩ := h
  subst hst
  obtain ⟨e1, e2⟩ := hs
  subst e1
  have hkl : k < l.length := drop_lt (by rw [← e2]; exact List.cons_ne_nil _ _)
  obtain ⟨b, off, rfl, hbB, c0, c1, c2⟩ := hT.at hkl
  have hd : l.drop k = l.getD k ti0 :: l.drop (k + 1) := by
    rw [List.drop_eq_getElem_cons hkl, List.getD_eq_getElem?_getD, List.getElem?_eq_getElem hkl]; rfl
  rw [hd] at e2
  injection e2 with e3 e4
  have hk : t.kind = 2 := hk
  rw [← e3, hk] at c0
  exact ⟨b, off, c, k, pl, hq, hkl, z1, z2, z3, by omega, c0⟩
def QNot (w : World) (p : Nat) (en : Int) : Prop := (∃ (lv : Value) (k : Nat) (er pl : Int), QAt w p lv k en er pl ∧ er ≠ 0) ∨ (∃ (a : Option Addr) (n c k : Nat) (pl : Int), QAt w p (.slice a n c) k en 0 pl ∧ n ≤ k) ∨
  ∃ (b off n c k : Nat) (pl kd : Int), QAt w p (.slice (some ⟨b, off, none⟩) n c) k en 0 pl ∧ k < n ∧ n ≤ c ∧ c ≤ maxLen ∧ n ≤ 1000000000 ∧ b < w.heap.size ∧ w.cell? ⟨b, off + k * 3, none⟩ = some (.int .i64 kd) ∧ kd ≠ 2
theorem q_not {B p : Nat} {en : Int} {l : List TI} {st : St} {w : World} (h : QS B w p en l st) (hk : (hereF en st).kind ≠ 2) : QNot w p en := by
  obtain ⟨⟨hB, hp⟩, a, c, k, er, pl, hq, hT, ⟨z1, z2, z3, z4, z5⟩, hs⟩ := h
  cases st with
  | error x => exact .inl ⟨_, k, er, pl, hq, by rw [hs.1]; exact hs.2.2⟩
  | ok r =>
    obtain ⟨e1, e2⟩ := hs
    subst e1 e2
    by_cases hkl : k < l.length
    · obtain ⟨b, off, rfl, hbB, c0, c1, c2⟩ := hT.at hkl
      have hd : l.drop k = l.getD k ti0 :: l.drop (k + 1) := by
        rw [List.drop_eq_getElem_cons hkl, List.getD_eq_getElem?_getD, List.getElem?_eq_getElem hkl]; rfl
      have hh : hereF en (.ok (l.drop k)) = l.getD k ti0 := by rw [hd]; rfl
      rw [hh] at hk
      exact .inr (.inr ⟨b, off, _, c, k, pl, _, hq, hkl, z1, z2, z3, by omega, c0, hk⟩)
    · exact .inr (.inl ⟨a, _, c, k, pl, hq, by omega⟩)
theorem QN.cells {p : Nat} {W : World} {names : List (List UInt8)} (h : QN p W names) : ∃ an cn, W.cell? ⟨p, 10, none⟩ = some (.slice an names.length cn) ∧ (names.length = 0 ∨ ∃ b off, an = some ⟨b, off, none⟩ ∧ b ≠ p ∧ ∀ i, i < names.length → W.cell? ⟨b, off + i, none⟩ = some (.string (str (names.getD i [])))) := h
theorem QS.er {B p : Nat} {en : Int} {l : List TI} {st : St} {w : World} (h : QS B w p en l st) : ∃ er : Int, w.cell? ⟨p, 3, none⟩ = some (.int .i64 er) ∧ ((∃ x, st = .error x ∧ er ≠ 0) ∨ (∃ r, st = .ok r ∧ er = 0)) := by
  obtain ⟨_, a, c, k, er, pl, hq, hT, hz, hs⟩ := h
  refine ⟨er, hq.2.2.2.1, ?_⟩
  cases st with
  | error x => exact .inl ⟨x, rfl, by rw [hs.1]; exact hs.2.2⟩
  | ok r => exact .inr ⟨r, rfl, hs.1⟩
theorem Cq.on1 {B p : Nat} {en : Int} {l : List TI} {t : TI} {r : List TI} {names : List (List UInt8)} {w W : World} (h : Cq B p en l (.ok (t :: r)) names w W) :
    ∃ k : Nat, (W.cell? ⟨p, 1, none⟩ = some (.int .i64 (k : Int)) ∧ W.frozen? ⟨p, 1, none⟩ = false ∧ p < W.heap.size ∧ (k : Int) + 1 < 9223372036854775808) ∧ Cq B p en l (.ok r) names w (W.setCell ⟨p, 1, none⟩ (.int .i64 ((k : Int) + 1))) := by
  obtain ⟨⟨hB, hp⟩, a, c, k, er, pl, hq, hT, hz, e1, e2⟩ := h.1.1
  subst e1
  have hk : k < l.length := drop_lt (by rw [← e2]; exact List.cons_ne_nil _ _)
  obtain ⟨q1, q2⟩ := qadv hB hp hq hT hz hk
  rw [← e2] at q1
  exact ⟨k, ⟨hq.2.1, hq.2.2.2.2.2 1, hp, by have := hz.2.2.1; omega⟩, h.to q1 q2⟩
theorem q_end_not {B p : Nat} {en : Int} {l : List TI} {st : St} {w : World} (h : QS B w p en l st) (hz : ∃ t r, st = .ok (t :: r)) (hq : ∃ (a : Option Addr) (n c k : Nat) (pl : Int), QAt w p (.slice a n c) k en 0 pl ∧ n ≤ k) : False := by
  obtain ⟨t, r, rfl⟩ := hz
  obtain ⟨⟨hB, hp⟩, a, c, k, er, pl, hqa, hT, hzz, e1, e2⟩ := h
  obtain ⟨a', n', c', k', pl', hq', hle⟩ := hq
  have hk : k < l.length := drop_lt (by rw [← e2]; exact List.cons_ne_nil _ _)
  have h0 := hqa.1.symm.trans hq'.1
  have h1 := hqa.2.1.symm.trans hq'.2.1
  simp at h0 h1
  omega
theorem nm_yes {en : Int} {t : TI} {r : List TI} (hk : nameOk t = true) : nmS en (.ok (t :: r)) = (t.text, .ok (t :: r)) := if_pos hk
theorem nm_no {en : Int} {st : St} (hk : nameOk (hereF en st) = false) : nmS en st = ([], failS st (hereF en st).at_ 4) := if_neg (by rw [hk]; decide)

set_option maxRecDepth 100000 in
set_option maxHeartbeats 8000000 in
theorem runary_num (B p d : Nat) (names : List (List UInt8)) (hN : names.length ≤ 3000000) (s : Int) (e0 : Ex) (en : Int) (l : List TI) (st : St) (w : World) (h : QS B w p en l st) (hn : QN p w names) (hd : ¬ 40 < d)
    (hk2 : (hereF en st).kind = 2) (b0 : tookB st [45] = false) (b1 : tookB st [33] = false) (b2 : tookB st [40] = false) (b3 : tookB st [105, 102] = false) :
    Calls Tryz.prog 102 #[ptr p, .int .i64 d] w (QPost B p en l st (peR names 0 s d e0) w) := by
  have RR : Hid (Res en st (peR names 0 s d e0) (numberF en st).2 fun u => u = ⟨1, (numberF en st).1, []⟩) := leaf_res hd b0 b1 b2 b3 (leaf_num en st hk2)
  have HK : Hid ((hereF en st).kind = 2) := hk2
  clear hk2
  have hp := h.1.2
  have hd41 : d ≤ 41 := by omega
  obtain ⟨W0, hW⟩ : ∃ W0, W0 = w.alloc (.cells #[.int .i64 0, .int .i64 0, .slice none 0 0] 40) := ⟨_, rfl⟩
  have H0 : Hid (Cq B p en l st names w W0) := by rw [hW]; exact Cq.start h hn
  have HW : Hid (W0 = _) := hW
  obtain ⟨T, hT⟩ : ∃ T, T = str (peekS st) := ⟨_, rfl⟩
  have hTd : T.data.toList = peekS st := by rw [hT, str_data]
  have CP : Hid (∀ W, QS B W p en l st → Calls Tryz.prog 37 #[.pointer (some ⟨p, 0, none⟩)] W fun e w' => e = .returned (.string T) ∧ Below W.heap.size W w') := fun W hW => by rw [hT]; exact rpeek_any B p en l st W hW
  have hd' : ¬ (40 : Int) < d := by omega
  have t0 : (T.toList == [45]) = false := by rw [took_peek hTd (by decide)]; exact b0
  have t1 : (T.toList == [33]) = false := by rw [took_peek hTd (by decide)]; exact b1
  have t2 : (T.toList == [40]) = false := by rw [took_peek hTd (by decide)]; exact b2
  have t3 : (T.toList == [105, 102]) = false := by rw [took_peek hTd (by decide)]; exact b3
  have B0 : Hid (tookB st [45] = false) := b0
  have B1 : Hid (tookB st [33] = false) := b1
  have B2 : Hid (tookB st [40] = false) := b2
  have B3 : Hid (tookB st [105, 102] = false) := b3
  clear h hn hW hT hTd
  unfold ptr
  go_enter Tryz.func102, Tryz.ntmps102
  go_wp2_with fail
  rw [← HW.out]
  clear HW
  refine (CP.out W0 H0.out.1.1).mono ?_
  rintro e w1 ⟨he, hb⟩
  subst he
  have H1 : Hid (Cq B p en l st names w w1) := H0.out.below hb
  clear hb H0 CP
  clear b0 b1 b2 b3
  obtain ⟨b, off, c, k, pl, ⟨h0, h1, -, h3, -, -⟩, hlt0, hn, hc, hn9, hbw, c0⟩ := q_num H1.out.1.1 HK.out
  have hpw := H1.out.1.1.1.2
  have hlt : (k : Int) < ((l.length : Nat) : Int) := by omega
  go_wp2_with fail
  go_quiet (fail)
  go_wp2_with fail
  generalize hwq : w1.drewN _ = wq
  have hb : Below w1.heap.size w1 wq := by rw [← hwq]; exact below_drewN (Below.refl _ _) _
  have H2 : Hid (Cq B p en l st names w wq) := H1.out.below hb
  clear hb hwq h0 h1 h3 hlt0 hn hc hn9 hbw c0 hpw hlt H1
  refine (rnumber_any B p en l st false wq H2.out.1.1).mono ?_
  rintro e w6 ⟨he, h6, hr6⟩
  have he : e = .returned (.int .i64 (numberF en st).1) := he
  subst he
  have hz := number_in en st
  have HZ : Hid (In64 (numberF en st).1) := ⟨by omega, by omega⟩
  clear hz
  have H6 : Hid (Cq B p en l (numberF en st).2 names w w6) := H2.out.to h6 hr6
  generalize (numberF en st).1 = z at *
  generalize (numberF en st).2 = sf at *
  have hx2 : Hid (XG (fun b _ => w.heap.size + 1 ≤ b) w6 ⟨1, z, []⟩ none) := xg_leaf ⟨by decide, by decide⟩ HZ.out _
  clear h6 hr6 H2
  have FN : Hid (∀ v0 v1 v2 : Value, _) := fun v0 v1 v2 => H6.out.fin hx2.out v0 v1 v2
  obtain ⟨g0, g1, g2, gl⟩ := H6.out.2.1.three
  obtain ⟨f0, f1, f2⟩ := H6.out.2.1.fr
  go_wp2_with fail
  refine bodyPost_ret (v := xV ⟨1, z, []⟩ none 0) ?_ rfl ⟨⟨1, z, []⟩, none, 0, sf, rfl, (FN.out _ _ _).1, (FN.out _ _ _).2.1, (FN.out _ _ _).2.2, RR.out⟩
  simp [results, Tryz.results102, go_sem, g0, g1, g2]

set_option maxRecDepth 100000 in
set_option maxHeartbeats 8000000 in
theorem runary_bad (B p d : Nat) (names : List (List UInt8)) (hN : names.length ≤ 3000000) (s : Int) (e0 : Ex) (en : Int) (l : List TI) (st : St) (w : World) (h : QS B w p en l st) (hn : QN p w names) (hd : ¬ 40 < d)
    (hk2 : (hereF en st).kind ≠ 2) (hnb : nameOk (hereF en st) = false) (b0 : tookB st [45] = false) (b1 : tookB st [33] = false) (b2 : tookB st [40] = false) (b3 : tookB st [105, 102] = false) :
    Calls Tryz.prog 102 #[ptr p, .int .i64 d] w (QPost B p en l st (peR names 0 s d e0) w) := by
  have RR0 : Hid (Res en st (peR names 0 s d e0) (knownF en (nameAt names) st) fun u => u = ⟨2, (((nameAt names (nameF en st).1).getD 0 : Nat) : Int), []⟩) := leaf_res hd b0 b1 b2 b3 (leaf_name rfl en st hk2)
  have HK : Hid ((hereF en st).kind ≠ 2) := hk2
  have NB : Hid (nameOk (hereF en st) = false) := hnb
  clear hk2 hnb
  have hp := h.1.2
  have hd41 : d ≤ 41 := by omega
  obtain ⟨W0, hW⟩ : ∃ W0, W0 = w.alloc (.cells #[.int .i64 0, .int .i64 0, .slice none 0 0] 40) := ⟨_, rfl⟩
  have H0 : Hid (Cq B p en l st names w W0) := by rw [hW]; exact Cq.start h hn
  have HW : Hid (W0 = _) := hW
  obtain ⟨T, hT⟩ : ∃ T, T = str (peekS st) := ⟨_, rfl⟩
  have hTd : T.data.toList = peekS st := by rw [hT, str_data]
  have CP : Hid (∀ W, QS B W p en l st → Calls Tryz.prog 37 #[.pointer (some ⟨p, 0, none⟩)] W fun e w' => e = .returned (.string T) ∧ Below W.heap.size W w') := fun W hW => by rw [hT]; exact rpeek_any B p en l st W hW
  have hd' : ¬ (40 : Int) < d := by omega
  have t0 : (T.toList == [45]) = false := by rw [took_peek hTd (by decide)]; exact b0
  have t1 : (T.toList == [33]) = false := by rw [took_peek hTd (by decide)]; exact b1
  have t2 : (T.toList == [40]) = false := by rw [took_peek hTd (by decide)]; exact b2
  have t3 : (T.toList == [105, 102]) = false := by rw [took_peek hTd (by decide)]; exact b3
  have B0 : Hid (tookB st [45] = false) := b0
  have B1 : Hid (tookB st [33] = false) := b1
  have B2 : Hid (tookB st [40] = false) := b2
  have B3 : Hid (tookB st [105, 102] = false) := b3
  clear h hn hW hT hTd
  unfold ptr
  go_enter Tryz.func102, Tryz.ntmps102
  go_wp2_with fail
  rw [← HW.out]
  clear HW
  refine (CP.out W0 H0.out.1.1).mono ?_
  rintro e w1 ⟨he, hb⟩
  subst he
  have H1 : Hid (Cq B p en l st names w w1) := H0.out.below hb
  clear hb H0 CP
  clear b0 b1 b2 b3
  have hqn := q_not H1.out.1.1 HK.out
  rcases hqn with hq | hq | hq
  · obtain ⟨lv, k, er, pl, ⟨h0, h1, -, h3, -, -⟩, hne⟩ := hq
    have he' : (er == 0) = false := by simpa using hne
    clear hne
    have hpw := H1.out.1.1.1.2
    go_wp2_with fail
    go_quiet (fail)
    go_wp2_with fail
    generalize hwq : w1.drewN _ = wq
    have hb : Below w1.heap.size w1 wq := by rw [← hwq]; exact below_drewN (Below.refl _ _) _
    have H2 : Hid (Cq B p en l st names w wq) := H1.out.below hb
    clear hb hwq h0 h1 h3 hpw H1 he'
    refine (rname_any B p en l st wq H2.out.1.1).mono ?_
    rintro e w6 ⟨he, h6, hr6⟩
    rw [nm_no NB.out] at he h6
    have he : e = .returned (.string (str [])) := he
    subst he
    obtain ⟨ex, hf, hkn⟩ := kn_bad (f := nameAt names) NB.out
    have h6 : QS B w6 p en l (failS st (hereF en st).at_ 4) := h6
    rw [hf] at h6
    have RR : Hid (∀ P, Res en st (peR names 0 s d e0) (.error ex) P) := fun P => by have := RR0.out; rw [hkn] at this; exact res_err this
    have H6 : Hid (Cq B p en l (.error ex) names w w6) := H2.out.to h6 hr6
    clear h6 hr6 H2 hf hkn RR0
    obtain ⟨er, h3, hs3⟩ := H6.out.1.1.er
    have hne : (er == 0) = false := by
      rcases hs3 with ⟨x, _, hx⟩ | ⟨r, hx, _⟩
      · simpa using hx
      · cases hx
    clear hs3
    obtain ⟨an, cn, h10, -⟩ := H6.out.1.2.1.cells
    have hpw := H6.out.1.1.1.2
    go_wp2_with fail
    go_loopw [10] (fun i wr => i = .int .i64 0 ∧ wr = w6) (fun _ _ => 0)
    case atStart => exact ⟨rfl, rfl⟩
    case round =>
      obtain ⟨rfl, rfl⟩ := hrel
      go_wp2_with fail
      all_goals
        refine (rfail_any B p en l (.error ex) 3 _ H6.out.1.1 (by decide)).mono ?_
        rintro e w7 ⟨he, h7, hr7⟩
        subst he
        have H7 : Hid (Cq B p en l (.error ex) names w w7) := H6.out.to h7 hr7
        have hx2 : Hid (XG (fun b _ => w.heap.size + 1 ≤ b) w7 ⟨0, 0, []⟩ none) := xg_leaf ⟨by decide, by decide⟩ ⟨by decide, by decide⟩ _
        clear h7 hr7 H6 h3 hne h10 hpw
        have FN : Hid (∀ v0 v1 v2 : Value, _) := fun v0 v1 v2 => H7.out.fin hx2.out v0 v1 v2
        obtain ⟨g0, g1, g2, gl⟩ := H7.out.2.1.three
        obtain ⟨f0, f1, f2⟩ := H7.out.2.1.fr
        go_wp2_with fail
        refine bodyPost_ret (v := xV ⟨0, 0, []⟩ none 0) ?_ rfl ⟨⟨0, 0, []⟩, none, 0, .error ex, rfl, (FN.out _ _ _).1, (FN.out _ _ _).2.1, (FN.out _ _ _).2.2, RR.out _⟩
        simp [results, Tryz.results102, go_sem, g0, g1, g2]
  · obtain ⟨a, n, c, k, pl, ⟨h0, h1, -, h3, -, -⟩, hk⟩ := hq
    have hge : ¬ (k : Int) < ((n : Nat) : Int) := by omega
    have hdk : decide (k < n) = false := decide_eq_false (by omega)
    clear hk
    have hpw := H1.out.1.1.1.2
    go_wp2_with fail
    go_quiet (fail)
    go_wp2_with fail
    generalize hwq : w1.drewN _ = wq
    have hb : Below w1.heap.size w1 wq := by rw [← hwq]; exact below_drewN (Below.refl _ _) _
    have H2 : Hid (Cq B p en l st names w wq) := H1.out.below hb
    clear hb hwq h0 h1 h3 hpw H1 hge hdk
    refine (rname_any B p en l st wq H2.out.1.1).mono ?_
    rintro e w6 ⟨he, h6, hr6⟩
    rw [nm_no NB.out] at he h6
    have he : e = .returned (.string (str [])) := he
    subst he
    obtain ⟨ex, hf, hkn⟩ := kn_bad (f := nameAt names) NB.out
    have h6 : QS B w6 p en l (failS st (hereF en st).at_ 4) := h6
    rw [hf] at h6
    have RR : Hid (∀ P, Res en st (peR names 0 s d e0) (.error ex) P) := fun P => by have := RR0.out; rw [hkn] at this; exact res_err this
    have H6 : Hid (Cq B p en l (.error ex) names w w6) := H2.out.to h6 hr6
    clear h6 hr6 H2 hf hkn RR0
    obtain ⟨er, h3, hs3⟩ := H6.out.1.1.er
    have hne : (er == 0) = false := by
      rcases hs3 with ⟨x, _, hx⟩ | ⟨r, hx, _⟩
      · simpa using hx
      · cases hx
    clear hs3
    obtain ⟨an, cn, h10, -⟩ := H6.out.1.2.1.cells
    have hpw := H6.out.1.1.1.2
    go_wp2_with fail
    go_loopw [10] (fun i wr => i = .int .i64 0 ∧ wr = w6) (fun _ _ => 0)
    case atStart => exact ⟨rfl, rfl⟩
    case round =>
      obtain ⟨rfl, rfl⟩ := hrel
      go_wp2_with fail
      all_goals
        refine (rfail_any B p en l (.error ex) 3 _ H6.out.1.1 (by decide)).mono ?_
        rintro e w7 ⟨he, h7, hr7⟩
        subst he
        have H7 : Hid (Cq B p en l (.error ex) names w w7) := H6.out.to h7 hr7
        have hx2 : Hid (XG (fun b _ => w.heap.size + 1 ≤ b) w7 ⟨0, 0, []⟩ none) := xg_leaf ⟨by decide, by decide⟩ ⟨by decide, by decide⟩ _
        clear h7 hr7 H6 h3 hne h10 hpw
        have FN : Hid (∀ v0 v1 v2 : Value, _) := fun v0 v1 v2 => H7.out.fin hx2.out v0 v1 v2
        obtain ⟨g0, g1, g2, gl⟩ := H7.out.2.1.three
        obtain ⟨f0, f1, f2⟩ := H7.out.2.1.fr
        go_wp2_with fail
        refine bodyPost_ret (v := xV ⟨0, 0, []⟩ none 0) ?_ rfl ⟨⟨0, 0, []⟩, none, 0, .error ex, rfl, (FN.out _ _ _).1, (FN.out _ _ _).2.1, (FN.out _ _ _).2.2, RR.out _⟩
        simp [results, Tryz.results102, go_sem, g0, g1, g2]
  · obtain ⟨b, off, n, c, k, pl, kd, ⟨h0, h1, -, h3, -, -⟩, hk, hn, hc, hn9, hbw, c0, h1k⟩ := hq
    have hlt : (k : Int) < (n : Nat) := by omega
    have h1' : (kd == 2) = false := by simpa using h1k
    clear h1k
    have hpw := H1.out.1.1.1.2
    go_wp2_with fail
    go_quiet (fail)
    go_wp2_with fail
    generalize hwq : w1.drewN _ = wq
    have hb : Below w1.heap.size w1 wq := by rw [← hwq]; exact below_drewN (Below.refl _ _) _
    have H2 : Hid (Cq B p en l st names w wq) := H1.out.below hb
    clear hb hwq h0 h1 h3 hpw H1 hk hn hc hn9 hbw c0 hlt h1'
    refine (rname_any B p en l st wq H2.out.1.1).mono ?_
    rintro e w6 ⟨he, h6, hr6⟩
    rw [nm_no NB.out] at he h6
    have he : e = .returned (.string (str [])) := he
    subst he
    obtain ⟨ex, hf, hkn⟩ := kn_bad (f := nameAt names) NB.out
    have h6 : QS B w6 p en l (failS st (hereF en st).at_ 4) := h6
    rw [hf] at h6
    have RR : Hid (∀ P, Res en st (peR names 0 s d e0) (.error ex) P) := fun P => by have := RR0.out; rw [hkn] at this; exact res_err this
    have H6 : Hid (Cq B p en l (.error ex) names w w6) := H2.out.to h6 hr6
    clear h6 hr6 H2 hf hkn RR0
    obtain ⟨er, h3, hs3⟩ := H6.out.1.1.er
    have hne : (er == 0) = false := by
      rcases hs3 with ⟨x, _, hx⟩ | ⟨r, hx, _⟩
      · simpa using hx
      · cases hx
    clear hs3
    obtain ⟨an, cn, h10, -⟩ := H6.out.1.2.1.cells
    have hpw := H6.out.1.1.1.2
    go_wp2_with fail
    go_loopw [10] (fun i wr => i = .int .i64 0 ∧ wr = w6) (fun _ _ => 0)
    case atStart => exact ⟨rfl, rfl⟩
    case round =>
      obtain ⟨rfl, rfl⟩ := hrel
      go_wp2_with fail
      all_goals
        refine (rfail_any B p en l (.error ex) 3 _ H6.out.1.1 (by decide)).mono ?_
        rintro e w7 ⟨he, h7, hr7⟩
        subst he
        have H7 : Hid (Cq B p en l (.error ex) names w w7) := H6.out.to h7 hr7
        have hx2 : Hid (XG (fun b _ => w.heap.size + 1 ≤ b) w7 ⟨0, 0, []⟩ none) := xg_leaf ⟨by decide, by decide⟩ ⟨by decide, by decide⟩ _
        clear h7 hr7 H6 h3 hne h10 hpw
        have FN : Hid (∀ v0 v1 v2 : Value, _) := fun v0 v1 v2 => H7.out.fin hx2.out v0 v1 v2
        obtain ⟨g0, g1, g2, gl⟩ := H7.out.2.1.three
        obtain ⟨f0, f1, f2⟩ := H7.out.2.1.fr
        go_wp2_with fail
        refine bodyPost_ret (v := xV ⟨0, 0, []⟩ none 0) ?_ rfl ⟨⟨0, 0, []⟩, none, 0, .error ex, rfl, (FN.out _ _ _).1, (FN.out _ _ _).2.1, (FN.out _ _ _).2.2, RR.out _⟩
        simp [results, Tryz.results102, go_sem, g0, g1, g2]

set_option maxRecDepth 100000 in
set_option maxHeartbeats 8000000 in
theorem runary_good (B p d : Nat) (names : List (List UInt8)) (hN : names.length ≤ 3000000) (s : Int) (e0 : Ex) (en : Int) (l : List TI) (st : St) (w : World) (h : QS B w p en l st) (hn : QN p w names) (hd : ¬ 40 < d)
    (hk2 : (hereF en st).kind ≠ 2) (hnb : nameOk (hereF en st) = true) (b0 : tookB st [45] = false) (b1 : tookB st [33] = false) (b2 : tookB st [40] = false) (b3 : tookB st [105, 102] = false) :
    Calls Tryz.prog 102 #[ptr p, .int .i64 d] w (QPost B p en l st (peR names 0 s d e0) w) := by
  have RR0 : Hid (Res en st (peR names 0 s d e0) (knownF en (nameAt names) st) fun u => u = ⟨2, (((nameAt names (nameF en st).1).getD 0 : Nat) : Int), []⟩) := leaf_res hd b0 b1 b2 b3 (leaf_name rfl en st hk2)
  have HK : Hid ((hereF en st).kind ≠ 2) := hk2
  have NB : Hid (nameOk (hereF en st) = true) := hnb
  clear hk2 hnb
  have hp := h.1.2
  have hd41 : d ≤ 41 := by omega
  obtain ⟨W0, hW⟩ : ∃ W0, W0 = w.alloc (.cells #[.int .i64 0, .int .i64 0, .slice none 0 0] 40) := ⟨_, rfl⟩
  have H0 : Hid (Cq B p en l st names w W0) := by rw [hW]; exact Cq.start h hn
  have HW : Hid (W0 = _) := hW
  obtain ⟨T, hT⟩ : ∃ T, T = str (peekS st) := ⟨_, rfl⟩
  have hTd : T.data.toList = peekS st := by rw [hT, str_data]
  have CP : Hid (∀ W, QS B W p en l st → Calls Tryz.prog 37 #[.pointer (some ⟨p, 0, none⟩)] W fun e w' => e = .returned (.string T) ∧ Below W.heap.size W w') := fun W hW => by rw [hT]; exact rpeek_any B p en l st W hW
  have hd' : ¬ (40 : Int) < d := by omega
  have t0 : (T.toList == [45]) = false := by rw [took_peek hTd (by decide)]; exact b0
  have t1 : (T.toList == [33]) = false := by rw [took_peek hTd (by decide)]; exact b1
  have t2 : (T.toList == [40]) = false := by rw [took_peek hTd (by decide)]; exact b2
  have t3 : (T.toList == [105, 102]) = false := by rw [took_peek hTd (by decide)]; exact b3
  have B0 : Hid (tookB st [45] = false) := b0
  have B1 : Hid (tookB st [33] = false) := b1
  have B2 : Hid (tookB st [40] = false) := b2
  have B3 : Hid (tookB st [105, 102] = false) := b3
  clear h hn hW hT hTd
  unfold ptr
  go_enter Tryz.func102, Tryz.ntmps102
  go_wp2_with fail
  rw [← HW.out]
  clear HW
  refine (CP.out W0 H0.out.1.1).mono ?_
  rintro e w1 ⟨he, hb⟩
  subst he
  have H1 : Hid (Cq B p en l st names w w1) := H0.out.below hb
  clear hb H0 CP
  clear b0 b1 b2 b3
  have hqn := q_not H1.out.1.1 HK.out
  rcases hqn with hq | hq | hq
  · exfalso
    obtain ⟨lv, k, er, pl, hqa, hne⟩ := hq
    obtain ⟨t, r, hst⟩ := here_live (.inl NB.out)
    obtain ⟨er', h3', hs3⟩ := H1.out.1.1.er
    rcases hs3 with ⟨x, hx, _⟩ | ⟨r, _, hx⟩
    · rw [hst] at hx; cases hx
    · have := hqa.2.2.2.1.symm.trans h3'
      simp at this
      exact hne (this.trans hx)
  · exfalso
    have hz := here_live (.inl NB.out)
    exact q_end_not H1.out.1.1 hz hq
  · obtain ⟨b, off, n, c, k, pl, kd, ⟨h0, h1, -, h3, -, -⟩, hk, hn, hc, hn9, hbw, c0, h1k⟩ := hq
    have hlt : (k : Int) < (n : Nat) := by omega
    have h1' : (kd == 2) = false := by simpa using h1k
    clear h1k
    have hpw := H1.out.1.1.1.2
    go_wp2_with fail
    go_quiet (fail)
    go_wp2_with fail
    generalize hwq : w1.drewN _ = wq
    have hb : Below w1.heap.size w1 wq := by rw [← hwq]; exact below_drewN (Below.refl _ _) _
    have H2 : Hid (Cq B p en l st names w wq) := H1.out.below hb
    clear hb hwq h0 h1 h3 hpw H1 hk hn hc hn9 hbw c0 hlt h1'
    obtain ⟨t, r, hst⟩ := here_live (.inl NB.out)
    subst hst
    have NT : Hid (nameOk t = true) := NB.out
    refine (rname_any B p en l _ wq H2.out.1.1).mono ?_
    rintro e w6 ⟨he, h6, hr6⟩
    rw [nm_yes NT.out] at he h6
    have he : e = .returned (.string (str t.text)) := he
    subst he
    have h6 : QS B w6 p en l (.ok (t :: r)) := h6
    have H6 : Hid (Cq B p en l (.ok (t :: r)) names w w6) := H2.out.to h6 hr6
    clear h6 hr6 H2
    obtain ⟨er, h3, hs3⟩ := H6.out.1.1.er
    have hne : er = 0 := by
      rcases hs3 with ⟨x, hx, _⟩ | ⟨r, _, hx⟩
      · cases hx
      · exact hx
    subst hne
    clear hs3
    obtain ⟨an, cn, h10, hNC⟩ := H6.out.1.2.1.cells
    have HNC : Hid (_ ∨ _) := hNC
    have HN : Hid (names.length ≤ 3000000) := hN
    clear hNC
    have hpw := H6.out.1.1.1.2
    obtain ⟨T, hT⟩ : ∃ T, T = str t.text := ⟨_, rfl⟩
    have HT : Hid (T = str t.text) := hT
    rw [← hT]
    clear hT
    go_wp2_with fail
    go_loopw [10] (fun i wr => ∃ j : Nat, j ≤ names.length ∧ i = .int .i64 j ∧ Hid (∀ x, x < j → names.getD x [] ≠ t.text) ∧ wr = w6) (fun i _ => names.length - (intOf i).toNat)
    case atStart => exact ⟨0, by omega, rfl, fun x h => by omega, rfl⟩
    case round =>
      obtain ⟨j, hj, rfl, hno, rfl⟩ := hrel
      by_cases hlt : j < names.length
      · have hlt' : (j : Int) < ((names.length : Nat) : Int) := by omega
        obtain ⟨b, off, ha, hbp, hc⟩ : ∃ b off, an = some ⟨b, off, none⟩ ∧ b ≠ p ∧ ∀ i, i < names.length → wr.cell? ⟨b, off + i, none⟩ = some (.string (str (names.getD i []))) := by
          rcases HNC.out with g | g
          · rw [g] at hlt; cases hlt
          · exact g
        subst ha
        have cj := hc j hlt
        have hbw : b < wr.heap.size := World.block_lt_of_cell? _ _ cj
        obtain ⟨S, hS⟩ : ∃ S, S = str (names.getD j []) := ⟨_, rfl⟩
        have HS : Hid (S = str (names.getD j [])) := hS
        rw [← hS] at cj
        clear hS hc hbp
        cases hq : (S.toList == T.toList) with
        | true =>
          have hm : names.getD j [] = t.text := by
            have := beq_iff_eq.1 hq
            rw [HS.out, HT.out, Go.ByteArray.toList_eq, Go.ByteArray.toList_eq, str_data, str_data] at this
            exact this
          obtain ⟨kn1, kn2⟩ := kn_yes (en := en) (r := r) NT.out hlt hno.out hm
          have RR : Hid (Res en (.ok (t :: r)) (peR names 0 s d e0) (.ok r) fun u => u = ⟨2, (j : Int), []⟩) := by have := RR0.out; rw [kn1, kn2] at this; exact this
          have hj64 : Hid (In64 (j : Int)) := by have := HN.out; exact ⟨by omega, by omega⟩
          obtain ⟨k, ⟨k0, k1, k2, k3⟩, hC7⟩ := H6.out.on1
          obtain ⟨W7, hW7⟩ : ∃ W7, W7 = wr.setCell ⟨p, 1, none⟩ (.int .i64 ((k : Int) + 1)) := ⟨_, rfl⟩
          have H7 : Hid (Cq B p en l (.ok r) names w W7) := by rw [hW7]; exact hC7
          have HW7 : Hid (W7 = _) := hW7
          have hx2 : Hid (XG (fun b _ => w.heap.size + 1 ≤ b) W7 ⟨2, (j : Int), []⟩ none) := xg_leaf ⟨by decide, by decide⟩ hj64.out _
          have FN : Hid (∀ v0 v1 v2 : Value, _) := fun v0 v1 v2 => H7.out.fin hx2.out v0 v1 v2
          obtain ⟨g0, g1, g2, gl⟩ := H7.out.2.1.three
          obtain ⟨f0, f1, f2⟩ := H7.out.2.1.fr
          clear hC7 hW7 hm kn1 kn2 hx2 RR0
          rw [HW7.out] at g0 g1 g2 gl f0 f1 f2 FN
          go_wp2_with fail
          refine bodyPost_ret (v := xV ⟨2, (j : Int), []⟩ none 0) ?_ rfl ⟨⟨2, (j : Int), []⟩, none, 0, .ok r, rfl, (FN.out _ _ _).1, (FN.out _ _ _).2.1, (FN.out _ _ _).2.2, RR.out⟩
          simp [results, Tryz.results102, go_sem, g0, g1, g2]
        | false =>
          have hno' : Hid (∀ x, x < j + 1 → names.getD x [] ≠ t.text) := fun x hx => by
            rcases Nat.lt_or_ge x j with h | h
            · exact hno.out x h
            · obtain rfl : x = j := by omega
              intro e
              rw [HS.out, HT.out, e] at hq
              simp at hq
          go_wp2_with fail
          go_roundw
          case rel => exact ⟨j + 1, by omega, by go_num, hno', by first | rfl | trivial⟩
          case measure => simp [intOf]; omega
      · have hge' : ¬ (j : Int) < ((names.length : Nat) : Int) := by omega
        have hkn := kn_no (en := en) (names := names) (r := r) NT.out (fun x hx => hno.out x (by omega))
        have RR : Hid (∀ P, Res en (.ok (t :: r)) (peR names 0 s d e0) (.error (t.at_, 3)) P) := fun P => by have := RR0.out; rw [hkn] at this; exact res_err this
        clear hkn RR0
        go_wp2_with fail
        refine (rfail_any B p en l (.ok (t :: r)) 3 _ H6.out.1.1 (by decide)).mono ?_
        rintro e w7 ⟨he, h7, hr7⟩
        subst he
        have h7 : QS B w7 p en l (.error (t.at_, 3)) := h7
        have H7 : Hid (Cq B p en l (.error (t.at_, 3)) names w w7) := H6.out.to h7 hr7
        have hx2 : Hid (XG (fun b _ => w.heap.size + 1 ≤ b) w7 ⟨0, 0, []⟩ none) := xg_leaf ⟨by decide, by decide⟩ ⟨by decide, by decide⟩ _
        clear h7 hr7 H6 h3 h10 hpw
        have FN : Hid (∀ v0 v1 v2 : Value, _) := fun v0 v1 v2 => H7.out.fin hx2.out v0 v1 v2
        obtain ⟨g0, g1, g2, gl⟩ := H7.out.2.1.three
        obtain ⟨f0, f1, f2⟩ := H7.out.2.1.fr
        go_wp2_with fail
        refine bodyPost_ret (v := xV ⟨0, 0, []⟩ none 0) ?_ rfl ⟨⟨0, 0, []⟩, none, 0, .error (t.at_, 3), rfl, (FN.out _ _ _).1, (FN.out _ _ _).2.1, (FN.out _ _ _).2.2, RR.out _⟩
        simp [results, Tryz.results102, go_sem, g0, g1, g2]

set_option maxRecDepth 100000 in
set_option maxHeartbeats 8000000 in
theorem runary_deep (B p d : Nat) (names : List (List UInt8)) (hN : names.length ≤ 3000000) (s : Int) (e0 : Ex) (en : Int) (l : List TI) (st : St) (w : World) (h : QS B w p en l st) (hn : QN p w names) (hd : 40 < d) :
    Calls Tryz.prog 102 #[ptr p, .int .i64 d] w (QPost B p en l st (peR names 0 s d e0) w) := by
  have hp := h.1.2
  obtain ⟨W0, hW⟩ : ∃ W0, W0 = w.alloc (.cells #[.int .i64 0, .int .i64 0, .slice none 0 0] 40) := ⟨_, rfl⟩
  have H0 : Hid (Cq B p en l st names w W0) := by rw [hW]; exact Cq.start h hn
  have HW : Hid (W0 = _) := hW
  have hd' : (40 : Int) < d := by omega
  have RR : Hid (∀ P, Res en st (peR names 0 s d e0) (failS st (hereF en st).at_ 2) P) := fun P => deep_res hd
  clear h hn hW hd
  unfold ptr
  go_enter Tryz.func102, Tryz.ntmps102
  go_wp2_with fail
  rw [← HW.out]
  clear HW
  refine (rfail_any B p en l st 2 _ H0.out.1.1 (by decide)).mono ?_
  rintro e w7 ⟨he, h7, hr7⟩
  subst he
  have H7 : Hid (Cq B p en l (failS st (hereF en st).at_ 2) names w w7) := H0.out.to h7 hr7
  have hx2 : Hid (XG (fun b _ => w.heap.size + 1 ≤ b) w7 ⟨0, 0, []⟩ none) := xg_leaf ⟨by decide, by decide⟩ ⟨by decide, by decide⟩ _
  clear h7 hr7 H0
  have FN : Hid (∀ v0 v1 v2 : Value, _) := fun v0 v1 v2 => H7.out.fin hx2.out v0 v1 v2
  obtain ⟨g0, g1, g2, gl⟩ := H7.out.2.1.three
  obtain ⟨f0, f1, f2⟩ := H7.out.2.1.fr
  go_wp2_with fail
  refine bodyPost_ret (v := xV ⟨0, 0, []⟩ none 0) ?_ rfl ⟨⟨0, 0, []⟩, none, 0, _, rfl, (FN.out _ _ _).1, (FN.out _ _ _).2.1, (FN.out _ _ _).2.2, RR.out _⟩
  simp [results, Tryz.results102, go_sem, g0, g1, g2]

theorem runary_all (B p d : Nat) (names : List (List UInt8)) (hN : names.length ≤ 3000000) (s : Int) (e0 : Ex) (en : Int) (l : List TI) (st : St) (w : World) (h : QS B w p en l st) (hn : QN p w names)
    (hU : ¬ 40 < d → ∀ W s', QS B W p en l s' → QN p W names → Calls Tryz.prog 102 #[ptr p, .int .i64 ((d : Int) + 1)] W (QPost B p en l s' (peR names 0 s (d + 1) e0) W))
    (hE : ¬ 40 < d → ∀ W s', QS B W p en l s' → QN p W names → Calls Tryz.prog 51 #[ptr p, .int .i64 0, .int .i64 ((d : Int) + 1)] W (QPost B p en l s' (peR names 1 0 (d + 1) e0) W)) :
    Calls Tryz.prog 102 #[ptr p, .int .i64 d] w (QPost B p en l st (peR names 0 s d e0) w) := by
  by_cases hd : 40 < d
  · exact runary_deep B p d names hN s e0 en l st w h hn hd
  cases b0 : tookB st [45] with
  | true => exact runary_neg B p d names hN s e0 en l st w h hn hd (hU hd) b0
  | false =>
    cases b1 : tookB st [33] with
    | true => exact runary_not B p d names hN s e0 en l st w h hn hd (hU hd) b0 b1
    | false =>
      cases b2 : tookB st [40] with
      | true => exact runary_par B p d names hN s e0 en l st w h hn hd (hE hd) b0 b1 b2
      | false =>
        cases b3 : tookB st [105, 102] with
        | true => exact runary_if B p d names hN s e0 en l st w h hn hd (hE hd) b0 b1 b2 b3
        | false =>
          by_cases hk : (hereF en st).kind = 2
          · exact runary_num B p d names hN s e0 en l st w h hn hd hk b0 b1 b2 b3
          · cases hb : nameOk (hereF en st) with
            | true => exact runary_good B p d names hN s e0 en l st w h hn hd hk hb b0 b1 b2 b3
            | false => exact runary_bad B p d names hN s e0 en l st w h hn hd hk hb b0 b1 b2 b3
end Go.Proofs.YtjcanodnlnodpaaGreatDoor.Parse
