/- Contracts and plain mathematics, together: TokPlain, TokRun, TokWord. -/
import Derived.Test.YtgdkomkflfodaaaGreatMaA
import Derived.Lib.AtoiAllCases
import Derived.Test.YtgdkomkflfodaaaGreatMaC
import Derived.WalkKit
import Derived.WalkSpells
import Derived.WalkLawsBesides
/- The plain mathematics of layer 5: how a text is cut. No program stands in it. -/
namespace Go.Proofs.YtgdkomkflfodaaaGreat.Token
open Go.Proofs.YtgdkomkflfodaaaGreat.Colour
set_option linter.unusedVariables false
set_option linter.unusedSimpArgs false
def let8 (c : UInt8) : Bool := letB c.toNat
def dig8 (c : UInt8) : Bool := digB c.toNat
def ok8 (c : UInt8) : Bool := okB c.toNat
def blk8 (c : UInt8) : Bool := c.toNat == 32 || c.toNat == 9 || c.toNat == 10 || c.toNat == 13
/-- behind blanks and comments; the flag: within a comment -/
def gapL : Bool → List UInt8 → List UInt8
  | _, [] => []
  | false, c :: r => if blk8 c then gapL false r else if c.toNat = 35 then gapL true r else c :: r
  | true, c :: r => if c.toNat = 10 then gapL false r else gapL true r
/-- how many bytes from the first on are such ones -/
def runL (p : UInt8 → Bool) (r : List UInt8) : Nat := (r.takeWhile p).length
def signsL : List (List UInt8) := [[59], [58], [61], [44], [40], [41], [123], [125], [46, 46], [42], [43], [45], [47], [37], [61, 61], [33, 61], [60], [60, 61], [38, 38], [124, 124], [33]]
/-- the longest of these with which a text begins -/
def best : List (List UInt8) → List UInt8 → Nat
  | [], _ => 0
  | t :: ts, r => max (if t.isPrefixOf r then t.length else 0) (best ts r)
def valL : Nat → List UInt8 → Nat
  | a, [] => a
  | a, c :: r => valL (a * 10 + (c.toNat - 48)) r
def zero8 (d : List UInt8) : Bool := decide (1 < d.length) && (d.headD 0).toNat == 48
/-- a number -/
def numB (d : List UInt8) : Bool := decide (0 < d.length) && d.all dig8 && !zero8 d && decide (valL 0 d < 9223372036854775808)
/-- a name -/
def nmB (d : List UInt8) : Bool := decide (1 ≤ d.length) && decide (d.length ≤ 32) && let8 (d.headD 0) && d.all ok8
/-- the token with which a text begins: its kind, its length; or the error -/
def pieceL (r : List UInt8) : Int × Nat × Int :=
  if let8 (r.headD 0) then (if 32 < runL ok8 r then (0, 0, 2) else (1, runL ok8 r, 0))
  else if dig8 (r.headD 0) then
    (if zero8 (r.takeWhile dig8) || ok8 ((r.drop (runL dig8 r)).headD 0) then (0, 0, 4)
     else if numB (r.takeWhile dig8) then (2, runL dig8 r, 0) else (0, 0, 6))
  else if best signsL r = 0 then (0, 0, 4) else (3, best signsL r, 0)
structure Tok where
  kind : Int
  text : List UInt8
  at_ : Nat
abbrev Lexed := List Tok × Nat × Int
def before (acc : List Tok) (x : Lexed) : Lexed := if x.2.2 = 0 then (acc ++ x.1, x.2.1, 0) else ([], x.2.1, x.2.2)
def lexL : Nat → Nat → List UInt8 → Lexed
  | 0, n, _ => ([], n, 0)
  | f + 1, n, r =>
    if r = [] then ([], n, 0)
    else if (pieceL r).2.2 = 0 then before [⟨(pieceL r).1, r.take (pieceL r).2.1, n - r.length⟩] (lexL f n (gapL false (r.drop (pieceL r).2.1)))
    else ([], n - r.length, (pieceL r).2.2)
def lexF (l : List UInt8) : Lexed := if 16384 < l.length then ([], 0, 2) else lexL l.length l.length (gapL false l)
def joinL : List Tok → List UInt8
  | [] => []
  | [t] => t.text
  | t :: u :: l => t.text ++ 32 :: joinL (u :: l)

/- runs -/
theorem run_take {p : UInt8 → Bool} : ∀ {r : List UInt8}, r.take (runL p r) = r.takeWhile p
  | [] => rfl
  | c :: r => by
    unfold runL
    cases h : p c with
    | false => simp [List.takeWhile_cons, h]
    | true => simp only [List.takeWhile_cons, h, if_true, List.length_cons, List.take_succ_cons]; congr 1; exact run_take
theorem run_le {p : UInt8 → Bool} {r : List UInt8} : runL p r ≤ r.length := by
  unfold runL
  induction r with
  | nil => simp
  | cons c r ih => rw [List.takeWhile_cons]; split <;> simp; omega
theorem run_pos {p : UInt8 → Bool} {r : List UInt8} (h : r ≠ []) (hp : p (r.headD 0) = true) : 0 < runL p r := by
  cases r with
  | nil => exact absurd rfl h
  | cons c r => unfold runL; rw [List.takeWhile_cons, if_pos (show p c = true from hp)]; simp
theorem run_all {p : UInt8 → Bool} {r : List UInt8} (h : r.all p = true) : r.takeWhile p = r := by
  induction r with
  | nil => rfl
  | cons c r ih => simp only [List.all_cons, Bool.and_eq_true] at h; rw [List.takeWhile_cons, if_pos h.1, ih h.2]
theorem all_run {p : UInt8 → Bool} {r : List UInt8} : (r.takeWhile p).all p = true := by
  induction r with
  | nil => rfl
  | cons c r ih => rw [List.takeWhile_cons]; split <;> simp_all
theorem run_stop {p : UInt8 → Bool} {c : UInt8} (hc : p c = false) (r x : List UInt8) : (r ++ c :: x).takeWhile p = r.takeWhile p := by
  induction r with
  | nil => simp [List.takeWhile_cons, hc]
  | cons d r ih => rw [List.cons_append, List.takeWhile_cons, List.takeWhile_cons, ih]
theorem run_next {p : UInt8 → Bool} {r : List UInt8} : (r.drop (runL p r)) = [] ∨ p ((r.drop (runL p r)).headD 0) = false := by
  induction r with
  | nil => exact .inl rfl
  | cons c r ih =>
    unfold runL at *
    cases h : p c with
    | false => exact .inr (by simp [List.takeWhile_cons, h])
    | true => simpa [List.takeWhile_cons, h] using ih
theorem headD_take {r : List UInt8} {m : Nat} (h : 0 < m) : (r.take m).headD 0 = r.headD 0 := by
  cases r with
  | nil => simp
  | cons c r => cases m with
    | zero => omega
    | succ m => rfl

/- what no sign holds -/
theorem blk_not {c : UInt8} (h : blk8 c = true) : ok8 c = false ∧ dig8 c = false ∧ let8 c = false := by
  unfold blk8 at h; unfold ok8 dig8 let8 okB letB digB
  simp at h
  refine ⟨?_, ?_, ?_⟩ <;> simp <;> omega
theorem pre_stop {c : UInt8} : ∀ {t : List UInt8} (_ : t.all (fun d => d != c) = true) (r x : List UInt8), t.isPrefixOf (r ++ c :: x) = t.isPrefixOf r
  | [], _, r, x => by simp [List.isPrefixOf]
  | d :: t, h, [], x => by
    simp only [List.all_cons, Bool.and_eq_true] at h
    have : (d == c) = false := by simpa using h.1
    simp [List.isPrefixOf, this]
  | d :: t, h, e :: r, x => by
    simp only [List.all_cons, Bool.and_eq_true] at h
    simp only [List.cons_append, List.isPrefixOf]
    rw [pre_stop h.2 r x]
theorem best_stop {c : UInt8} : ∀ {ts : List (List UInt8)} (_ : ∀ t ∈ ts, t.all (fun d => d != c) = true) (r x : List UInt8), best ts (r ++ c :: x) = best ts r
  | [], _, _, _ => rfl
  | t :: ts, h, r, x => by
    unfold best
    rw [pre_stop (h t (by simp)) r x, best_stop (fun u hu => h u (by simp [hu])) r x]
theorem blk_cases {c : UInt8} (h : blk8 c = true) : c = 32 ∨ c = 9 ∨ c = 10 ∨ c = 13 := by
  unfold blk8 at h
  simp at h
  rcases h with ((h | h) | h) | h
  · exact .inl (UInt8.toNat_inj.1 h)
  · exact .inr (.inl (UInt8.toNat_inj.1 h))
  · exact .inr (.inr (.inl (UInt8.toNat_inj.1 h)))
  · exact .inr (.inr (.inr (UInt8.toNat_inj.1 h)))
theorem signs_stop {c : UInt8} (h : blk8 c = true) (r x : List UInt8) : best signsL (r ++ c :: x) = best signsL r := by
  refine best_stop ?_ r x
  rcases blk_cases h with rfl | rfl | rfl | rfl <;> decide
theorem best_mem {ts : List (List UInt8)} {r : List UInt8} : best ts r = 0 ∨ ∃ t ∈ ts, t.isPrefixOf r = true ∧ best ts r = t.length := by
  induction ts with
  | nil => exact .inl rfl
  | cons t ts ih =>
    unfold best
    rcases Nat.le_total (if t.isPrefixOf r then t.length else 0) (best ts r) with h | h
    · rw [Nat.max_eq_right h]
      rcases ih with h0 | ⟨u, hu, hp, he⟩
      · exact .inl h0
      · exact .inr ⟨u, by simp [hu], hp, he⟩
    · rw [Nat.max_eq_left h]
      cases hp : t.isPrefixOf r with
      | false => exact .inl (by simp)
      | true => exact .inr ⟨t, by simp, hp, by simp⟩
theorem best_ge {ts : List (List UInt8)} {r t : List UInt8} (ht : t ∈ ts) (hp : t.isPrefixOf r = true) : t.length ≤ best ts r := by
  induction ts with
  | nil => cases ht
  | cons u ts ih =>
    unfold best
    rcases List.mem_cons.1 ht with rfl | h
    · rw [if_pos hp]; exact Nat.le_max_left _ _
    · exact Nat.le_trans (ih h) (Nat.le_max_right _ _)
theorem pre_take : ∀ {t r : List UInt8}, t.isPrefixOf r = true → t = r.take t.length ∧ t.length ≤ r.length := by
  intro t r h
  have := List.isPrefixOf_iff_prefix.1 h
  exact ⟨(List.prefix_iff_eq_take.1 this), this.length_le⟩
theorem sign_self {r : List UInt8} (h : best signsL r ≠ 0) : best signsL (r.take (best signsL r)) = best signsL r ∧ best signsL r ≤ r.length := by
  rcases best_mem (ts := signsL) (r := r) with h0 | ⟨t, ht, hp, he⟩
  · exact absurd h0 h
  · obtain ⟨h1, h2⟩ := pre_take hp
    have he2 : r.take (best signsL r) = t := by rw [he]; exact h1.symm
    rw [he2]
    refine ⟨Nat.le_antisymm ?_ ?_, by omega⟩
    · rcases best_mem (ts := signsL) (r := t) with h0 | ⟨u, hu, hq, hu2⟩
      · omega
      · have := (pre_take hq).2; omega
    · rw [he]
      exact best_ge ht (List.isPrefixOf_iff_prefix.2 (List.prefix_refl _))

/- pieces -/
theorem headD_app {r x : List UInt8} (h : r ≠ []) : (r ++ x).headD 0 = r.headD 0 := by
  cases r with
  | nil => exact absurd rfl h
  | cons c r => rfl
theorem piece_stop {c : UInt8} (h : blk8 c = true) {r : List UInt8} (hr : r ≠ []) (x : List UInt8) : pieceL (r ++ c :: x) = pieceL r := by
  obtain ⟨h1, h2, h3⟩ := blk_not h
  have e1 : runL ok8 (r ++ c :: x) = runL ok8 r := by unfold runL; rw [run_stop h1]
  have e2 : runL dig8 (r ++ c :: x) = runL dig8 r := by unfold runL; rw [run_stop h2]
  have e3 : ok8 (((r ++ c :: x).drop (runL dig8 r)).headD 0) = ok8 ((r.drop (runL dig8 r)).headD 0) := by
    have hle := run_le (p := dig8) (r := r)
    rw [List.drop_append_of_le_length hle]
    by_cases hd : r.drop (runL dig8 r) = []
    · rw [hd]; simpa using (by rw [h1]; decide : ok8 c = ok8 0)
    · rw [headD_app hd]
  unfold pieceL
  rw [headD_app hr, e1, e2, e3, run_stop h2, signs_stop h]
/-- of a token: it is not empty; it is cut as it was; which are numbers, which names -/
theorem piece_ok {r : List UInt8} (hr : r ≠ []) (h : (pieceL r).2.2 = 0) :
    0 < (pieceL r).2.1 ∧ (pieceL r).2.1 ≤ r.length ∧ pieceL (r.take (pieceL r).2.1) = ((pieceL r).1, (pieceL r).2.1, 0) ∧ (1 ≤ (pieceL r).1 ∧ (pieceL r).1 ≤ 3)
      ∧ numB (r.take (pieceL r).2.1) = decide ((pieceL r).1 = 2) ∧ nmB (r.take (pieceL r).2.1) = decide ((pieceL r).1 = 1) := by
  cases hl : let8 (r.headD 0) with
  | true =>
    by_cases h32 : 32 < runL ok8 r
    · have e : pieceL r = (0, 0, 2) := by unfold pieceL; rw [if_pos hl, if_pos h32]
      rw [e] at h; cases h
    · have e : pieceL r = (1, runL ok8 r, 0) := by unfold pieceL; rw [if_pos hl, if_neg h32]
      have hok : ok8 (r.headD 0) = true := by unfold ok8 okB; unfold let8 at hl; rw [hl]; rfl
      have hp := run_pos hr hok
      have hd : dig8 (r.headD 0) = false := by unfold let8 letB at hl; unfold dig8 digB; simp at hl ⊢; omega
      rw [e]
      show 0 < runL ok8 r ∧ runL ok8 r ≤ r.length ∧ pieceL (r.take (runL ok8 r)) = (1, runL ok8 r, 0) ∧ (1 ≤ (1 : Int) ∧ (1 : Int) ≤ 3) ∧ numB (r.take (runL ok8 r)) = decide ((1 : Int) = 2) ∧ nmB (r.take (runL ok8 r)) = decide ((1 : Int) = 1)
      have hh := headD_take (r := r) hp
      have hall : (r.take (runL ok8 r)).all ok8 = true := by rw [run_take]; exact all_run
      have hlen : (r.take (runL ok8 r)).length = runL ok8 r := by rw [List.length_take, Nat.min_eq_left run_le]
      refine ⟨hp, run_le, ?_, by decide, ?_, ?_⟩
      · unfold pieceL
        have e2 : runL ok8 (r.take (runL ok8 r)) = runL ok8 r := by rw [show runL ok8 (r.take (runL ok8 r)) = ((r.take (runL ok8 r)).takeWhile ok8).length from rfl, run_all hall, hlen]
        rw [hh, if_pos hl, e2, if_neg h32]
      · unfold numB
        have : (r.take (runL ok8 r)).all dig8 = false := by
          cases hT : r.take (runL ok8 r) with
          | nil => rw [hT] at hlen; simp at hlen; omega
          | cons c x => rw [hT] at hh; rw [List.all_cons, show c = (c :: x).headD 0 from rfl, hh, hd]; rfl
        rw [this]; simp
      · unfold nmB
        rw [hlen, hh, hl, hall]
        simp; omega
  | false =>
    cases hd : dig8 (r.headD 0) with
    | true =>
      cases hz : (zero8 (r.takeWhile dig8) || ok8 ((r.drop (runL dig8 r)).headD 0)) with
      | true =>
        have e : pieceL r = (0, 0, 4) := by unfold pieceL; rw [if_neg (by rw [hl]; decide), if_pos hd, if_pos hz]
        rw [e] at h; cases h
      | false =>
        cases hn : numB (r.takeWhile dig8) with
        | false =>
          have e : pieceL r = (0, 0, 6) := by unfold pieceL; rw [if_neg (by rw [hl]; decide), if_pos hd, if_neg (by rw [hz]; decide), if_neg (by rw [hn]; decide)]
          rw [e] at h; cases h
        | true =>
          have e : pieceL r = (2, runL dig8 r, 0) := by unfold pieceL; rw [if_neg (by rw [hl]; decide), if_pos hd, if_neg (by rw [hz]; decide), if_pos hn]
          have hp := run_pos hr hd
          rw [e]
          show 0 < runL dig8 r ∧ runL dig8 r ≤ r.length ∧ pieceL (r.take (runL dig8 r)) = (2, runL dig8 r, 0) ∧ (1 ≤ (2 : Int) ∧ (2 : Int) ≤ 3) ∧ numB (r.take (runL dig8 r)) = decide ((2 : Int) = 2) ∧ nmB (r.take (runL dig8 r)) = decide ((2 : Int) = 1)
          have hh := headD_take (r := r) hp
          have hall : (r.take (runL dig8 r)).all dig8 = true := by rw [run_take]; exact all_run
          have hlen : (r.take (runL dig8 r)).length = runL dig8 r := by rw [List.length_take, Nat.min_eq_left run_le]
          have e2 : (r.take (runL dig8 r)).takeWhile dig8 = r.takeWhile dig8 := by rw [run_all hall, run_take]
          have e3 : runL dig8 (r.take (runL dig8 r)) = runL dig8 r := by unfold runL at *; rw [e2]
          refine ⟨hp, run_le, ?_, by decide, by rw [run_take, hn]; rfl, ?_⟩
          · unfold pieceL
            rw [hh, if_neg (by rw [hl]; decide), if_pos hd, e2, e3, List.drop_of_length_le (by rw [hlen]; exact Nat.le_refl _)]
            rw [Bool.or_eq_false_iff] at hz
            rw [hz.1, hn]
            rfl
          · unfold nmB; rw [hh, hl]; simp
    | false =>
      by_cases hb : best signsL r = 0
      · have e : pieceL r = (0, 0, 4) := by unfold pieceL; rw [if_neg (by rw [hl]; decide), if_neg (by rw [hd]; decide), if_pos hb]
        rw [e] at h; cases h
      · have e : pieceL r = (3, best signsL r, 0) := by unfold pieceL; rw [if_neg (by rw [hl]; decide), if_neg (by rw [hd]; decide), if_neg hb]
        obtain ⟨hs, hle⟩ := sign_self hb
        rw [e]
        show 0 < best signsL r ∧ best signsL r ≤ r.length ∧ pieceL (r.take (best signsL r)) = (3, best signsL r, 0) ∧ (1 ≤ (3 : Int) ∧ (3 : Int) ≤ 3) ∧ numB (r.take (best signsL r)) = decide ((3 : Int) = 2) ∧ nmB (r.take (best signsL r)) = decide ((3 : Int) = 1)
        have hp : 0 < best signsL r := by omega
        have hh := headD_take (r := r) hp
        refine ⟨hp, hle, ?_, by decide, ?_, ?_⟩
        · unfold pieceL
          rw [hh, if_neg (by rw [hl]; decide), if_neg (by rw [hd]; decide), hs, if_neg hb]
        · unfold numB
          have : (r.take (best signsL r)).all dig8 = false := by
            cases hT : r.take (best signsL r) with
            | nil => rw [hT] at hs; exact absurd (hs.symm.trans (by decide)) hb
            | cons c x => rw [hT] at hh; rw [List.all_cons, show c = (c :: x).headD 0 from rfl, hh, hd]; rfl
          rw [this]; simp
        · unfold nmB; rw [hh, hl]; simp
theorem piece_err {r : List UInt8} (h : (pieceL r).2.2 ≠ 0) : (pieceL r).2.2 = 2 ∨ (pieceL r).2.2 = 4 ∨ (pieceL r).2.2 = 6 := by
  unfold pieceL at *
  split
  · split <;> simp_all
  · split
    · split
      · simp
      · split <;> simp_all
    · split <;> simp_all
/-- a token begins with no blank, and no comment -/
theorem piece_head {r : List UInt8} (hr : r ≠ []) (h : (pieceL r).2.2 = 0) : blk8 (r.headD 0) = false ∧ (r.headD 0).toNat ≠ 35 := by
  cases hb : blk8 (r.headD 0) with
  | true =>
    obtain ⟨h1, h2, h3⟩ := blk_not hb
    cases r with
    | nil => exact absurd rfl hr
    | cons c x =>
      have hs : best signsL (c :: x) = 0 := signs_stop hb [] x
      have e : pieceL (c :: x) = (0, 0, 4) := by unfold pieceL; rw [if_neg (by rw [h3]; decide), if_neg (by rw [h2]; decide), if_pos hs]
      rw [e] at h; cases h
  | false =>
    refine ⟨rfl, fun h35 => ?_⟩
    cases r with
    | nil => exact absurd rfl hr
    | cons c x =>
      obtain rfl : c = 35 := UInt8.toNat_inj.1 h35
      have hs : best signsL (35 :: x) = 0 := by
        have := best_stop (c := 35) (ts := signsL) (by decide) [] x
        exact this
      have e : pieceL (35 :: x) = (0, 0, 4) := by unfold pieceL; rw [List.headD_cons, if_neg (show ¬ let8 35 = true by decide), if_neg (show ¬ dig8 35 = true by decide), if_pos hs]
      rw [e] at h; cases h

/- gaps -/
theorem gap_le (b : Bool) (r : List UInt8) : (gapL b r).length ≤ r.length := by
  induction r generalizing b with
  | nil => cases b <;> simp [gapL]
  | cons c r ih =>
    cases b with
    | false =>
      unfold gapL
      split
      · have := ih false; simp; omega
      · split
        · have := ih true; simp; omega
        · simp
    | true =>
      unfold gapL
      split
      · have := ih false; simp; omega
      · have := ih true; simp; omega
theorem gap_drop (b : Bool) (r : List UInt8) : gapL b r = r.drop (r.length - (gapL b r).length) := by
  induction r generalizing b with
  | nil => cases b <;> simp [gapL]
  | cons c r ih =>
    have key : ∀ b, gapL b r = (c :: r).drop ((c :: r).length - (gapL b r).length) := fun b => by
      have hl := gap_le b r
      rw [List.length_cons, show r.length + 1 - (gapL b r).length = (r.length - (gapL b r).length) + 1 by omega, List.drop_succ_cons]
      exact ih b
    cases b with
    | false =>
      unfold gapL
      split
      · exact key false
      · split
        · exact key true
        · simp
    | true =>
      unfold gapL
      split
      · exact key false
      · exact key true
theorem gap_self {r : List UInt8} (h : blk8 (r.headD 0) = false) (h2 : (r.headD 0).toNat ≠ 35) : gapL false r = r := by
  cases r with
  | nil => simp [gapL]
  | cons c r => unfold gapL; rw [if_neg (by simpa using h), if_neg (by simpa using h2)]
theorem gap_feed (b : Bool) (r x : List UInt8) : gapL b (r ++ 10 :: x) = if gapL b r = [] then gapL false x else gapL b r ++ 10 :: x := by
  induction r generalizing b with
  | nil => cases b <;> simp [gapL, blk8]
  | cons c r ih =>
    cases b with
    | false =>
      rw [List.cons_append, gapL.eq_2, gapL.eq_2]
      split
      · exact ih false
      · split
        · exact ih true
        · simp
    | true =>
      rw [List.cons_append, gapL.eq_3, gapL.eq_3]
      split
      · exact ih false
      · exact ih true

/- lexing -/
theorem before_nil (x : Lexed) (h : x.2.2 ≠ 0 → x.1 = []) : before [] x = x := by
  obtain ⟨l, a, e⟩ := x
  unfold before
  by_cases he : e = 0
  · subst he; simp
  · have := h he; simp at this; simp [he, this]
theorem before_before (a b : List Tok) (x : Lexed) : before a (before b x) = before (a ++ b) x := by
  obtain ⟨l, p, e⟩ := x
  unfold before
  by_cases he : e = 0 <;> simp [he]
theorem lex_err (f n : Nat) (r : List UInt8) (h : (lexL f n r).2.2 ≠ 0) : (lexL f n r).1 = [] := by
  cases f with
  | zero => rfl
  | succ f =>
    unfold lexL at *
    split
    · rfl
    · rename_i hr
      rw [if_neg hr] at h
      split
      · rename_i hp
        rw [if_pos hp] at h
        unfold before at *
        split
        · rename_i h0; rw [if_pos h0] at h; simp at h
        · rfl
      · rfl
theorem lex_fuel {n : Nat} : ∀ (f g : Nat) (r : List UInt8), r.length ≤ f → r.length ≤ g → lexL f n r = lexL g n r := by
  intro f
  induction f with
  | zero =>
    intro g r hf hg
    have : r = [] := by simpa using hf
    subst this
    cases g <;> simp [lexL]
  | succ f ih =>
    intro g r hf hg
    cases g with
    | zero =>
      have : r = [] := by simpa using hg
      subst this
      simp [lexL]
    | succ g =>
      unfold lexL
      by_cases hr : r = []
      · rw [if_pos hr, if_pos hr]
      · rw [if_neg hr, if_neg hr]
        by_cases hp : (pieceL r).2.2 = 0
        · rw [if_pos hp, if_pos hp]
          obtain ⟨h1, h2, _⟩ := piece_ok hr hp
          have hg := gap_le false (r.drop (pieceL r).2.1)
          rw [List.length_drop] at hg
          rw [ih g _ (by omega) (by omega)]
        · rw [if_neg hp, if_neg hp]
/-- the tokens of a text that begins with one -/
def lexR (n : Nat) (r : List UInt8) : Lexed := lexL r.length n r
theorem lexR_nil (n : Nat) : lexR n [] = ([], n, 0) := rfl
theorem lexR_bad {n : Nat} {r : List UInt8} (hr : r ≠ []) (h : (pieceL r).2.2 ≠ 0) : lexR n r = ([], n - r.length, (pieceL r).2.2) := by
  unfold lexR
  cases hl : r.length with
  | zero => exact absurd (List.eq_nil_of_length_eq_zero hl) hr
  | succ f => unfold lexL; rw [if_neg hr, if_neg h, hl]
theorem lexR_ok {n : Nat} {r : List UInt8} (hr : r ≠ []) (h : (pieceL r).2.2 = 0) : lexR n r = before [⟨(pieceL r).1, r.take (pieceL r).2.1, n - r.length⟩] (lexR n (gapL false (r.drop (pieceL r).2.1))) := by
  unfold lexR
  cases hl : r.length with
  | zero => exact absurd (List.eq_nil_of_length_eq_zero hl) hr
  | succ f =>
    rw [lexL.eq_2, if_neg hr, if_pos h, hl]
    obtain ⟨h1, h2, _⟩ := piece_ok hr h
    have hg := gap_le false (r.drop (pieceL r).2.1)
    rw [List.length_drop] at hg
    rw [lex_fuel f _ _ (by omega) (Nat.le_refl _)]
theorem lexF_eq {l : List UInt8} (h : l.length ≤ 16384) : lexF l = lexR l.length (gapL false l) := by
  unfold lexF lexR
  rw [if_neg (by omega)]
  exact lex_fuel _ _ _ (gap_le _ _) (Nat.le_refl _)
theorem less_of {r : List UInt8} (hr : r ≠ []) (h : (pieceL r).2.2 = 0) : (gapL false (r.drop (pieceL r).2.1)).length < r.length := by
  obtain ⟨h1, h2, _⟩ := piece_ok hr h
  have hg := gap_le false (r.drop (pieceL r).2.1)
  rw [List.length_drop] at hg
  omega
/-- what is told of every text that is cut so -/
theorem lex_ind {P : List UInt8 → Prop} (h0 : P []) (hbad : ∀ r, r ≠ [] → (pieceL r).2.2 ≠ 0 → P r) (hok : ∀ r, r ≠ [] → (pieceL r).2.2 = 0 → P (gapL false (r.drop (pieceL r).2.1)) → P r) (r : List UInt8) : P r := by
  have : ∀ k (r : List UInt8), r.length ≤ k → P r := by
    intro k
    induction k with
    | zero => intro r hr; have : r = [] := by simpa using hr
              subst this; exact h0
    | succ k ih =>
      intro r hr
      by_cases hn : r = []
      · subst hn; exact h0
      · by_cases hp : (pieceL r).2.2 = 0
        · exact hok r hn hp (ih _ (by have := less_of hn hp; omega))
        · exact hbad r hn hp
  exact this _ r (Nat.le_refl _)
/-- a token as Lex tells it -/
def Good (t : Tok) : Prop := t.text ≠ [] ∧ pieceL t.text = (t.kind, t.text.length, 0) ∧ (1 ≤ t.kind ∧ t.kind ≤ 3) ∧ numB t.text = decide (t.kind = 2) ∧ nmB t.text = decide (t.kind = 1)
theorem good_of {r : List UInt8} {n : Nat} (hr : r ≠ []) (h : (pieceL r).2.2 = 0) : Good ⟨(pieceL r).1, r.take (pieceL r).2.1, n⟩ := by
  obtain ⟨h1, h2, h3, h4, h5, h6⟩ := piece_ok hr h
  have hl : (r.take (pieceL r).2.1).length = (pieceL r).2.1 := by rw [List.length_take, Nat.min_eq_left h2]
  refine ⟨fun e => ?_, ?_, h4, h5, h6⟩
  · have e : r.take (pieceL r).2.1 = [] := e
    rw [e] at hl; simp at hl; omega
  · show pieceL (r.take (pieceL r).2.1) = (_, (r.take (pieceL r).2.1).length, 0)
    rw [hl]; exact h3
theorem before_good {acc : List Tok} {x : Lexed} (h1 : ∀ t ∈ acc, Good t) (h2 : ∀ t ∈ x.1, Good t) : ∀ t ∈ (before acc x).1, Good t := by
  unfold before
  split
  · intro t ht
    rcases List.mem_append.1 ht with h | h
    · exact h1 t h
    · exact h2 t h
  · intro t ht; cases ht
theorem lex_good (n : Nat) (r : List UInt8) : ∀ t ∈ (lexR n r).1, Good t := by
  refine lex_ind (P := fun r => ∀ t ∈ (lexR n r).1, Good t) ?_ ?_ ?_ r
  · intro t ht; cases ht
  · intro r hr h; rw [lexR_bad hr h]; intro t ht; cases ht
  · intro r hr h ih
    rw [lexR_ok hr h]
    refine before_good ?_ ih
    intro t ht
    rw [List.mem_singleton] at ht
    subst ht
    exact good_of hr h
/-- where Lex ends -/
theorem lex_ends (n : Nat) (r : List UInt8) (hn : r.length ≤ n) : ((lexR n r).2.2 = 0 → (lexR n r).2.1 = n) ∧ ((lexR n r).2.2 ≠ 0 → (lexR n r).2.1 < n ∧ (lexR n r).1 = []) := by
  revert hn
  refine lex_ind (P := fun r => r.length ≤ n → ((lexR n r).2.2 = 0 → (lexR n r).2.1 = n) ∧ ((lexR n r).2.2 ≠ 0 → (lexR n r).2.1 < n ∧ (lexR n r).1 = [])) ?_ ?_ ?_ r
  · intro _; rw [lexR_nil]; exact ⟨fun _ => rfl, fun h => absurd rfl h⟩
  · intro r hr h hn
    rw [lexR_bad hr h]
    have : 0 < r.length := List.length_pos_iff.2 hr
    exact ⟨fun e => absurd e h, fun _ => ⟨by show n - r.length < n; omega, rfl⟩⟩
  · intro r hr h ih hn
    rw [lexR_ok hr h]
    have := less_of hr h
    obtain ⟨i1, i2⟩ := ih (by omega)
    unfold before
    split
    · rename_i h0; exact ⟨fun _ => i1 h0, fun e => absurd rfl e⟩
    · rename_i h0; exact ⟨fun e => absurd e h0, fun _ => ⟨(i2 h0).1, rfl⟩⟩
/-- joined texts are no more than twice as long -/
theorem join_cons (t : Tok) (l : List Tok) : (joinL (t :: l)).length ≤ t.text.length + 1 + (joinL l).length := by
  cases l with
  | nil => simp [joinL]
  | cons u l => simp [joinL]; omega
theorem join_len (n : Nat) (r : List UInt8) : (joinL (lexR n r).1).length ≤ 2 * r.length := by
  refine lex_ind (P := fun r => (joinL (lexR n r).1).length ≤ 2 * r.length) ?_ ?_ ?_ r
  · simp [lexR_nil, joinL]
  · intro r hr h; rw [lexR_bad hr h]; simp [joinL]
  · intro r hr h ih
    rw [lexR_ok hr h]
    unfold before
    split
    · obtain ⟨h1, h2, _⟩ := piece_ok hr h
      have hg := gap_le false (r.drop (pieceL r).2.1)
      rw [List.length_drop] at hg
      have hj := join_cons ⟨(pieceL r).1, r.take (pieceL r).2.1, n - r.length⟩ (lexR n (gapL false (r.drop (pieceL r).2.1))).1
      have hl : (r.take (pieceL r).2.1).length = (pieceL r).2.1 := by rw [List.length_take, Nat.min_eq_left h2]
      simp only [List.singleton_append]
      simp only [hl] at hj
      omega
    · simp [joinL]
/-- alike but for places -/
def Alike : List Tok → List Tok → Prop
  | [], [] => True
  | t :: l, u :: m => t.kind = u.kind ∧ t.text = u.text ∧ Alike l m
  | _, _ => False
theorem good_head {t : Tok} (h : Good t) : blk8 (t.text.headD 0) = false ∧ (t.text.headD 0).toNat ≠ 35 := piece_head h.1 (by rw [h.2.1])
theorem join_head {t : Tok} {l : List Tok} (h : Good t) : joinL (t :: l) ≠ [] ∧ (joinL (t :: l)).headD 0 = t.text.headD 0 := by
  cases l with
  | nil => exact ⟨h.1, rfl⟩
  | cons u l => exact ⟨by simp [joinL], by show (t.text ++ _).headD 0 = _; rw [headD_app h.1]⟩
theorem join_gap {l : List Tok} (h : ∀ t ∈ l, Good t) : gapL false (joinL l) = joinL l := by
  cases l with
  | nil => rfl
  | cons t l =>
    have ht := h t (by simp)
    obtain ⟨_, h2⟩ := join_head (l := l) ht
    obtain ⟨h3, h4⟩ := good_head ht
    exact gap_self (by rw [h2]; exact h3) (by rw [h2]; exact h4)
/-- what is joined is cut into the same tokens, but for their places -/
theorem join_back (n : Nat) : ∀ (l : List Tok), (∀ t ∈ l, Good t) → (lexR n (joinL l)).2 = (n, 0) ∧ Alike (lexR n (joinL l)).1 l
  | [], _ => ⟨rfl, trivial⟩
  | [t], h => by
    have ht := h t (by simp)
    have hp : (pieceL t.text).2.2 = 0 := by rw [ht.2.1]
    rw [show joinL [t] = t.text from rfl, lexR_ok ht.1 hp, ht.2.1]
    simp only [List.take_length, List.drop_length]
    rw [show gapL false [] = [] from rfl, lexR_nil]
    exact ⟨rfl, rfl, rfl, trivial⟩
  | t :: u :: l, h => by
    have ht := h t (by simp)
    have hg := join_gap (l := u :: l) (fun x hx => h x (by simp only [List.mem_cons] at hx ⊢; exact .inr hx))
    have ih := join_back n (u :: l) (fun x hx => h x (by simp only [List.mem_cons] at hx ⊢; exact .inr hx))
    have hps : pieceL (t.text ++ 32 :: joinL (u :: l)) = (t.kind, t.text.length, 0) := (piece_stop (by decide) ht.1 _).trans ht.2.1
    have hp : (pieceL (t.text ++ 32 :: joinL (u :: l))).2.2 = 0 := by rw [hps]
    rw [show joinL (t :: u :: l) = t.text ++ 32 :: joinL (u :: l) from rfl, lexR_ok (by simp) hp, hps]
    simp only [List.take_left, List.drop_left]
    rw [show gapL false (32 :: joinL (u :: l)) = gapL false (joinL (u :: l)) from rfl, hg]
    obtain ⟨h1, h2⟩ := ih
    unfold before
    rw [if_pos (by rw [h1])]
    exact ⟨by rw [h1], rfl, rfl, h2⟩
theorem alike_len : ∀ {l m : List Tok}, Alike l m → l.length = m.length
  | [], [], _ => rfl
  | t :: l, u :: m, h => by simp [alike_len h.2.2]
theorem alike_join : ∀ {l m : List Tok}, Alike l m → joinL l = joinL m
  | [], [], _ => rfl
  | [t], [u], h => h.2.1
  | t :: t2 :: l, u :: u2 :: m, h => by
    show t.text ++ 32 :: joinL (t2 :: l) = u.text ++ 32 :: joinL (u2 :: m)
    rw [h.2.1, alike_join h.2.2]
/-- places -/
def Places (l : List UInt8) : Nat → List Tok → Prop
  | _, [] => True
  | lo, t :: ts => (lo ≤ t.at_ ∧ t.at_ + t.text.length ≤ l.length ∧ (l.drop t.at_).take t.text.length = t.text) ∧ Places l (t.at_ + t.text.length) ts
theorem lex_places (l : List UInt8) (r : List UInt8) (lo : Nat) (hlo : lo + r.length ≤ l.length) (hr : r = l.drop (l.length - r.length)) : Places l lo (lexR l.length r).1 := by
  revert lo
  revert hr
  refine lex_ind (P := fun r => r = l.drop (l.length - r.length) → ∀ lo, lo + r.length ≤ l.length → Places l lo (lexR l.length r).1) ?_ ?_ ?_ r
  · intro _ lo _; exact trivial
  · intro r hr h _ lo _; rw [lexR_bad hr h]; exact trivial
  · intro r hr h ih hd lo hlo
    rw [lexR_ok hr h]
    obtain ⟨h1, h2, _⟩ := piece_ok hr h
    have hg := gap_le false (r.drop (pieceL r).2.1)
    have hgd := gap_drop false (r.drop (pieceL r).2.1)
    rw [List.length_drop] at hg
    unfold before
    split
    · have hl : (r.take (pieceL r).2.1).length = (pieceL r).2.1 := by rw [List.length_take, Nat.min_eq_left h2]
      show (lo ≤ l.length - r.length ∧ l.length - r.length + (r.take (pieceL r).2.1).length ≤ l.length ∧ (l.drop (l.length - r.length)).take (r.take (pieceL r).2.1).length = r.take (pieceL r).2.1) ∧ Places l (l.length - r.length + (r.take (pieceL r).2.1).length) (lexR l.length (gapL false (r.drop (pieceL r).2.1))).1
      rw [hl, ← hd]
      refine ⟨⟨by omega, by omega, rfl⟩, ih ?_ _ (by omega)⟩
      generalize gapL false (r.drop (pieceL r).2.1) = G at *
      generalize (pieceL r).2.1 = m at *
      rw [List.length_drop, List.drop_drop] at hgd
      have e1 : r.drop (m + (r.length - m - G.length)) = (l.drop (l.length - r.length)).drop (m + (r.length - m - G.length)) := congrArg (List.drop _) hd
      refine hgd.trans (e1.trans ?_)
      rw [List.drop_drop]
      congr 1
      omega
    · exact trivial
/-- shifted -/
def shift (d : Nat) (x : Lexed) : Lexed := (x.1.map fun t => ⟨t.kind, t.text, t.at_ + d⟩, x.2.1 + d, x.2.2)
theorem lex_shift (n d : Nat) (r : List UInt8) (hn : r.length ≤ n) : lexR (n + d) r = shift d (lexR n r) := by
  revert hn
  refine lex_ind (P := fun r => r.length ≤ n → lexR (n + d) r = shift d (lexR n r)) ?_ ?_ ?_ r
  · intro _; rfl
  · intro r hr h hn
    rw [lexR_bad hr h, lexR_bad hr h]
    unfold shift
    simp; omega
  · intro r hr h ih hn
    rw [lexR_ok hr h, lexR_ok hr h, ih (by have := less_of hr h; omega)]
    unfold before shift
    split
    · simp; omega
    · simp
/-- two texts, with a line feed between -/
theorem lex_more (n : Nat) (x : List UInt8) (r : List UInt8) (hn : r.length ≤ n) :
    lexR (n + (1 + x.length)) (if r = [] then gapL false x else r ++ 10 :: x) = if (lexR n r).2.2 = 0 then before (lexR n r).1 (lexR (n + (1 + x.length)) (gapL false x)) else lexR n r := by
  revert hn
  refine lex_ind (P := fun r => r.length ≤ n → lexR (n + (1 + x.length)) (if r = [] then gapL false x else r ++ 10 :: x) = if (lexR n r).2.2 = 0 then before (lexR n r).1 (lexR (n + (1 + x.length)) (gapL false x)) else lexR n r) ?_ ?_ ?_ r
  · intro _
    rw [if_pos rfl, lexR_nil, if_pos rfl]
    exact (before_nil _ (lex_err _ _ _)).symm
  · intro r hr h hn
    have hs := piece_stop (c := 10) (by decide) hr x
    rw [if_neg hr, lexR_bad hr h, if_neg h, lexR_bad (by simp) (by rw [hs]; exact h), hs]
    simp; omega
  · intro r hr h ih hn
    have hs := piece_stop (c := 10) (by decide) hr x
    obtain ⟨h1, h2, _⟩ := piece_ok hr h
    have ih := ih (by have := less_of hr h; omega)
    rw [if_neg hr, lexR_ok (by simp) (by rw [hs]; exact h), hs, List.take_append_of_le_length h2, List.drop_append_of_le_length h2, gap_feed, ih, lexR_ok hr h]
    have hat : n + (1 + x.length) - (r ++ 10 :: x).length = n - r.length := by simp; omega
    rw [hat]
    generalize lexR n (gapL false (r.drop (pieceL r).2.1)) = y
    generalize lexR (n + (1 + x.length)) (gapL false x) = z
    obtain ⟨l, a, e⟩ := y
    by_cases he : e = 0
    · subst he
      simp only [if_true]
      rw [before_before]
      unfold before
      simp
    · simp only [he, if_false]
      unfold before
      simp [he]
/-- a number, or a name, alone -/
theorem lex_num {l : List UInt8} (h : numB l = true) (n : Nat) : lexR n (gapL false l) = ([⟨2, l, n - l.length⟩], n, 0) ∧ nmB l = false := by
  unfold numB at h
  simp only [Bool.and_eq_true, decide_eq_true_eq] at h
  obtain ⟨⟨⟨h1, h2⟩, h3⟩, h4⟩ := h
  have hr : l ≠ [] := List.length_pos_iff.1 h1
  have hd : dig8 (l.headD 0) = true := by
    cases l with
    | nil => exact absurd rfl hr
    | cons c x => simp only [List.all_cons, Bool.and_eq_true] at h2; exact h2.1
  have hl : let8 (l.headD 0) = false := by unfold dig8 digB at hd; unfold let8 letB; simp at hd ⊢; omega
  have hb : blk8 (l.headD 0) = false := by unfold dig8 digB at hd; unfold blk8; simp at hd ⊢; omega
  have h35 : (l.headD 0).toNat ≠ 35 := by unfold dig8 digB at hd; simp at hd ⊢; omega
  have hw : l.takeWhile dig8 = l := run_all h2
  have hrn : runL dig8 l = l.length := by unfold runL; rw [hw]
  have hn : numB l = true := by unfold numB; simp only [Bool.and_eq_true, decide_eq_true_eq]; exact ⟨⟨⟨h1, h2⟩, h3⟩, h4⟩
  have e : pieceL l = (2, l.length, 0) := by
    unfold pieceL
    rw [if_neg (by rw [hl]; decide), if_pos hd, hw, hrn, List.drop_length, hn]
    simp only [Bool.not_eq_true'] at h3
    rw [h3]; rfl
  refine ⟨?_, by unfold nmB; rw [hl]; simp⟩
  rw [gap_self hb h35, lexR_ok hr (by rw [e]), e]
  simp only [List.take_length, List.drop_length]
  rfl
theorem lex_name {l : List UInt8} (h : nmB l = true) (n : Nat) : lexR n (gapL false l) = ([⟨1, l, n - l.length⟩], n, 0) ∧ numB l = false := by
  unfold nmB at h
  simp only [Bool.and_eq_true, decide_eq_true_eq] at h
  obtain ⟨⟨⟨h1, h2⟩, h3⟩, h4⟩ := h
  have hr : l ≠ [] := List.length_pos_iff.1 h1
  have hd : dig8 (l.headD 0) = false := by unfold let8 letB at h3; unfold dig8 digB; simp at h3 ⊢; omega
  have hb : blk8 (l.headD 0) = false := by unfold let8 letB at h3; unfold blk8; simp at h3 ⊢; omega
  have h35 : (l.headD 0).toNat ≠ 35 := by unfold let8 letB at h3; simp at h3 ⊢; omega
  have hw : l.takeWhile ok8 = l := run_all h4
  have hrn : runL ok8 l = l.length := by unfold runL; rw [hw]
  have e : pieceL l = (1, l.length, 0) := by
    unfold pieceL
    rw [if_pos h3, hrn, if_neg (by omega)]
  refine ⟨?_, ?_⟩
  · rw [gap_self hb h35, lexR_ok hr (by rw [e]), e]
    simp only [List.take_length, List.drop_length]
    rfl
  · unfold numB
    have : l.all dig8 = false := by
      cases l with
      | nil => exact absurd rfl hr
      | cons c x => rw [List.all_cons, show dig8 c = false from hd]; rfl
    rw [this]; simp
/- values -/
theorem val_ge : ∀ (l : List UInt8) (a : Nat), a ≤ valL a l
  | [], a => Nat.le_refl _
  | c :: r, a => by unfold valL; have := val_ge r (a * 10 + (c.toNat - 48)); omega
theorem parse_dig : ∀ (l : List UInt8) (a : Nat), l.all dig8 = true → a < 18446744073709551616 → Go.Lib.parseUint10 a l = if valL a l < 18446744073709551616 then .ok (valL a l) else .range
  | [], a, _, ha => by unfold Go.Lib.parseUint10 valL; rw [if_pos ha]
  | c :: r, a, h, ha => by
    simp only [List.all_cons, Bool.and_eq_true] at h
    have hc : 48 ≤ c.toNat ∧ c.toNat ≤ 57 := by have := h.1; unfold dig8 digB at this; simp at this; omega
    unfold Go.Lib.parseUint10 valL
    have hv := val_ge r (a * 10 + (c.toNat - 48))
    rw [if_pos hc]
    split
    · rw [if_neg (by omega)]
    · split
      · rw [if_neg (by omega)]
      · exact parse_dig r _ h.2 (by omega)
theorem atoi_dig {l : List UInt8} (hl : l ≠ []) (h : l.all dig8 = true) : Go.Lib.atoiAll l = if valL 0 l < 9223372036854775808 then .ok (valL 0 l : Int) else .range := by
  cases l with
  | nil => exact absurd rfl hl
  | cons c r =>
    have hc : 48 ≤ c.toNat ∧ c.toNat ≤ 57 := by
      simp only [List.all_cons, Bool.and_eq_true] at h
      have := h.1; unfold dig8 digB at this; simp at this; omega
    rw [Go.Lib.atoiAll_plain c r (by omega) (by omega)]
    unfold Go.Lib.parseMag
    rw [if_neg (by simp), parse_dig _ 0 h (by omega)]
    unfold Go.Lib.signless
    by_cases h1 : valL 0 (c :: r) < 9223372036854775808
    · rw [if_pos h1, if_pos (by omega)]; simp; omega
    · rw [if_neg h1]
      by_cases h2 : valL 0 (c :: r) < 18446744073709551616
      · rw [if_pos h2]; simp; omega
      · rw [if_neg h2]
/-- the value of what is a number; else none -/
def numV (l : List UInt8) : Int := if numB l then (valL 0 l : Int) else 0
theorem val_dig (l : List UInt8) (a : Nat) (c : UInt8) : valL a (l ++ [c]) = valL a l * 10 + (c.toNat - 48) := by
  induction l generalizing a with
  | nil => rfl
  | cons d l ih => exact ih _
/- the document's signs -/
def twoL : List (List UInt8) := [[46, 46], [61, 61], [33, 61], [60, 61], [38, 38], [124, 124]]
def oneL : List UInt8 := [59, 58, 61, 44, 40, 41, 123, 125, 42, 43, 45, 47, 37, 60, 33]
theorem sign_two {r : List UInt8} (h : ∃ t ∈ twoL, t.isPrefixOf r = true) : best signsL r = 2 := by
  obtain ⟨t, ht, hp⟩ := h
  have h1 : t ∈ signsL ∧ t.length = 2 := (show ∀ t ∈ twoL, t ∈ signsL ∧ t.length = 2 by decide) t ht
  have h2 := best_ge h1.1 hp
  rcases best_mem (ts := signsL) (r := r) with h0 | ⟨u, hu, _, he⟩
  · omega
  · have : u.length ≤ 2 := (show ∀ t ∈ signsL, t.length ≤ 2 by decide) u hu
    omega
theorem sign_one {r : List UInt8} (hn : ∀ t ∈ twoL, t.isPrefixOf r = false) (hr : r ≠ []) (h : r.headD 0 ∈ oneL) : best signsL r = 1 := by
  have h1 : [r.headD 0] ∈ signsL := (show ∀ c ∈ oneL, [c] ∈ signsL by decide) _ h
  have hp : [r.headD 0].isPrefixOf r = true := by
    cases r with
    | nil => exact absurd rfl hr
    | cons c r => simp [List.isPrefixOf]
  have h2 := best_ge h1 hp
  simp at h2
  rcases best_mem (ts := signsL) (r := r) with h0 | ⟨u, hu, hq, he⟩
  · omega
  · have : u.length = 1 ∨ u ∈ twoL := (show ∀ t ∈ signsL, t.length = 1 ∨ t ∈ twoL by decide) u hu
    rcases this with h3 | h3
    · omega
    · rw [hn u h3] at hq; cases hq
theorem sign_none {r : List UInt8} (hn : ∀ t ∈ twoL, t.isPrefixOf r = false) (hr : r ≠ []) (h : r.headD 0 ∉ oneL) : best signsL r = 0 := by
  rcases best_mem (ts := signsL) (r := r) with h0 | ⟨u, hu, hq, he⟩
  · exact h0
  · have : u ∈ twoL ∨ ∃ c ∈ oneL, u = [c] := (show ∀ t ∈ signsL, t ∈ twoL ∨ ∃ c ∈ oneL, t = [c] by decide) u hu
    rcases this with h3 | ⟨c, hc, rfl⟩
    · rw [hn u h3] at hq; cases hq
    · cases r with
      | nil => exact absurd rfl hr
      | cons d r =>
        simp [List.isPrefixOf] at hq
        subst hq
        exact absurd hc h
/- words -/
def wordsL : List (List UInt8) := [[99, 111, 108, 111, 117, 114], [112, 108, 97, 99, 101], [116, 97, 115, 107], [118, 97, 114], [119, 104, 101, 110], [106, 111, 105, 110], [115, 112, 108, 105, 116], [105, 110], [111, 117, 116], [99, 97, 110, 99, 101, 108], [97, 102, 116, 101, 114], [109, 97, 110, 121], [102, 114, 111, 109], [116, 111], [105, 110, 116], [101, 110, 117, 109], [112, 97, 105, 114], [97, 110, 100], [120, 111, 114], [111, 114], [105, 102]]
def wordB (l : List UInt8) : Bool := decide (l ∈ wordsL)
theorem word_name {l : List UInt8} (h : wordB l = true) : nmB l = true := by
  have h := of_decide_eq_true h
  exact (show ∀ t ∈ wordsL, nmB t = true by decide) l h
theorem nameB_eq (s : ByteArray) : nameB s = nmB s.data.toList := by
  unfold nameB nmB let8 ok8
  rw [show s.data.toList.length = s.size by simp]
  cases h : s.data.toList with
  | nil => simp
  | cons c r => rfl
end Go.Proofs.YtgdkomkflfodaaaGreat.Token
/- char's methods, on and run of package token: contracts of the calls, over the turned program. -/
namespace Go.Proofs.YtgdkomkflfodaaaGreat.Token
open Go.RowKit Go.Proofs.YtgdkomkflfodaaaGreat.Colour
set_option linter.unusedVariables false
set_option linter.unusedSimpArgs false
def hash8 (c : UInt8) : Bool := c.toNat == 35
def note8 (c : UInt8) : Bool := c.toNat != 10
/-- such a byte stands there -/
def onB (p : UInt8 → Bool) (l : List UInt8) (i : Nat) : Bool := decide (i < l.length) && p (l.getD i 0)
/-- where such bytes end -/
def runF (p : UInt8 → Bool) (l : List UInt8) (i : Nat) : Nat := i + runL p (l.drop i)
theorem at_list {s : ByteArray} {i : Nat} (h : i < s.size) : s.data.toList.getD i 0 = s[i] := by
  rw [List.getD_eq_getElem?_getD, List.getElem?_eq_getElem (by simpa using h)]; rfl
theorem size_list (s : ByteArray) : s.data.toList.length = s.size := by simp
theorem onB_in {p : UInt8 → Bool} {s : ByteArray} {i : Nat} (h : i < s.size) : onB p s.data.toList i = p s[i] := by
  unfold onB; rw [at_list h, size_list]; simp [h]
theorem onB_out {p : UInt8 → Bool} {l : List UInt8} {i : Nat} (h : l.length ≤ i) : onB p l i = false := by
  unfold onB; rw [decide_eq_false (by omega)]; rfl
theorem runF_on {p : UInt8 → Bool} {l : List UInt8} {i : Nat} (h : onB p l i = true) : i < l.length ∧ runF p l i = runF p l (i + 1) := by
  unfold onB at h
  simp only [Bool.and_eq_true, decide_eq_true_eq] at h
  refine ⟨h.1, ?_⟩
  unfold runF runL
  rw [List.drop_eq_getElem_cons h.1, List.takeWhile_cons, if_pos (by have h2 := h.2; rwa [List.getD_eq_getElem?_getD, List.getElem?_eq_getElem h.1] at h2)]
  simp; omega
theorem runF_off {p : UInt8 → Bool} {l : List UInt8} {i : Nat} (h : onB p l i = false) : runF p l i = i := by
  unfold runF runL
  rcases Nat.lt_or_ge i l.length with hi | hi
  · have hp : p l[i] = false := by
      unfold onB at h
      rw [decide_eq_true hi, Bool.true_and, List.getD_eq_getElem?_getD, List.getElem?_eq_getElem hi] at h
      exact h
    rw [List.drop_eq_getElem_cons hi, List.takeWhile_cons, if_neg (by rw [hp]; decide)]; rfl
  · rw [List.drop_of_length_le hi]; rfl
theorem runF_le {p : UInt8 → Bool} {l : List UInt8} {i : Nat} (h : i ≤ l.length) : runF p l i ≤ l.length := by
  unfold runF
  have := run_le (p := p) (r := l.drop i)
  rw [List.length_drop] at this
  omega
theorem runF_ge {p : UInt8 → Bool} {l : List UInt8} {i : Nat} : i ≤ runF p l i := by unfold runF; omega

end Go.Proofs.YtgdkomkflfodaaaGreat.Token
/- Word of package token: a contract of the call, over the turned program. -/
namespace Go.Proofs.YtgdkomkflfodaaaGreat.Token
open Go.RowKit Go.Proofs.YtgdkomkflfodaaaGreat.Colour
set_option linter.unusedVariables false
set_option linter.unusedSimpArgs false
theorem list_ne {s : ByteArray} {l : List UInt8} (h : s.data.toList ≠ l) : (s.toList == l) = false := by
  rw [Go.ByteArray.toList_eq]; exact beq_eq_false_iff_ne.2 h
theorem list_is {s : ByteArray} {l : List UInt8} (h : s.data.toList = l) : (s.toList == l) = true := by
  rw [Go.ByteArray.toList_eq, h]; exact beq_self_eq_true l
theorem word_ne {s : ByteArray} (h : wordB s.data.toList = false) {l : List UInt8} (hl : l ∈ wordsL) : s.data.toList ≠ l := fun e => by
  have := of_decide_eq_false h; rw [e] at this; exact this hl

set_option maxHeartbeats 2000000 in
theorem word_no (s : ByteArray) (w : World) (hs : wordB s.data.toList = false) : Calls Tryz.prog 19 #[.string s] w fun e w' => e = .returned (.bool false) ∧ w' = w := by
  have h0 : (s.toList == [99, 111, 108, 111, 117, 114]) = false := list_ne (word_ne hs (by decide))
  have h1 : (s.toList == [112, 108, 97, 99, 101]) = false := list_ne (word_ne hs (by decide))
  have h2 : (s.toList == [116, 97, 115, 107]) = false := list_ne (word_ne hs (by decide))
  have h3 : (s.toList == [118, 97, 114]) = false := list_ne (word_ne hs (by decide))
  have h4 : (s.toList == [119, 104, 101, 110]) = false := list_ne (word_ne hs (by decide))
  have h5 : (s.toList == [106, 111, 105, 110]) = false := list_ne (word_ne hs (by decide))
  have h6 : (s.toList == [115, 112, 108, 105, 116]) = false := list_ne (word_ne hs (by decide))
  have h7 : (s.toList == [105, 110]) = false := list_ne (word_ne hs (by decide))
  have h8 : (s.toList == [111, 117, 116]) = false := list_ne (word_ne hs (by decide))
  have h9 : (s.toList == [99, 97, 110, 99, 101, 108]) = false := list_ne (word_ne hs (by decide))
  have h10 : (s.toList == [97, 102, 116, 101, 114]) = false := list_ne (word_ne hs (by decide))
  have h11 : (s.toList == [109, 97, 110, 121]) = false := list_ne (word_ne hs (by decide))
  have h12 : (s.toList == [102, 114, 111, 109]) = false := list_ne (word_ne hs (by decide))
  have h13 : (s.toList == [116, 111]) = false := list_ne (word_ne hs (by decide))
  have h14 : (s.toList == [105, 110, 116]) = false := list_ne (word_ne hs (by decide))
  have h15 : (s.toList == [101, 110, 117, 109]) = false := list_ne (word_ne hs (by decide))
  have h16 : (s.toList == [112, 97, 105, 114]) = false := list_ne (word_ne hs (by decide))
  have h17 : (s.toList == [97, 110, 100]) = false := list_ne (word_ne hs (by decide))
  have h18 : (s.toList == [120, 111, 114]) = false := list_ne (word_ne hs (by decide))
  have h19 : (s.toList == [111, 114]) = false := list_ne (word_ne hs (by decide))
  have h20 : (s.toList == [105, 102]) = false := list_ne (word_ne hs (by decide))
  clear hs
  go_enter Tryz.func19, Tryz.ntmps19
  go_wp2
  go_ret
  exact ⟨rfl, rfl⟩

set_option maxHeartbeats 2000000 in
theorem word_0 (s : ByteArray) (w : World) (hs : s.data.toList = [99, 111, 108, 111, 117, 114]) : Calls Tryz.prog 19 #[.string s] w fun e w' => e = .returned (.bool true) ∧ w' = w := by
  have h0 : (s.toList == [99, 111, 108, 111, 117, 114]) = true := list_is hs
  have h1 : (s.toList == [112, 108, 97, 99, 101]) = false := list_ne (by rw [hs]; decide)
  have h2 : (s.toList == [116, 97, 115, 107]) = false := list_ne (by rw [hs]; decide)
  have h3 : (s.toList == [118, 97, 114]) = false := list_ne (by rw [hs]; decide)
  have h4 : (s.toList == [119, 104, 101, 110]) = false := list_ne (by rw [hs]; decide)
  have h5 : (s.toList == [106, 111, 105, 110]) = false := list_ne (by rw [hs]; decide)
  have h6 : (s.toList == [115, 112, 108, 105, 116]) = false := list_ne (by rw [hs]; decide)
  have h7 : (s.toList == [105, 110]) = false := list_ne (by rw [hs]; decide)
  have h8 : (s.toList == [111, 117, 116]) = false := list_ne (by rw [hs]; decide)
  have h9 : (s.toList == [99, 97, 110, 99, 101, 108]) = false := list_ne (by rw [hs]; decide)
  have h10 : (s.toList == [97, 102, 116, 101, 114]) = false := list_ne (by rw [hs]; decide)
  have h11 : (s.toList == [109, 97, 110, 121]) = false := list_ne (by rw [hs]; decide)
  have h12 : (s.toList == [102, 114, 111, 109]) = false := list_ne (by rw [hs]; decide)
  have h13 : (s.toList == [116, 111]) = false := list_ne (by rw [hs]; decide)
  have h14 : (s.toList == [105, 110, 116]) = false := list_ne (by rw [hs]; decide)
  have h15 : (s.toList == [101, 110, 117, 109]) = false := list_ne (by rw [hs]; decide)
  have h16 : (s.toList == [112, 97, 105, 114]) = false := list_ne (by rw [hs]; decide)
  have h17 : (s.toList == [97, 110, 100]) = false := list_ne (by rw [hs]; decide)
  have h18 : (s.toList == [120, 111, 114]) = false := list_ne (by rw [hs]; decide)
  have h19 : (s.toList == [111, 114]) = false := list_ne (by rw [hs]; decide)
  have h20 : (s.toList == [105, 102]) = false := list_ne (by rw [hs]; decide)
  clear hs
  go_enter Tryz.func19, Tryz.ntmps19
  go_wp2
  go_ret
  exact ⟨rfl, rfl⟩

set_option maxHeartbeats 2000000 in
theorem word_1 (s : ByteArray) (w : World) (hs : s.data.toList = [112, 108, 97, 99, 101]) : Calls Tryz.prog 19 #[.string s] w fun e w' => e = .returned (.bool true) ∧ w' = w := by
  have h0 : (s.toList == [99, 111, 108, 111, 117, 114]) = false := list_ne (by rw [hs]; decide)
  have h1 : (s.toList == [112, 108, 97, 99, 101]) = true := list_is hs
  have h2 : (s.toList == [116, 97, 115, 107]) = false := list_ne (by rw [hs]; decide)
  have h3 : (s.toList == [118, 97, 114]) = false := list_ne (by rw [hs]; decide)
  have h4 : (s.toList == [119, 104, 101, 110]) = false := list_ne (by rw [hs]; decide)
  have h5 : (s.toList == [106, 111, 105, 110]) = false := list_ne (by rw [hs]; decide)
  have h6 : (s.toList == [115, 112, 108, 105, 116]) = false := list_ne (by rw [hs]; decide)
  have h7 : (s.toList == [105, 110]) = false := list_ne (by rw [hs]; decide)
  have h8 : (s.toList == [111, 117, 116]) = false := list_ne (by rw [hs]; decide)
  have h9 : (s.toList == [99, 97, 110, 99, 101, 108]) = false := list_ne (by rw [hs]; decide)
  have h10 : (s.toList == [97, 102, 116, 101, 114]) = false := list_ne (by rw [hs]; decide)
  have h11 : (s.toList == [109, 97, 110, 121]) = false := list_ne (by rw [hs]; decide)
  have h12 : (s.toList == [102, 114, 111, 109]) = false := list_ne (by rw [hs]; decide)
  have h13 : (s.toList == [116, 111]) = false := list_ne (by rw [hs]; decide)
  have h14 : (s.toList == [105, 110, 116]) = false := list_ne (by rw [hs]; decide)
  have h15 : (s.toList == [101, 110, 117, 109]) = false := list_ne (by rw [hs]; decide)
  have h16 : (s.toList == [112, 97, 105, 114]) = false := list_ne (by rw [hs]; decide)
  have h17 : (s.toList == [97, 110, 100]) = false := list_ne (by rw [hs]; decide)
  have h18 : (s.toList == [120, 111, 114]) = false := list_ne (by rw [hs]; decide)
  have h19 : (s.toList == [111, 114]) = false := list_ne (by rw [hs]; decide)
  have h20 : (s.toList == [105, 102]) = false := list_ne (by rw [hs]; decide)
  clear hs
  go_enter Tryz.func19, Tryz.ntmps19
  go_wp2
  go_ret
  exact ⟨rfl, rfl⟩

set_option maxHeartbeats 2000000 in
theorem word_2 (s : ByteArray) (w : World) (hs : s.data.toList = [116, 97, 115, 107]) : Calls Tryz.prog 19 #[.string s] w fun e w' => e = .returned (.bool true) ∧ w' = w := by
  have h0 : (s.toList == [99, 111, 108, 111, 117, 114]) = false := list_ne (by rw [hs]; decide)
  have h1 : (s.toList == [112, 108, 97, 99, 101]) = false := list_ne (by rw [hs]; decide)
  have h2 : (s.toList == [116, 97, 115, 107]) = true := list_is hs
  have h3 : (s.toList == [118, 97, 114]) = false := list_ne (by rw [hs]; decide)
  have h4 : (s.toList == [119, 104, 101, 110]) = false := list_ne (by rw [hs]; decide)
  have h5 : (s.toList == [106, 111, 105, 110]) = false := list_ne (by rw [hs]; decide)
  have h6 : (s.toList == [115, 112, 108, 105, 116]) = false := list_ne (by rw [hs]; decide)
  have h7 : (s.toList == [105, 110]) = false := list_ne (by rw [hs]; decide)
  have h8 : (s.toList == [111, 117, 116]) = false := list_ne (by rw [hs]; decide)
  have h9 : (s.toList == [99, 97, 110, 99, 101, 108]) = false := list_ne (by rw [hs]; decide)
  have h10 : (s.toList == [97, 102, 116, 101, 114]) = false := list_ne (by rw [hs]; decide)
  have h11 : (s.toList == [109, 97, 110, 121]) = false := list_ne (by rw [hs]; decide)
  have h12 : (s.toList == [102, 114, 111, 109]) = false := list_ne (by rw [hs]; decide)
  have h13 : (s.toList == [116, 111]) = false := list_ne (by rw [hs]; decide)
  have h14 : (s.toList == [105, 110, 116]) = false := list_ne (by rw [hs]; decide)
  have h15 : (s.toList == [101, 110, 117, 109]) = false := list_ne (by rw [hs]; decide)
  have h16 : (s.toList == [112, 97, 105, 114]) = false := list_ne (by rw [hs]; decide)
  have h17 : (s.toList == [97, 110, 100]) = false := list_ne (by rw [hs]; decide)
  have h18 : (s.toList == [120, 111, 114]) = false := list_ne (by rw [hs]; decide)
  have h19 : (s.toList == [111, 114]) = false := list_ne (by rw [hs]; decide)
  have h20 : (s.toList == [105, 102]) = false := list_ne (by rw [hs]; decide)
  clear hs
  go_enter Tryz.func19, Tryz.ntmps19
  go_wp2
  go_ret
  exact ⟨rfl, rfl⟩

set_option maxHeartbeats 2000000 in
theorem word_3 (s : ByteArray) (w : World) (hs : s.data.toList = [118, 97, 114]) : Calls Tryz.prog 19 #[.string s] w fun e w' => e = .returned (.bool true) ∧ w' = w := by
  have h0 : (s.toList == [99, 111, 108, 111, 117, 114]) = false := list_ne (by rw [hs]; decide)
  have h1 : (s.toList == [112, 108, 97, 99, 101]) = false := list_ne (by rw [hs]; decide)
  have h2 : (s.toList == [116, 97, 115, 107]) = false := list_ne (by rw [hs]; decide)
  have h3 : (s.toList == [118, 97, 114]) = true := list_is hs
  have h4 : (s.toList == [119, 104, 101, 110]) = false := list_ne (by rw [hs]; decide)
  have h5 : (s.toList == [106, 111, 105, 110]) = false := list_ne (by rw [hs]; decide)
  have h6 : (s.toList == [115, 112, 108, 105, 116]) = false := list_ne (by rw [hs]; decide)
  have h7 : (s.toList == [105, 110]) = false := list_ne (by rw [hs]; decide)
  have h8 : (s.toList == [111, 117, 116]) = false := list_ne (by rw [hs]; decide)
  have h9 : (s.toList == [99, 97, 110, 99, 101, 108]) = false := list_ne (by rw [hs]; decide)
  have h10 : (s.toList == [97, 102, 116, 101, 114]) = false := list_ne (by rw [hs]; decide)
  have h11 : (s.toList == [109, 97, 110, 121]) = false := list_ne (by rw [hs]; decide)
  have h12 : (s.toList == [102, 114, 111, 109]) = false := list_ne (by rw [hs]; decide)
  have h13 : (s.toList == [116, 111]) = false := list_ne (by rw [hs]; decide)
  have h14 : (s.toList == [105, 110, 116]) = false := list_ne (by rw [hs]; decide)
  have h15 : (s.toList == [101, 110, 117, 109]) = false := list_ne (by rw [hs]; decide)
  have h16 : (s.toList == [112, 97, 105, 114]) = false := list_ne (by rw [hs]; decide)
  have h17 : (s.toList == [97, 110, 100]) = false := list_ne (by rw [hs]; decide)
  have h18 : (s.toList == [120, 111, 114]) = false := list_ne (by rw [hs]; decide)
  have h19 : (s.toList == [111, 114]) = false := list_ne (by rw [hs]; decide)
  have h20 : (s.toList == [105, 102]) = false := list_ne (by rw [hs]; decide)
  clear hs
  go_enter Tryz.func19, Tryz.ntmps19
  go_wp2
  go_ret
  exact ⟨rfl, rfl⟩

set_option maxHeartbeats 2000000 in
theorem word_4 (s : ByteArray) (w : World) (hs : s.data.toList = [119, 104, 101, 110]) : Calls Tryz.prog 19 #[.string s] w fun e w' => e = .returned (.bool true) ∧ w' = w := by
  have h0 : (s.toList == [99, 111, 108, 111, 117, 114]) = false := list_ne (by rw [hs]; decide)
  have h1 : (s.toList == [112, 108, 97, 99, 101]) = false := list_ne (by rw [hs]; decide)
  have h2 : (s.toList == [116, 97, 115, 107]) = false := list_ne (by rw [hs]; decide)
  have h3 : (s.toList == [118, 97, 114]) = false := list_ne (by rw [hs]; decide)
  have h4 : (s.toList == [119, 104, 101, 110]) = true := list_is hs
  have h5 : (s.toList == [106, 111, 105, 110]) = false := list_ne (by rw [hs]; decide)
  have h6 : (s.toList == [115, 112, 108, 105, 116]) = false := list_ne (by rw [hs]; decide)
  have h7 : (s.toList == [105, 110]) = false := list_ne (by rw [hs]; decide)
  have h8 : (s.toList == [111, 117, 116]) = false := list_ne (by rw [hs]; decide)
  have h9 : (s.toList == [99, 97, 110, 99, 101, 108]) = false := list_ne (by rw [hs]; decide)
  have h10 : (s.toList == [97, 102, 116, 101, 114]) = false := list_ne (by rw [hs]; decide)
  have h11 : (s.toList == [109, 97, 110, 121]) = false := list_ne (by rw [hs]; decide)
  have h12 : (s.toList == [102, 114, 111, 109]) = false := list_ne (by rw [hs]; decide)
  have h13 : (s.toList == [116, 111]) = false := list_ne (by rw [hs]; decide)
  have h14 : (s.toList == [105, 110, 116]) = false := list_ne (by rw [hs]; decide)
  have h15 : (s.toList == [101, 110, 117, 109]) = false := list_ne (by rw [hs]; decide)
  have h16 : (s.toList == [112, 97, 105, 114]) = false := list_ne (by rw [hs]; decide)
  have h17 : (s.toList == [97, 110, 100]) = false := list_ne (by rw [hs]; decide)
  have h18 : (s.toList == [120, 111, 114]) = false := list_ne (by rw [hs]; decide)
  have h19 : (s.toList == [111, 114]) = false := list_ne (by rw [hs]; decide)
  have h20 : (s.toList == [105, 102]) = false := list_ne (by rw [hs]; decide)
  clear hs
  go_enter Tryz.func19, Tryz.ntmps19
  go_wp2
  go_ret
  exact ⟨rfl, rfl⟩

set_option maxHeartbeats 2000000 in
theorem word_5 (s : ByteArray) (w : World) (hs : s.data.toList = [106, 111, 105, 110]) : Calls Tryz.prog 19 #[.string s] w fun e w' => e = .returned (.bool true) ∧ w' = w := by
  have h0 : (s.toList == [99, 111, 108, 111, 117, 114]) = false := list_ne (by rw [hs]; decide)
  have h1 : (s.toList == [112, 108, 97, 99, 101]) = false := list_ne (by rw [hs]; decide)
  have h2 : (s.toList == [116, 97, 115, 107]) = false := list_ne (by rw [hs]; decide)
  have h3 : (s.toList == [118, 97, 114]) = false := list_ne (by rw [hs]; decide)
  have h4 : (s.toList == [119, 104, 101, 110]) = false := list_ne (by rw [hs]; decide)
  have h5 : (s.toList == [106, 111, 105, 110]) = true := list_is hs
  have h6 : (s.toList == [115, 112, 108, 105, 116]) = false := list_ne (by rw [hs]; decide)
  have h7 : (s.toList == [105, 110]) = false := list_ne (by rw [hs]; decide)
  have h8 : (s.toList == [111, 117, 116]) = false := list_ne (by rw [hs]; decide)
  have h9 : (s.toList == [99, 97, 110, 99, 101, 108]) = false := list_ne (by rw [hs]; decide)
  have h10 : (s.toList == [97, 102, 116, 101, 114]) = false := list_ne (by rw [hs]; decide)
  have h11 : (s.toList == [109, 97, 110, 121]) = false := list_ne (by rw [hs]; decide)
  have h12 : (s.toList == [102, 114, 111, 109]) = false := list_ne (by rw [hs]; decide)
  have h13 : (s.toList == [116, 111]) = false := list_ne (by rw [hs]; decide)
  have h14 : (s.toList == [105, 110, 116]) = false := list_ne (by rw [hs]; decide)
  have h15 : (s.toList == [101, 110, 117, 109]) = false := list_ne (by rw [hs]; decide)
  have h16 : (s.toList == [112, 97, 105, 114]) = false := list_ne (by rw [hs]; decide)
  have h17 : (s.toList == [97, 110, 100]) = false := list_ne (by rw [hs]; decide)
  have h18 : (s.toList == [120, 111, 114]) = false := list_ne (by rw [hs]; decide)
  have h19 : (s.toList == [111, 114]) = false := list_ne (by rw [hs]; decide)
  have h20 : (s.toList == [105, 102]) = false := list_ne (by rw [hs]; decide)
  clear hs
  go_enter Tryz.func19, Tryz.ntmps19
  go_wp2
  go_ret
  exact ⟨rfl, rfl⟩

set_option maxHeartbeats 2000000 in
theorem word_6 (s : ByteArray) (w : World) (hs : s.data.toList = [115, 112, 108, 105, 116]) : Calls Tryz.prog 19 #[.string s] w fun e w' => e = .returned (.bool true) ∧ w' = w := by
  have h0 : (s.toList == [99, 111, 108, 111, 117, 114]) = false := list_ne (by rw [hs]; decide)
  have h1 : (s.toList == [112, 108, 97, 99, 101]) = false := list_ne (by rw [hs]; decide)
  have h2 : (s.toList == [116, 97, 115, 107]) = false := list_ne (by rw [hs]; decide)
  have h3 : (s.toList == [118, 97, 114]) = false := list_ne (by rw [hs]; decide)
  have h4 : (s.toList == [119, 104, 101, 110]) = false := list_ne (by rw [hs]; decide)
  have h5 : (s.toList == [106, 111, 105, 110]) = false := list_ne (by rw [hs]; decide)
  have h6 : (s.toList == [115, 112, 108, 105, 116]) = true := list_is hs
  have h7 : (s.toList == [105, 110]) = false := list_ne (by rw [hs]; decide)
  have h8 : (s.toList == [111, 117, 116]) = false := list_ne (by rw [hs]; decide)
  have h9 : (s.toList == [99, 97, 110, 99, 101, 108]) = false := list_ne (by rw [hs]; decide)
  have h10 : (s.toList == [97, 102, 116, 101, 114]) = false := list_ne (by rw [hs]; decide)
  have h11 : (s.toList == [109, 97, 110, 121]) = false := list_ne (by rw [hs]; decide)
  have h12 : (s.toList == [102, 114, 111, 109]) = false := list_ne (by rw [hs]; decide)
  have h13 : (s.toList == [116, 111]) = false := list_ne (by rw [hs]; decide)
  have h14 : (s.toList == [105, 110, 116]) = false := list_ne (by rw [hs]; decide)
  have h15 : (s.toList == [101, 110, 117, 109]) = false := list_ne (by rw [hs]; decide)
  have h16 : (s.toList == [112, 97, 105, 114]) = false := list_ne (by rw [hs]; decide)
  have h17 : (s.toList == [97, 110, 100]) = false := list_ne (by rw [hs]; decide)
  have h18 : (s.toList == [120, 111, 114]) = false := list_ne (by rw [hs]; decide)
  have h19 : (s.toList == [111, 114]) = false := list_ne (by rw [hs]; decide)
  have h20 : (s.toList == [105, 102]) = false := list_ne (by rw [hs]; decide)
  clear hs
  go_enter Tryz.func19, Tryz.ntmps19
  go_wp2
  go_ret
  exact ⟨rfl, rfl⟩

set_option maxHeartbeats 2000000 in
theorem word_7 (s : ByteArray) (w : World) (hs : s.data.toList = [105, 110]) : Calls Tryz.prog 19 #[.string s] w fun e w' => e = .returned (.bool true) ∧ w' = w := by
  have h0 : (s.toList == [99, 111, 108, 111, 117, 114]) = false := list_ne (by rw [hs]; decide)
  have h1 : (s.toList == [112, 108, 97, 99, 101]) = false := list_ne (by rw [hs]; decide)
  have h2 : (s.toList == [116, 97, 115, 107]) = false := list_ne (by rw [hs]; decide)
  have h3 : (s.toList == [118, 97, 114]) = false := list_ne (by rw [hs]; decide)
  have h4 : (s.toList == [119, 104, 101, 110]) = false := list_ne (by rw [hs]; decide)
  have h5 : (s.toList == [106, 111, 105, 110]) = false := list_ne (by rw [hs]; decide)
  have h6 : (s.toList == [115, 112, 108, 105, 116]) = false := list_ne (by rw [hs]; decide)
  have h7 : (s.toList == [105, 110]) = true := list_is hs
  have h8 : (s.toList == [111, 117, 116]) = false := list_ne (by rw [hs]; decide)
  have h9 : (s.toList == [99, 97, 110, 99, 101, 108]) = false := list_ne (by rw [hs]; decide)
  have h10 : (s.toList == [97, 102, 116, 101, 114]) = false := list_ne (by rw [hs]; decide)
  have h11 : (s.toList == [109, 97, 110, 121]) = false := list_ne (by rw [hs]; decide)
  have h12 : (s.toList == [102, 114, 111, 109]) = false := list_ne (by rw [hs]; decide)
  have h13 : (s.toList == [116, 111]) = false := list_ne (by rw [hs]; decide)
  have h14 : (s.toList == [105, 110, 116]) = false := list_ne (by rw [hs]; decide)
  have h15 : (s.toList == [101, 110, 117, 109]) = false := list_ne (by rw [hs]; decide)
  have h16 : (s.toList == [112, 97, 105, 114]) = false := list_ne (by rw [hs]; decide)
  have h17 : (s.toList == [97, 110, 100]) = false := list_ne (by rw [hs]; decide)
  have h18 : (s.toList == [120, 111, 114]) = false := list_ne (by rw [hs]; decide)
  have h19 : (s.toList == [111, 114]) = false := list_ne (by rw [hs]; decide)
  have h20 : (s.toList == [105, 102]) = false := list_ne (by rw [hs]; decide)
  clear hs
  go_enter Tryz.func19, Tryz.ntmps19
  go_wp2
  go_ret
  exact ⟨rfl, rfl⟩

set_option maxHeartbeats 2000000 in
theorem word_8 (s : ByteArray) (w : World) (hs : s.data.toList = [111, 117, 116]) : Calls Tryz.prog 19 #[.string s] w fun e w' => e = .returned (.bool true) ∧ w' = w := by
  have h0 : (s.toList == [99, 111, 108, 111, 117, 114]) = false := list_ne (by rw [hs]; decide)
  have h1 : (s.toList == [112, 108, 97, 99, 101]) = false := list_ne (by rw [hs]; decide)
  have h2 : (s.toList == [116, 97, 115, 107]) = false := list_ne (by rw [hs]; decide)
  have h3 : (s.toList == [118, 97, 114]) = false := list_ne (by rw [hs]; decide)
  have h4 : (s.toList == [119, 104, 101, 110]) = false := list_ne (by rw [hs]; decide)
  have h5 : (s.toList == [106, 111, 105, 110]) = false := list_ne (by rw [hs]; decide)
  have h6 : (s.toList == [115, 112, 108, 105, 116]) = false := list_ne (by rw [hs]; decide)
  have h7 : (s.toList == [105, 110]) = false := list_ne (by rw [hs]; decide)
  have h8 : (s.toList == [111, 117, 116]) = true := list_is hs
  have h9 : (s.toList == [99, 97, 110, 99, 101, 108]) = false := list_ne (by rw [hs]; decide)
  have h10 : (s.toList == [97, 102, 116, 101, 114]) = false := list_ne (by rw [hs]; decide)
  have h11 : (s.toList == [109, 97, 110, 121]) = false := list_ne (by rw [hs]; decide)
  have h12 : (s.toList == [102, 114, 111, 109]) = false := list_ne (by rw [hs]; decide)
  have h13 : (s.toList == [116, 111]) = false := list_ne (by rw [hs]; decide)
  have h14 : (s.toList == [105, 110, 116]) = false := list_ne (by rw [hs]; decide)
  have h15 : (s.toList == [101, 110, 117, 109]) = false := list_ne (by rw [hs]; decide)
  have h16 : (s.toList == [112, 97, 105, 114]) = false := list_ne (by rw [hs]; decide)
  have h17 : (s.toList == [97, 110, 100]) = false := list_ne (by rw [hs]; decide)
  have h18 : (s.toList == [120, 111, 114]) = false := list_ne (by rw [hs]; decide)
  have h19 : (s.toList == [111, 114]) = false := list_ne (by rw [hs]; decide)
  have h20 : (s.toList == [105, 102]) = false := list_ne (by rw [hs]; decide)
  clear hs
  go_enter Tryz.func19, Tryz.ntmps19
  go_wp2
  go_ret
  exact ⟨rfl, rfl⟩

set_option maxHeartbeats 2000000 in
theorem word_9 (s : ByteArray) (w : World) (hs : s.data.toList = [99, 97, 110, 99, 101, 108]) : Calls Tryz.prog 19 #[.string s] w fun e w' => e = .returned (.bool true) ∧ w' = w := by
  have h0 : (s.toList == [99, 111, 108, 111, 117, 114]) = false := list_ne (by rw [hs]; decide)
  have h1 : (s.toList == [112, 108, 97, 99, 101]) = false := list_ne (by rw [hs]; decide)
  have h2 : (s.toList == [116, 97, 115, 107]) = false := list_ne (by rw [hs]; decide)
  have h3 : (s.toList == [118, 97, 114]) = false := list_ne (by rw [hs]; decide)
  have h4 : (s.toList == [119, 104, 101, 110]) = false := list_ne (by rw [hs]; decide)
  have h5 : (s.toList == [106, 111, 105, 110]) = false := list_ne (by rw [hs]; decide)
  have h6 : (s.toList == [115, 112, 108, 105, 116]) = false := list_ne (by rw [hs]; decide)
  have h7 : (s.toList == [105, 110]) = false := list_ne (by rw [hs]; decide)
  have h8 : (s.toList == [111, 117, 116]) = false := list_ne (by rw [hs]; decide)
  have h9 : (s.toList == [99, 97, 110, 99, 101, 108]) = true := list_is hs
  have h10 : (s.toList == [97, 102, 116, 101, 114]) = false := list_ne (by rw [hs]; decide)
  have h11 : (s.toList == [109, 97, 110, 121]) = false := list_ne (by rw [hs]; decide)
  have h12 : (s.toList == [102, 114, 111, 109]) = false := list_ne (by rw [hs]; decide)
  have h13 : (s.toList == [116, 111]) = false := list_ne (by rw [hs]; decide)
  have h14 : (s.toList == [105, 110, 116]) = false := list_ne (by rw [hs]; decide)
  have h15 : (s.toList == [101, 110, 117, 109]) = false := list_ne (by rw [hs]; decide)
  have h16 : (s.toList == [112, 97, 105, 114]) = false := list_ne (by rw [hs]; decide)
  have h17 : (s.toList == [97, 110, 100]) = false := list_ne (by rw [hs]; decide)
  have h18 : (s.toList == [120, 111, 114]) = false := list_ne (by rw [hs]; decide)
  have h19 : (s.toList == [111, 114]) = false := list_ne (by rw [hs]; decide)
  have h20 : (s.toList == [105, 102]) = false := list_ne (by rw [hs]; decide)
  clear hs
  go_enter Tryz.func19, Tryz.ntmps19
  go_wp2
  go_ret
  exact ⟨rfl, rfl⟩

set_option maxHeartbeats 2000000 in
theorem word_10 (s : ByteArray) (w : World) (hs : s.data.toList = [97, 102, 116, 101, 114]) : Calls Tryz.prog 19 #[.string s] w fun e w' => e = .returned (.bool true) ∧ w' = w := by
  have h0 : (s.toList == [99, 111, 108, 111, 117, 114]) = false := list_ne (by rw [hs]; decide)
  have h1 : (s.toList == [112, 108, 97, 99, 101]) = false := list_ne (by rw [hs]; decide)
  have h2 : (s.toList == [116, 97, 115, 107]) = false := list_ne (by rw [hs]; decide)
  have h3 : (s.toList == [118, 97, 114]) = false := list_ne (by rw [hs]; decide)
  have h4 : (s.toList == [119, 104, 101, 110]) = false := list_ne (by rw [hs]; decide)
  have h5 : (s.toList == [106, 111, 105, 110]) = false := list_ne (by rw [hs]; decide)
  have h6 : (s.toList == [115, 112, 108, 105, 116]) = false := list_ne (by rw [hs]; decide)
  have h7 : (s.toList == [105, 110]) = false := list_ne (by rw [hs]; decide)
  have h8 : (s.toList == [111, 117, 116]) = false := list_ne (by rw [hs]; decide)
  have h9 : (s.toList == [99, 97, 110, 99, 101, 108]) = false := list_ne (by rw [hs]; decide)
  have h10 : (s.toList == [97, 102, 116, 101, 114]) = true := list_is hs
  have h11 : (s.toList == [109, 97, 110, 121]) = false := list_ne (by rw [hs]; decide)
  have h12 : (s.toList == [102, 114, 111, 109]) = false := list_ne (by rw [hs]; decide)
  have h13 : (s.toList == [116, 111]) = false := list_ne (by rw [hs]; decide)
  have h14 : (s.toList == [105, 110, 116]) = false := list_ne (by rw [hs]; decide)
  have h15 : (s.toList == [101, 110, 117, 109]) = false := list_ne (by rw [hs]; decide)
  have h16 : (s.toList == [112, 97, 105, 114]) = false := list_ne (by rw [hs]; decide)
  have h17 : (s.toList == [97, 110, 100]) = false := list_ne (by rw [hs]; decide)
  have h18 : (s.toList == [120, 111, 114]) = false := list_ne (by rw [hs]; decide)
  have h19 : (s.toList == [111, 114]) = false := list_ne (by rw [hs]; decide)
  have h20 : (s.toList == [105, 102]) = false := list_ne (by rw [hs]; decide)
  clear hs
  go_enter Tryz.func19, Tryz.ntmps19
  go_wp2
  go_ret
  exact ⟨rfl, rfl⟩

set_option maxHeartbeats 2000000 in
theorem word_11 (s : ByteArray) (w : World) (hs : s.data.toList = [109, 97, 110, 121]) : Calls Tryz.prog 19 #[.string s] w fun e w' => e = .returned (.bool true) ∧ w' = w := by
  have h0 : (s.toList == [99, 111, 108, 111, 117, 114]) = false := list_ne (by rw [hs]; decide)
  have h1 : (s.toList == [112, 108, 97, 99, 101]) = false := list_ne (by rw [hs]; decide)
  have h2 : (s.toList == [116, 97, 115, 107]) = false := list_ne (by rw [hs]; decide)
  have h3 : (s.toList == [118, 97, 114]) = false := list_ne (by rw [hs]; decide)
  have h4 : (s.toList == [119, 104, 101, 110]) = false := list_ne (by rw [hs]; decide)
  have h5 : (s.toList == [106, 111, 105, 110]) = false := list_ne (by rw [hs]; decide)
  have h6 : (s.toList == [115, 112, 108, 105, 116]) = false := list_ne (by rw [hs]; decide)
  have h7 : (s.toList == [105, 110]) = false := list_ne (by rw [hs]; decide)
  have h8 : (s.toList == [111, 117, 116]) = false := list_ne (by rw [hs]; decide)
  have h9 : (s.toList == [99, 97, 110, 99, 101, 108]) = false := list_ne (by rw [hs]; decide)
  have h10 : (s.toList == [97, 102, 116, 101, 114]) = false := list_ne (by rw [hs]; decide)
  have h11 : (s.toList == [109, 97, 110, 121]) = true := list_is hs
  have h12 : (s.toList == [102, 114, 111, 109]) = false := list_ne (by rw [hs]; decide)
  have h13 : (s.toList == [116, 111]) = false := list_ne (by rw [hs]; decide)
  have h14 : (s.toList == [105, 110, 116]) = false := list_ne (by rw [hs]; decide)
  have h15 : (s.toList == [101, 110, 117, 109]) = false := list_ne (by rw [hs]; decide)
  have h16 : (s.toList == [112, 97, 105, 114]) = false := list_ne (by rw [hs]; decide)
  have h17 : (s.toList == [97, 110, 100]) = false := list_ne (by rw [hs]; decide)
  have h18 : (s.toList == [120, 111, 114]) = false := list_ne (by rw [hs]; decide)
  have h19 : (s.toList == [111, 114]) = false := list_ne (by rw [hs]; decide)
  have h20 : (s.toList == [105, 102]) = false := list_ne (by rw [hs]; decide)
  clear hs
  go_enter Tryz.func19, Tryz.ntmps19
  go_wp2
  go_ret
  exact ⟨rfl, rfl⟩

set_option maxHeartbeats 2000000 in
theorem word_12 (s : ByteArray) (w : World) (hs : s.data.toList = [102, 114, 111, 109]) : Calls Tryz.prog 19 #[.string s] w fun e w' => e = .returned (.bool true) ∧ w' = w := by
  have h0 : (s.toList == [99, 111, 108, 111, 117, 114]) = false := list_ne (by rw [hs]; decide)
  have h1 : (s.toList == [112, 108, 97, 99, 101]) = false := list_ne (by rw [hs]; decide)
  have h2 : (s.toList == [116, 97, 115, 107]) = false := list_ne (by rw [hs]; decide)
  have h3 : (s.toList == [118, 97, 114]) = false := list_ne (by rw [hs]; decide)
  have h4 : (s.toList == [119, 104, 101, 110]) = false := list_ne (by rw [hs]; decide)
  have h5 : (s.toList == [106, 111, 105, 110]) = false := list_ne (by rw [hs]; decide)
  have h6 : (s.toList == [115, 112, 108, 105, 116]) = false := list_ne (by rw [hs]; decide)
  have h7 : (s.toList == [105, 110]) = false := list_ne (by rw [hs]; decide)
  have h8 : (s.toList == [111, 117, 116]) = false := list_ne (by rw [hs]; decide)
  have h9 : (s.toList == [99, 97, 110, 99, 101, 108]) = false := list_ne (by rw [hs]; decide)
  have h10 : (s.toList == [97, 102, 116, 101, 114]) = false := list_ne (by rw [hs]; decide)
  have h11 : (s.toList == [109, 97, 110, 121]) = false := list_ne (by rw [hs]; decide)
  have h12 : (s.toList == [102, 114, 111, 109]) = true := list_is hs
  have h13 : (s.toList == [116, 111]) = false := list_ne (by rw [hs]; decide)
  have h14 : (s.toList == [105, 110, 116]) = false := list_ne (by rw [hs]; decide)
  have h15 : (s.toList == [101, 110, 117, 109]) = false := list_ne (by rw [hs]; decide)
  have h16 : (s.toList == [112, 97, 105, 114]) = false := list_ne (by rw [hs]; decide)
  have h17 : (s.toList == [97, 110, 100]) = false := list_ne (by rw [hs]; decide)
  have h18 : (s.toList == [120, 111, 114]) = false := list_ne (by rw [hs]; decide)
  have h19 : (s.toList == [111, 114]) = false := list_ne (by rw [hs]; decide)
  have h20 : (s.toList == [105, 102]) = false := list_ne (by rw [hs]; decide)
  clear hs
  go_enter Tryz.func19, Tryz.ntmps19
  go_wp2
  go_ret
  exact ⟨rfl, rfl⟩

set_option maxHeartbeats 2000000 in
theorem word_13 (s : ByteArray) (w : World) (hs : s.data.toList = [116, 111]) : Calls Tryz.prog 19 #[.string s] w fun e w' => e = .returned (.bool true) ∧ w' = w := by
  have h0 : (s.toList == [99, 111, 108, 111, 117, 114]) = false := list_ne (by rw [hs]; decide)
  have h1 : (s.toList == [112, 108, 97, 99, 101]) = false := list_ne (by rw [hs]; decide)
  have h2 : (s.toList == [116, 97, 115, 107]) = false := list_ne (by rw [hs]; decide)
  have h3 : (s.toList == [118, 97, 114]) = false := list_ne (by rw [hs]; decide)
  have h4 : (s.toList == [119, 104, 101, 110]) = false := list_ne (by rw [hs]; decide)
  have h5 : (s.toList == [106, 111, 105, 110]) = false := list_ne (by rw [hs]; decide)
  have h6 : (s.toList == [115, 112, 108, 105, 116]) = false := list_ne (by rw [hs]; decide)
  have h7 : (s.toList == [105, 110]) = false := list_ne (by rw [hs]; decide)
  have h8 : (s.toList == [111, 117, 116]) = false := list_ne (by rw [hs]; decide)
  have h9 : (s.toList == [99, 97, 110, 99, 101, 108]) = false := list_ne (by rw [hs]; decide)
  have h10 : (s.toList == [97, 102, 116, 101, 114]) = false := list_ne (by rw [hs]; decide)
  have h11 : (s.toList == [109, 97, 110, 121]) = false := list_ne (by rw [hs]; decide)
  have h12 : (s.toList == [102, 114, 111, 109]) = false := list_ne (by rw [hs]; decide)
  have h13 : (s.toList == [116, 111]) = true := list_is hs
  have h14 : (s.toList == [105, 110, 116]) = false := list_ne (by rw [hs]; decide)
  have h15 : (s.toList == [101, 110, 117, 109]) = false := list_ne (by rw [hs]; decide)
  have h16 : (s.toList == [112, 97, 105, 114]) = false := list_ne (by rw [hs]; decide)
  have h17 : (s.toList == [97, 110, 100]) = false := list_ne (by rw [hs]; decide)
  have h18 : (s.toList == [120, 111, 114]) = false := list_ne (by rw [hs]; decide)
  have h19 : (s.toList == [111, 114]) = false := list_ne (by rw [hs]; decide)
  have h20 : (s.toList == [105, 102]) = false := list_ne (by rw [hs]; decide)
  clear hs
  go_enter Tryz.func19, Tryz.ntmps19
  go_wp2
  go_ret
  exact ⟨rfl, rfl⟩

set_option maxHeartbeats 2000000 in
theorem word_14 (s : ByteArray) (w : World) (hs : s.data.toList = [105, 110, 116]) : Calls Tryz.prog 19 #[.string s] w fun e w' => e = .returned (.bool true) ∧ w' = w := by
  have h0 : (s.toList == [99, 111, 108, 111, 117, 114]) = false := list_ne (by rw [hs]; decide)
  have h1 : (s.toList == [112, 108, 97, 99, 101]) = false := list_ne (by rw [hs]; decide)
  have h2 : (s.toList == [116, 97, 115, 107]) = false := list_ne (by rw [hs]; decide)
  have h3 : (s.toList == [118, 97, 114]) = false := list_ne (by rw [hs]; decide)
  have h4 : (s.toList == [119, 104, 101, 110]) = false := list_ne (by rw [hs]; decide)
  have h5 : (s.toList == [106, 111, 105, 110]) = false := list_ne (by rw [hs]; decide)
  have h6 : (s.toList == [115, 112, 108, 105, 116]) = false := list_ne (by rw [hs]; decide)
  have h7 : (s.toList == [105, 110]) = false := list_ne (by rw [hs]; decide)
  have h8 : (s.toList == [111, 117, 116]) = false := list_ne (by rw [hs]; decide)
  have h9 : (s.toList == [99, 97, 110, 99, 101, 108]) = false := list_ne (by rw [hs]; decide)
  have h10 : (s.toList == [97, 102, 116, 101, 114]) = false := list_ne (by rw [hs]; decide)
  have h11 : (s.toList == [109, 97, 110, 121]) = false := list_ne (by rw [hs]; decide)
  have h12 : (s.toList == [102, 114, 111, 109]) = false := list_ne (by rw [hs]; decide)
  have h13 : (s.toList == [116, 111]) = false := list_ne (by rw [hs]; decide)
  have h14 : (s.toList == [105, 110, 116]) = true := list_is hs
  have h15 : (s.toList == [101, 110, 117, 109]) = false := list_ne (by rw [hs]; decide)
  have h16 : (s.toList == [112, 97, 105, 114]) = false := list_ne (by rw [hs]; decide)
  have h17 : (s.toList == [97, 110, 100]) = false := list_ne (by rw [hs]; decide)
  have h18 : (s.toList == [120, 111, 114]) = false := list_ne (by rw [hs]; decide)
  have h19 : (s.toList == [111, 114]) = false := list_ne (by rw [hs]; decide)
  have h20 : (s.toList == [105, 102]) = false := list_ne (by rw [hs]; decide)
  clear hs
  go_enter Tryz.func19, Tryz.ntmps19
  go_wp2
  go_ret
  exact ⟨rfl, rfl⟩

set_option maxHeartbeats 2000000 in
theorem word_15 (s : ByteArray) (w : World) (hs : s.data.toList = [101, 110, 117, 109]) : Calls Tryz.prog 19 #[.string s] w fun e w' => e = .returned (.bool true) ∧ w' = w := by
  have h0 : (s.toList == [99, 111, 108, 111, 117, 114]) = false := list_ne (by rw [hs]; decide)
  have h1 : (s.toList == [112, 108, 97, 99, 101]) = false := list_ne (by rw [hs]; decide)
  have h2 : (s.toList == [116, 97, 115, 107]) = false := list_ne (by rw [hs]; decide)
  have h3 : (s.toList == [118, 97, 114]) = false := list_ne (by rw [hs]; decide)
  have h4 : (s.toList == [119, 104, 101, 110]) = false := list_ne (by rw [hs]; decide)
  have h5 : (s.toList == [106, 111, 105, 110]) = false := list_ne (by rw [hs]; decide)
  have h6 : (s.toList == [115, 112, 108, 105, 116]) = false := list_ne (by rw [hs]; decide)
  have h7 : (s.toList == [105, 110]) = false := list_ne (by rw [hs]; decide)
  have h8 : (s.toList == [111, 117, 116]) = false := list_ne (by rw [hs]; decide)
  have h9 : (s.toList == [99, 97, 110, 99, 101, 108]) = false := list_ne (by rw [hs]; decide)
  have h10 : (s.toList == [97, 102, 116, 101, 114]) = false := list_ne (by rw [hs]; decide)
  have h11 : (s.toList == [109, 97, 110, 121]) = false := list_ne (by rw [hs]; decide)
  have h12 : (s.toList == [102, 114, 111, 109]) = false := list_ne (by rw [hs]; decide)
  have h13 : (s.toList == [116, 111]) = false := list_ne (by rw [hs]; decide)
  have h14 : (s.toList == [105, 110, 116]) = false := list_ne (by rw [hs]; decide)
  have h15 : (s.toList == [101, 110, 117, 109]) = true := list_is hs
  have h16 : (s.toList == [112, 97, 105, 114]) = false := list_ne (by rw [hs]; decide)
  have h17 : (s.toList == [97, 110, 100]) = false := list_ne (by rw [hs]; decide)
  have h18 : (s.toList == [120, 111, 114]) = false := list_ne (by rw [hs]; decide)
  have h19 : (s.toList == [111, 114]) = false := list_ne (by rw [hs]; decide)
  have h20 : (s.toList == [105, 102]) = false := list_ne (by rw [hs]; decide)
  clear hs
  go_enter Tryz.func19, Tryz.ntmps19
  go_wp2
  go_ret
  exact ⟨rfl, rfl⟩

set_option maxHeartbeats 2000000 in
theorem word_16 (s : ByteArray) (w : World) (hs : s.data.toList = [112, 97, 105, 114]) : Calls Tryz.prog 19 #[.string s] w fun e w' => e = .returned (.bool true) ∧ w' = w := by
  have h0 : (s.toList == [99, 111, 108, 111, 117, 114]) = false := list_ne (by rw [hs]; decide)
  have h1 : (s.toList == [112, 108, 97, 99, 101]) = false := list_ne (by rw [hs]; decide)
  have h2 : (s.toList == [116, 97, 115, 107]) = false := list_ne (by rw [hs]; decide)
  have h3 : (s.toList == [118, 97, 114]) = false := list_ne (by rw [hs]; decide)
  have h4 : (s.toList == [119, 104, 101, 110]) = false := list_ne (by rw [hs]; decide)
  have h5 : (s.toList == [106, 111, 105, 110]) = false := list_ne (by rw [hs]; decide)
  have h6 : (s.toList == [115, 112, 108, 105, 116]) = false := list_ne (by rw [hs]; decide)
  have h7 : (s.toList == [105, 110]) = false := list_ne (by rw [hs]; decide)
  have h8 : (s.toList == [111, 117, 116]) = false := list_ne (by rw [hs]; decide)
  have h9 : (s.toList == [99, 97, 110, 99, 101, 108]) = false := list_ne (by rw [hs]; decide)
  have h10 : (s.toList == [97, 102, 116, 101, 114]) = false := list_ne (by rw [hs]; decide)
  have h11 : (s.toList == [109, 97, 110, 121]) = false := list_ne (by rw [hs]; decide)
  have h12 : (s.toList == [102, 114, 111, 109]) = false := list_ne (by rw [hs]; decide)
  have h13 : (s.toList == [116, 111]) = false := list_ne (by rw [hs]; decide)
  have h14 : (s.toList == [105, 110, 116]) = false := list_ne (by rw [hs]; decide)
  have h15 : (s.toList == [101, 110, 117, 109]) = false := list_ne (by rw [hs]; decide)
  have h16 : (s.toList == [112, 97, 105, 114]) = true := list_is hs
  have h17 : (s.toList == [97, 110, 100]) = false := list_ne (by rw [hs]; decide)
  have h18 : (s.toList == [120, 111, 114]) = false := list_ne (by rw [hs]; decide)
  have h19 : (s.toList == [111, 114]) = false := list_ne (by rw [hs]; decide)
  have h20 : (s.toList == [105, 102]) = false := list_ne (by rw [hs]; decide)
  clear hs
  go_enter Tryz.func19, Tryz.ntmps19
  go_wp2
  go_ret
  exact ⟨rfl, rfl⟩

set_option maxHeartbeats 2000000 in
theorem word_17 (s : ByteArray) (w : World) (hs : s.data.toList = [97, 110, 100]) : Calls Tryz.prog 19 #[.string s] w fun e w' => e = .returned (.bool true) ∧ w' = w := by
  have h0 : (s.toList == [99, 111, 108, 111, 117, 114]) = false := list_ne (by rw [hs]; decide)
  have h1 : (s.toList == [112, 108, 97, 99, 101]) = false := list_ne (by rw [hs]; decide)
  have h2 : (s.toList == [116, 97, 115, 107]) = false := list_ne (by rw [hs]; decide)
  have h3 : (s.toList == [118, 97, 114]) = false := list_ne (by rw [hs]; decide)
  have h4 : (s.toList == [119, 104, 101, 110]) = false := list_ne (by rw [hs]; decide)
  have h5 : (s.toList == [106, 111, 105, 110]) = false := list_ne (by rw [hs]; decide)
  have h6 : (s.toList == [115, 112, 108, 105, 116]) = false := list_ne (by rw [hs]; decide)
  have h7 : (s.toList == [105, 110]) = false := list_ne (by rw [hs]; decide)
  have h8 : (s.toList == [111, 117, 116]) = false := list_ne (by rw [hs]; decide)
  have h9 : (s.toList == [99, 97, 110, 99, 101, 108]) = false := list_ne (by rw [hs]; decide)
  have h10 : (s.toList == [97, 102, 116, 101, 114]) = false := list_ne (by rw [hs]; decide)
  have h11 : (s.toList == [109, 97, 110, 121]) = false := list_ne (by rw [hs]; decide)
  have h12 : (s.toList == [102, 114, 111, 109]) = false := list_ne (by rw [hs]; decide)
  have h13 : (s.toList == [116, 111]) = false := list_ne (by rw [hs]; decide)
  have h14 : (s.toList == [105, 110, 116]) = false := list_ne (by rw [hs]; decide)
  have h15 : (s.toList == [101, 110, 117, 109]) = false := list_ne (by rw [hs]; decide)
  have h16 : (s.toList == [112, 97, 105, 114]) = false := list_ne (by rw [hs]; decide)
  have h17 : (s.toList == [97, 110, 100]) = true := list_is hs
  have h18 : (s.toList == [120, 111, 114]) = false := list_ne (by rw [hs]; decide)
  have h19 : (s.toList == [111, 114]) = false := list_ne (by rw [hs]; decide)
  have h20 : (s.toList == [105, 102]) = false := list_ne (by rw [hs]; decide)
  clear hs
  go_enter Tryz.func19, Tryz.ntmps19
  go_wp2
  go_ret
  exact ⟨rfl, rfl⟩

set_option maxHeartbeats 2000000 in
theorem word_18 (s : ByteArray) (w : World) (hs : s.data.toList = [120, 111, 114]) : Calls Tryz.prog 19 #[.string s] w fun e w' => e = .returned (.bool true) ∧ w' = w := by
  have h0 : (s.toList == [99, 111, 108, 111, 117, 114]) = false := list_ne (by rw [hs]; decide)
  have h1 : (s.toList == [112, 108, 97, 99, 101]) = false := list_ne (by rw [hs]; decide)
  have h2 : (s.toList == [116, 97, 115, 107]) = false := list_ne (by rw [hs]; decide)
  have h3 : (s.toList == [118, 97, 114]) = false := list_ne (by rw [hs]; decide)
  have h4 : (s.toList == [119, 104, 101, 110]) = false := list_ne (by rw [hs]; decide)
  have h5 : (s.toList == [106, 111, 105, 110]) = false := list_ne (by rw [hs]; decide)
  have h6 : (s.toList == [115, 112, 108, 105, 116]) = false := list_ne (by rw [hs]; decide)
  have h7 : (s.toList == [105, 110]) = false := list_ne (by rw [hs]; decide)
  have h8 : (s.toList == [111, 117, 116]) = false := list_ne (by rw [hs]; decide)
  have h9 : (s.toList == [99, 97, 110, 99, 101, 108]) = false := list_ne (by rw [hs]; decide)
  have h10 : (s.toList == [97, 102, 116, 101, 114]) = false := list_ne (by rw [hs]; decide)
  have h11 : (s.toList == [109, 97, 110, 121]) = false := list_ne (by rw [hs]; decide)
  have h12 : (s.toList == [102, 114, 111, 109]) = false := list_ne (by rw [hs]; decide)
  have h13 : (s.toList == [116, 111]) = false := list_ne (by rw [hs]; decide)
  have h14 : (s.toList == [105, 110, 116]) = false := list_ne (by rw [hs]; decide)
  have h15 : (s.toList == [101, 110, 117, 109]) = false := list_ne (by rw [hs]; decide)
  have h16 : (s.toList == [112, 97, 105, 114]) = false := list_ne (by rw [hs]; decide)
  have h17 : (s.toList == [97, 110, 100]) = false := list_ne (by rw [hs]; decide)
  have h18 : (s.toList == [120, 111, 114]) = true := list_is hs
  have h19 : (s.toList == [111, 114]) = false := list_ne (by rw [hs]; decide)
  have h20 : (s.toList == [105, 102]) = false := list_ne (by rw [hs]; decide)
  clear hs
  go_enter Tryz.func19, Tryz.ntmps19
  go_wp2
  go_ret
  exact ⟨rfl, rfl⟩

set_option maxHeartbeats 2000000 in
theorem word_19 (s : ByteArray) (w : World) (hs : s.data.toList = [111, 114]) : Calls Tryz.prog 19 #[.string s] w fun e w' => e = .returned (.bool true) ∧ w' = w := by
  have h0 : (s.toList == [99, 111, 108, 111, 117, 114]) = false := list_ne (by rw [hs]; decide)
  have h1 : (s.toList == [112, 108, 97, 99, 101]) = false := list_ne (by rw [hs]; decide)
  have h2 : (s.toList == [116, 97, 115, 107]) = false := list_ne (by rw [hs]; decide)
  have h3 : (s.toList == [118, 97, 114]) = false := list_ne (by rw [hs]; decide)
  have h4 : (s.toList == [119, 104, 101, 110]) = false := list_ne (by rw [hs]; decide)
  have h5 : (s.toList == [106, 111, 105, 110]) = false := list_ne (by rw [hs]; decide)
  have h6 : (s.toList == [115, 112, 108, 105, 116]) = false := list_ne (by rw [hs]; decide)
  have h7 : (s.toList == [105, 110]) = false := list_ne (by rw [hs]; decide)
  have h8 : (s.toList == [111, 117, 116]) = false := list_ne (by rw [hs]; decide)
  have h9 : (s.toList == [99, 97, 110, 99, 101, 108]) = false := list_ne (by rw [hs]; decide)
  have h10 : (s.toList == [97, 102, 116, 101, 114]) = false := list_ne (by rw [hs]; decide)
  have h11 : (s.toList == [109, 97, 110, 121]) = false := list_ne (by rw [hs]; decide)
  have h12 : (s.toList == [102, 114, 111, 109]) = false := list_ne (by rw [hs]; decide)
  have h13 : (s.toList == [116, 111]) = false := list_ne (by rw [hs]; decide)
  have h14 : (s.toList == [105, 110, 116]) = false := list_ne (by rw [hs]; decide)
  have h15 : (s.toList == [101, 110, 117, 109]) = false := list_ne (by rw [hs]; decide)
  have h16 : (s.toList == [112, 97, 105, 114]) = false := list_ne (by rw [hs]; decide)
  have h17 : (s.toList == [97, 110, 100]) = false := list_ne (by rw [hs]; decide)
  have h18 : (s.toList == [120, 111, 114]) = false := list_ne (by rw [hs]; decide)
  have h19 : (s.toList == [111, 114]) = true := list_is hs
  have h20 : (s.toList == [105, 102]) = false := list_ne (by rw [hs]; decide)
  clear hs
  go_enter Tryz.func19, Tryz.ntmps19
  go_wp2
  go_ret
  exact ⟨rfl, rfl⟩

set_option maxHeartbeats 2000000 in
theorem word_20 (s : ByteArray) (w : World) (hs : s.data.toList = [105, 102]) : Calls Tryz.prog 19 #[.string s] w fun e w' => e = .returned (.bool true) ∧ w' = w := by
  have h0 : (s.toList == [99, 111, 108, 111, 117, 114]) = false := list_ne (by rw [hs]; decide)
  have h1 : (s.toList == [112, 108, 97, 99, 101]) = false := list_ne (by rw [hs]; decide)
  have h2 : (s.toList == [116, 97, 115, 107]) = false := list_ne (by rw [hs]; decide)
  have h3 : (s.toList == [118, 97, 114]) = false := list_ne (by rw [hs]; decide)
  have h4 : (s.toList == [119, 104, 101, 110]) = false := list_ne (by rw [hs]; decide)
  have h5 : (s.toList == [106, 111, 105, 110]) = false := list_ne (by rw [hs]; decide)
  have h6 : (s.toList == [115, 112, 108, 105, 116]) = false := list_ne (by rw [hs]; decide)
  have h7 : (s.toList == [105, 110]) = false := list_ne (by rw [hs]; decide)
  have h8 : (s.toList == [111, 117, 116]) = false := list_ne (by rw [hs]; decide)
  have h9 : (s.toList == [99, 97, 110, 99, 101, 108]) = false := list_ne (by rw [hs]; decide)
  have h10 : (s.toList == [97, 102, 116, 101, 114]) = false := list_ne (by rw [hs]; decide)
  have h11 : (s.toList == [109, 97, 110, 121]) = false := list_ne (by rw [hs]; decide)
  have h12 : (s.toList == [102, 114, 111, 109]) = false := list_ne (by rw [hs]; decide)
  have h13 : (s.toList == [116, 111]) = false := list_ne (by rw [hs]; decide)
  have h14 : (s.toList == [105, 110, 116]) = false := list_ne (by rw [hs]; decide)
  have h15 : (s.toList == [101, 110, 117, 109]) = false := list_ne (by rw [hs]; decide)
  have h16 : (s.toList == [112, 97, 105, 114]) = false := list_ne (by rw [hs]; decide)
  have h17 : (s.toList == [97, 110, 100]) = false := list_ne (by rw [hs]; decide)
  have h18 : (s.toList == [120, 111, 114]) = false := list_ne (by rw [hs]; decide)
  have h19 : (s.toList == [111, 114]) = false := list_ne (by rw [hs]; decide)
  have h20 : (s.toList == [105, 102]) = true := list_is hs
  clear hs
  go_enter Tryz.func19, Tryz.ntmps19
  go_wp2
  go_ret
  exact ⟨rfl, rfl⟩

theorem word_any (s : ByteArray) (w : World) : Calls Tryz.prog 19 #[.string s] w fun e w' => e = .returned (.bool (wordB s.data.toList)) ∧ w' = w := by
  cases h : wordB s.data.toList with
  | false => exact word_no s w h
  | true =>
    have h := of_decide_eq_true h
    simp only [wordsL, List.mem_cons, List.not_mem_nil, or_false] at h
    rcases h with h | h | h | h | h | h | h | h | h | h | h | h | h | h | h | h | h | h | h | h | h
    · exact word_0 s w h
    · exact word_1 s w h
    · exact word_2 s w h
    · exact word_3 s w h
    · exact word_4 s w h
    · exact word_5 s w h
    · exact word_6 s w h
    · exact word_7 s w h
    · exact word_8 s w h
    · exact word_9 s w h
    · exact word_10 s w h
    · exact word_11 s w h
    · exact word_12 s w h
    · exact word_13 s w h
    · exact word_14 s w h
    · exact word_15 s w h
    · exact word_16 s w h
    · exact word_17 s w h
    · exact word_18 s w h
    · exact word_19 s w h
    · exact word_20 s w h
end Go.Proofs.YtgdkomkflfodaaaGreat.Token
