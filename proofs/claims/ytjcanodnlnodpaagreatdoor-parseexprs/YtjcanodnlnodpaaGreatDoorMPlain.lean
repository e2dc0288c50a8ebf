/- Contracts and plain mathematics, together: ColPlain, TokPlain, ExPlain, BagPlain, ParPlain, ParNet, ParRes, ParEnum, ParGather, ParGood. -/
import Derived.Test.YtjcanodnlnodpaaGreatDoorRows
import Derived.Lib.AtoiAllCases
import Derived.Test.YtjcanodnlnodpaaGreatDoorMCalc
/- The plain mathematics of layer 2: what names are, how great colours are. No program stands in it. -/
namespace Go.Proofs.YtjcanodnlnodpaaGreatDoor.Colour
def letB (n : Int) : Bool := decide (97 ≤ n ∧ n ≤ 122 ∨ 65 ≤ n ∧ n ≤ 90)
def digB (n : Int) : Bool := decide (48 ≤ n ∧ n ≤ 57)
def okB (n : Int) : Bool := letB n || digB n || n == 95
def withinB (i n : Int) : Bool := decide (0 ≤ i ∧ i < n)
/-- a name -/
def nameB (s : ByteArray) : Bool := decide (1 ≤ s.size) && decide (s.size ≤ 32) && letB (s.data.toList.getD 0 0).toNat && s.data.toList.all fun c => okB c.toNat
theorem retb {a b : Bool} (h : a = b) : Ending.returned (.bool a) = .returned (.bool b) := by rw [h]
theorem reti {a b : Int} (h : a = b) : Ending.returned (.int .i64 a) = .returned (.int .i64 b) := by rw [h]

theorem nameB_none {s : ByteArray} (h : s.size = 0 ∨ 32 < s.size) : nameB s = false := by
  unfold nameB
  rcases h with h | h
  · simp [h]
  · have : decide (s.size ≤ 32) = false := by simp; omega
    simp [this]
theorem nameB_head {s : ByteArray} (h : letB (s.data.toList.getD 0 0).toNat = false) : nameB s = false := by
  unfold nameB; simp only [h, Bool.and_false, Bool.false_and]
theorem nameB_bad {s : ByteArray} (k : Nat) (h : k < s.size) (hb : okB (s[k]).toNat = false) : nameB s = false := by
  unfold nameB
  have : (s.data.toList.all fun c => okB c.toNat) = false := by
    rw [List.all_eq_false]
    refine ⟨s[k], ?_, by rw [hb]; simp⟩
    show s.data[k] ∈ _
    exact (Array.mem_toList_iff).2 (Array.getElem_mem _)
  rw [this, Bool.and_false]
theorem nameB_good {s : ByteArray} (h1 : 1 ≤ s.size) (h2 : s.size ≤ 32) (h3 : letB (s.data.toList.getD 0 0).toNat = true) (h : ∀ k (hk : k < s.size), okB (s[k]).toNat = true) : nameB s = true := by
  unfold nameB
  have : (s.data.toList.all fun c => okB c.toNat) = true := by
    rw [List.all_eq_true]
    intro c hc
    obtain ⟨k, hk, rfl⟩ := List.getElem_of_mem hc
    have hk' : k < s.size := by simpa using hk
    have := h k hk'
    rw [Array.getElem_toList]
    exact this
  rw [this, h3]
  simp [h1, h2]

/-- the strings, sorted by their bytes -/
def sortF (zs : List ByteArray) : List ByteArray := ((zs.map fun s => s.data.toList).mergeSort fun x y => decide (x ≤ y)).map fun l => ⟨l.toArray⟩
theorem sortF_length (zs : List ByteArray) : (sortF zs).length = zs.length := by simp [sortF]
/-- no two neighbours alike -/
def adjB (l : List ByteArray) : Bool := (List.range (l.length - 1)).all fun i => !((l.getD (i + 1) ByteArray.empty).toList == (l.getD i ByteArray.empty).toList)
/-- all names, no two alike -/
def allB (zs : List ByteArray) : Bool := zs.all nameB && adjB (sortF zs)
theorem allB_nil : allB [] = true := by decide +kernel
theorem allB_bad {zs : List ByteArray} (k : Nat) (hk : k < zs.length) (h : nameB (zs.getD k ByteArray.empty) = false) : allB zs = false := by
  unfold allB
  have : zs.all nameB = false := by
    rw [List.all_eq_false]
    refine ⟨zs.getD k ByteArray.empty, ?_, by rw [h]; simp⟩
    rw [List.getD_eq_getElem?_getD, List.getElem?_eq_getElem hk]
    exact List.getElem_mem _
  rw [this]; rfl
theorem all_names {zs : List ByteArray} (h : ∀ k, k < zs.length → nameB (zs.getD k ByteArray.empty) = true) : zs.all nameB = true := by
  rw [List.all_eq_true]
  intro s hs
  obtain ⟨k, hk, rfl⟩ := List.getElem_of_mem hs
  have := h k hk
  rwa [List.getD_eq_getElem?_getD, List.getElem?_eq_getElem hk] at this
theorem allB_twice {zs : List ByteArray} (k : Nat) (hk : k + 1 < zs.length) (h : (((sortF zs).getD (k + 1) ByteArray.empty).toList == ((sortF zs).getD k ByteArray.empty).toList) = true) : allB zs = false := by
  unfold allB adjB
  have : ((List.range ((sortF zs).length - 1)).all fun i => !(((sortF zs).getD (i + 1) ByteArray.empty).toList == ((sortF zs).getD i ByteArray.empty).toList)) = false := by
    rw [List.all_eq_false]
    refine ⟨k, ?_, by rw [h]; simp⟩
    rw [sortF_length]; simp; omega
  rw [this, Bool.and_false]
theorem allB_good {zs : List ByteArray} (h1 : zs.all nameB = true) (h : ∀ k, k + 1 < zs.length → (((sortF zs).getD (k + 1) ByteArray.empty).toList == ((sortF zs).getD k ByteArray.empty).toList) = false) : allB zs = true := by
  unfold allB adjB
  have : ((List.range ((sortF zs).length - 1)).all fun i => !(((sortF zs).getD (i + 1) ByteArray.empty).toList == ((sortF zs).getD i ByteArray.empty).toList)) = true := by
    rw [List.all_eq_true]
    intro k hk
    rw [sortF_length] at hk
    rw [h k (by simp at hk; omega)]; rfl
  rw [this, h1]; rfl
end Go.Proofs.YtjcanodnlnodpaaGreatDoor.Colour
/- The plain mathematics of layer 5: how a text is cut. No program stands in it. -/
namespace Go.Proofs.YtjcanodnlnodpaaGreatDoor.Token
open Go.Proofs.YtjcanodnlnodpaaGreatDoor.Colour
set_option linter.unusedVariables false
set_option linter.unusedSimpArgs false
def let8 (c : UInt8) : Bool := letB c.toNat
def dig8 (c : UInt8) : Bool := digB c.toNat
def ok8 (c : UInt8) : Bool := okB c.toNat
def blk8 (c : UInt8) : Bool := c.toNat == 32 || c.toNat == 9 || c.toNat == 10 || c.toNat == 13
/-- behind blanks and comments; the flag: within a comment -/
def gapL : Bool → List UInt8 → List UInt8
  | _, [] => []
  | false, c :: r => if blk8 c then gapL false r else if c.toNat = 35 then gapL true r else c :: r
  | true, c :: r => if c.toNat = 10 then gapL false r else gapL true r
/-- how many bytes from the first on are such ones -/
def runL (p : UInt8 → Bool) (r : List UInt8) : Nat := (r.takeWhile p).length
def signsL : List (List UInt8) := [[59], [58], [61], [44], [40], [41], [123], [125], [46, 46], [42], [43], [45], [47], [37], [61, 61], [33, 61], [60], [60, 61], [38, 38], [124, 124], [33]]
/-- the longest of these with which a text begins -/
def best : List (List UInt8) → List UInt8 → Nat
  | [], _ => 0
  | t :: ts, r => max (if t.isPrefixOf r then t.length else 0) (best ts r)
def valL : Nat → List UInt8 → Nat
  | a, [] => a
  | a, c :: r => valL (a * 10 + (c.toNat - 48)) r
def zero8 (d : List UInt8) : Bool := decide (1 < d.length) && (d.headD 0).toNat == 48
/-- a number -/
def numB (d : List UInt8) : Bool := decide (0 < d.length) && d.all dig8 && !zero8 d && decide (valL 0 d < 9223372036854775808)
/-- a name -/
def nmB (d : List UInt8) : Bool := decide (1 ≤ d.length) && decide (d.length ≤ 32) && let8 (d.headD 0) && d.all ok8
/-- the token with which a text begins: its kind, its length; or the error -/
def pieceL (r : List UInt8) : Int × Nat × Int :=
  if let8 (r.headD 0) then (if 32 < runL ok8 r then (0, 0, 2) else (1, runL ok8 r, 0))
  else if dig8 (r.headD 0) then
    (if zero8 (r.takeWhile dig8) || ok8 ((r.drop (runL dig8 r)).headD 0) then (0, 0, 4)
     else if numB (r.takeWhile dig8) then (2, runL dig8 r, 0) else (0, 0, 6))
  else if best signsL r = 0 then (0, 0, 4) else (3, best signsL r, 0)
structure Tok where
  kind : Int
  text : List UInt8
  at_ : Nat
abbrev Lexed := List Tok × Nat × Int
def before (acc : List Tok) (x : Lexed) : Lexed := if x.2.2 = 0 then (acc ++ x.1, x.2.1, 0) else ([], x.2.1, x.2.2)
def lexL : Nat → Nat → List UInt8 → Lexed
  | 0, n, _ => ([], n, 0)
  | f + 1, n, r =>
    if r = [] then ([], n, 0)
    else if (pieceL r).2.2 = 0 then before [⟨(pieceL r).1, r.take (pieceL r).2.1, n - r.length⟩] (lexL f n (gapL false (r.drop (pieceL r).2.1)))
    else ([], n - r.length, (pieceL r).2.2)
def lexF (l : List UInt8) : Lexed := if 16384 < l.length then ([], 0, 2) else lexL l.length l.length (gapL false l)
def joinL : List Tok → List UInt8
  | [] => []
  | [t] => t.text
  | t :: u :: l => t.text ++ 32 :: joinL (u :: l)

/- runs -/
theorem run_take {p : UInt8 → Bool} : ∀ {r : List UInt8}, r.take (runL p r) = r.takeWhile p
  | [] => rfl
  | c :: r => by
    unfold runL
    cases h : p c with
    | false => simp [List.takeWhile_cons, h]
    | true => simp only [List.takeWhile_cons, h, if_true, List.length_cons, List.take_succ_cons]; congr 1; exact run_take
theorem run_le {p : UInt8 → Bool} {r : List UInt8} : runL p r ≤ r.length := by
  unfold runL
  induction r with
  | nil => simp
  | cons c r ih => rw [List.takeWhile_cons]; split <;> simp; omega
theorem run_pos {p : UInt8 → Bool} {r : List UInt8} (h : r ≠ []) (hp : p (r.headD 0) = true) : 0 < runL p r := by
  cases r with
  | nil => exact absurd rfl h
  | cons c r => unfold runL; rw [List.takeWhile_cons, if_pos (show p c = true from hp)]; simp
theorem run_all {p : UInt8 → Bool} {r : List UInt8} (h : r.all p = true) : r.takeWhile p = r := by
  induction r with
  | nil => rfl
  | cons c r ih => simp only [List.all_cons, Bool.and_eq_true] at h; rw [List.takeWhile_cons, if_pos h.1, ih h.2]
theorem all_run {p : UInt8 → Bool} {r : List UInt8} : (r.takeWhile p).all p = true := by
  induction r with
  | nil => rfl
  | cons c r ih => rw [List.takeWhile_cons]; split <;> simp_all
theorem run_stop {p : UInt8 → Bool} {c : UInt8} (hc : p c = false) (r x : List UInt8) : (r ++ c :: x).takeWhile p = r.takeWhile p := by
  induction r with
  | nil => simp [List.takeWhile_cons, hc]
  | cons d r ih => rw [List.cons_append, List.takeWhile_cons, List.takeWhile_cons, ih]
theorem run_next {p : UInt8 → Bool} {r : List UInt8} : (r.drop (runL p r)) = [] ∨ p ((r.drop (runL p r)).headD 0) = false := by
  induction r with
  | nil => exact .inl rfl
  | cons c r ih =>
    unfold runL at *
    cases h : p c with
    | false => exact .inr (by simp [List.takeWhile_cons, h])
    | true => simpa [List.takeWhile_cons, h] using ih
theorem headD_take {r : List UInt8} {m : Nat} (h : 0 < m) : (r.take m).headD 0 = r.headD 0 := by
  cases r with
  | nil => simp
  | cons c r => cases m with
    | zero => omega
    | succ m => rfl

/- what no sign holds -/
theorem blk_not {c : UInt8} (h : blk8 c = true) : ok8 c = false ∧ dig8 c = false ∧ let8 c = false := by
  unfold blk8 at h; unfold ok8 dig8 let8 okB letB digB
  simp at h
  refine ⟨?_, ?_, ?_⟩ <;> simp <;> omega
theorem pre_stop {c : UInt8} : ∀ {t : List UInt8} (_ : t.all (fun d => d != c) = true) (r x : List UInt8), t.isPrefixOf (r ++ c :: x) = t.isPrefixOf r
  | [], _, r, x => by simp [List.isPrefixOf]
  | d :: t, h, [], x => by
    simp only [List.all_cons, Bool.and_eq_true] at h
    have : (d == c) = false := by simpa using h.1
    simp [List.isPrefixOf, this]
  | d :: t, h, e :: r, x => by
    simp only [List.all_cons, Bool.and_eq_true] at h
    simp only [List.cons_append, List.isPrefixOf]
    rw [pre_stop h.2 r x]
theorem best_stop {c : UInt8} : ∀ {ts : List (List UInt8)} (_ : ∀ t ∈ ts, t.all (fun d => d != c) = true) (r x : List UInt8), best ts (r ++ c :: x) = best ts r
  | [], _, _, _ => rfl
  | t :: ts, h, r, x => by
    unfold best
    rw [pre_stop (h t (by simp)) r x, best_stop (fun u hu => h u (by simp [hu])) r x]
theorem blk_cases {c : UInt8} (h : blk8 c = true) : c = 32 ∨ c = 9 ∨ c = 10 ∨ c = 13 := by
  unfold blk8 at h
  simp at h
  rcases h with ((h | h) | h) | h
  · exact .inl (UInt8.toNat_inj.1 h)
  · exact .inr (.inl (UInt8.toNat_inj.1 h))
  · exact .inr (.inr (.inl (UInt8.toNat_inj.1 h)))
  · exact .inr (.inr (.inr (UInt8.toNat_inj.1 h)))
theorem signs_stop {c : UInt8} (h : blk8 c = true) (r x : List UInt8) : best signsL (r ++ c :: x) = best signsL r := by
  refine best_stop ?_ r x
  rcases blk_cases h with rfl | rfl | rfl | rfl <;> decide
theorem best_mem {ts : List (List UInt8)} {r : List UInt8} : best ts r = 0 ∨ ∃ t ∈ ts, t.isPrefixOf r = true ∧ best ts r = t.length := by
  induction ts with
  | nil => exact .inl rfl
  | cons t ts ih =>
    unfold best
    rcases Nat.le_total (if t.isPrefixOf r then t.length else 0) (best ts r) with h | h
    · rw [Nat.max_eq_right h]
      rcases ih with h0 | ⟨u, hu, hp, he⟩
      · exact .inl h0
      · exact .inr ⟨u, by simp [hu], hp, he⟩
    · rw [Nat.max_eq_left h]
      cases hp : t.isPrefixOf r with
      | false => exact .inl (by simp)
      | true => exact .inr ⟨t, by simp, hp, by simp⟩
theorem best_ge {ts : List (List UInt8)} {r t : List UInt8} (ht : t ∈ ts) (hp : t.isPrefixOf r = true) : t.length ≤ best ts r := by
  induction ts with
  | nil => cases ht
  | cons u ts ih =>
    unfold best
    rcases List.mem_cons.1 ht with rfl | h
    · rw [if_pos hp]; exact Nat.le_max_left _ _
    · exact Nat.le_trans (ih h) (Nat.le_max_right _ _)
theorem pre_take : ∀ {t r : List UInt8}, t.isPrefixOf r = true → t = r.take t.length ∧ t.length ≤ r.length := by
  intro t r h
  have := List.isPrefixOf_iff_prefix.1 h
  exact ⟨(List.prefix_iff_eq_take.1 this), this.length_le⟩
theorem sign_self {r : List UInt8} (h : best signsL r ≠ 0) : best signsL (r.take (best signsL r)) = best signsL r ∧ best signsL r ≤ r.length := by
  rcases best_mem (ts := signsL) (r := r) with h0 | ⟨t, ht, hp, he⟩
  · exact absurd h0 h
  · obtain ⟨h1, h2⟩ := pre_take hp
    have he2 : r.take (best signsL r) = t := by rw [he]; exact h1.symm
    rw [he2]
    refine ⟨Nat.le_antisymm ?_ ?_, by omega⟩
    · rcases best_mem (ts := signsL) (r := t) with h0 | ⟨u, hu, hq, hu2⟩
      · omega
      · have := (pre_take hq).2; omega
    · rw [he]
      exact best_ge ht (List.isPrefixOf_iff_prefix.2 (List.prefix_refl _))

/- pieces -/
theorem headD_app {r x : List UInt8} (h : r ≠ []) : (r ++ x).headD 0 = r.headD 0 := by
  cases r with
  | nil => exact absurd rfl h
  | cons c r => rfl
theorem piece_stop {c : UInt8} (h : blk8 c = true) {r : List UInt8} (hr : r ≠ []) (x : List UInt8) : pieceL (r ++ c :: x) = pieceL r := by
  obtain ⟨h1, h2, h3⟩ := blk_not h
  have e1 : runL ok8 (r ++ c :: x) = runL ok8 r := by unfold runL; rw [run_stop h1]
  have e2 : runL dig8 (r ++ c :: x) = runL dig8 r := by unfold runL; rw [run_stop h2]
  have e3 : ok8 (((r ++ c :: x).drop (runL dig8 r)).headD 0) = ok8 ((r.drop (runL dig8 r)).headD 0) := by
    have hle := run_le (p := dig8) (r := r)
    rw [List.drop_append_of_le_length hle]
    by_cases hd : r.drop (runL dig8 r) = []
    · rw [hd]; simpa using (by rw [h1]; decide : ok8 c = ok8 0)
    · rw [headD_app hd]
  unfold pieceL
  rw [headD_app hr, e1, e2, e3, run_stop h2, signs_stop h]
/-- of a token: it is not empty; it is cut as it was; which are numbers, which names -/
theorem piece_ok {r : List UInt8} (hr : r ≠ []) (h : (pieceL r).2.2 = 0) :
    0 < (pieceL r).2.1 ∧ (pieceL r).2.1 ≤ r.length ∧ pieceL (r.take (pieceL r).2.1) = ((pieceL r).1, (pieceL r).2.1, 0) ∧ (1 ≤ (pieceL r).1 ∧ (pieceL r).1 ≤ 3)
      ∧ numB (r.take (pieceL r).2.1) = decide ((pieceL r).1 = 2) ∧ nmB (r.take (pieceL r).2.1) = decide ((pieceL r).1 = 1) := by
  cases hl : let8 (r.headD 0) with
  | true =>
    by_cases h32 : 32 < runL ok8 r
    · have e : pieceL r = (0, 0, 2) := by unfold pieceL; rw [if_pos hl, if_pos h32]
      rw [e] at h; cases h
    · have e : pieceL r = (1, runL ok8 r, 0) := by unfold pieceL; rw [if_pos hl, if_neg h32]
      have hok : ok8 (r.headD 0) = true := by unfold ok8 okB; unfold let8 at hl; rw [hl]; rfl
      have hp := run_pos hr hok
      have hd : dig8 (r.headD 0) = false := by unfold let8 letB at hl; unfold dig8 digB; simp at hl ⊢; omega
      rw [e]
      show 0 < runL ok8 r ∧ runL ok8 r ≤ r.length ∧ pieceL (r.take (runL ok8 r)) = (1, runL ok8 r, 0) ∧ (1 ≤ (1 : Int) ∧ (1 : Int) ≤ 3) ∧ numB (r.take (runL ok8 r)) = decide ((1 : Int) = 2) ∧ nmB (r.take (runL ok8 r)) = decide ((1 : Int) = 1)
      have hh := headD_take (r := r) hp
      have hall : (r.take (runL ok8 r)).all ok8 = true := by rw [run_take]; exact all_run
      have hlen : (r.take (runL ok8 r)).length = runL ok8 r := by rw [List.length_take, Nat.min_eq_left run_le]
      refine ⟨hp, run_le, ?_, by decide, ?_, ?_⟩
      · unfold pieceL
        have e2 : runL ok8 (r.take (runL ok8 r)) = runL ok8 r := by rw [show runL ok8 (r.take (runL ok8 r)) = ((r.take (runL ok8 r)).takeWhile ok8).length from rfl, run_all hall, hlen]
        rw [hh, if_pos hl, e2, if_neg h32]
      · unfold numB
        have : (r.take (runL ok8 r)).all dig8 = false := by
          cases hT : r.take (runL ok8 r) with
          | nil => rw [hT] at hlen; simp at hlen; omega
          | cons c x => rw [hT] at hh; rw [List.all_cons, show c = (c :: x).headD 0 from rfl, hh, hd]; rfl
        rw [this]; simp
      · unfold nmB
        rw [hlen, hh, hl, hall]
        simp; omega
  | false =>
    cases hd : dig8 (r.headD 0) with
    | true =>
      cases hz : (zero8 (r.takeWhile dig8) || ok8 ((r.drop (runL dig8 r)).headD 0)) with
      | true =>
        have e : pieceL r = (0, 0, 4) := by unfold pieceL; rw [if_neg (by rw [hl]; decide), if_pos hd, if_pos hz]
        rw [e] at h; cases h
      | false =>
        cases hn : numB (r.takeWhile dig8) with
        | false =>
          have e : pieceL r = (0, 0, 6) := by unfold pieceL; rw [if_neg (by rw [hl]; decide), if_pos hd, if_neg (by rw [hz]; decide), if_neg (by rw [hn]; decide)]
          rw [e] at h; cases h
        | true =>
          have e : pieceL r = (2, runL dig8 r, 0) := by unfold pieceL; rw [if_neg (by rw [hl]; decide), if_pos hd, if_neg (by rw [hz]; decide), if_pos hn]
          have hp := run_pos hr hd
          rw [e]
          show 0 < runL dig8 r ∧ runL dig8 r ≤ r.length ∧ pieceL (r.take (runL dig8 r)) = (2, runL dig8 r, 0) ∧ (1 ≤ (2 : Int) ∧ (2 : Int) ≤ 3) ∧ numB (r.take (runL dig8 r)) = decide ((2 : Int) = 2) ∧ nmB (r.take (runL dig8 r)) = decide ((2 : Int) = 1)
          have hh := headD_take (r := r) hp
          have hall : (r.take (runL dig8 r)).all dig8 = true := by rw [run_take]; exact all_run
          have hlen : (r.take (runL dig8 r)).length = runL dig8 r := by rw [List.length_take, Nat.min_eq_left run_le]
          have e2 : (r.take (runL dig8 r)).takeWhile dig8 = r.takeWhile dig8 := by rw [run_all hall, run_take]
          have e3 : runL dig8 (r.take (runL dig8 r)) = runL dig8 r := by unfold runL at *; rw [e2]
          refine ⟨hp, run_le, ?_, by decide, by rw [run_take, hn]; rfl, ?_⟩
          · unfold pieceL
            rw [hh, if_neg (by rw [hl]; decide), if_pos hd, e2, e3, List.drop_of_length_le (by rw [hlen]; exact Nat.le_refl _)]
            rw [Bool.or_eq_false_iff] at hz
            rw [hz.1, hn]
            rfl
          · unfold nmB; rw [hh, hl]; simp
    | false =>
      by_cases hb : best signsL r = 0
      · have e : pieceL r = (0, 0, 4) := by unfold pieceL; rw [if_neg (by rw [hl]; decide), if_neg (by rw [hd]; decide), if_pos hb]
        rw [e] at h; cases h
      · have e : pieceL r = (3, best signsL r, 0) := by unfold pieceL; rw [if_neg (by rw [hl]; decide), if_neg (by rw [hd]; decide), if_neg hb]
        obtain ⟨hs, hle⟩ := sign_self hb
        rw [e]
        show 0 < best signsL r ∧ best signsL r ≤ r.length ∧ pieceL (r.take (best signsL r)) = (3, best signsL r, 0) ∧ (1 ≤ (3 : Int) ∧ (3 : Int) ≤ 3) ∧ numB (r.take (best signsL r)) = decide ((3 : Int) = 2) ∧ nmB (r.take (best signsL r)) = decide ((3 : Int) = 1)
        have hp : 0 < best signsL r := by omega
        have hh := headD_take (r := r) hp
        refine ⟨hp, hle, ?_, by decide, ?_, ?_⟩
        · unfold pieceL
          rw [hh, if_neg (by rw [hl]; decide), if_neg (by rw [hd]; decide), hs, if_neg hb]
        · unfold numB
          have : (r.take (best signsL r)).all dig8 = false := by
            cases hT : r.take (best signsL r) with
            | nil => rw [hT] at hs; exact absurd (hs.symm.trans (by decide)) hb
            | cons c x => rw [hT] at hh; rw [List.all_cons, show c = (c :: x).headD 0 from rfl, hh, hd]; rfl
          rw [this]; simp
        · unfold nmB; rw [hh, hl]; simp
theorem piece_err {r : List UInt8} (h : (pieceL r).2.2 ≠ 0) : (pieceL r).2.2 = 2 ∨ (pieceL r).2.2 = 4 ∨ (pieceL r).2.2 = 6 := by
  unfold pieceL at *
  split
  · split <;> simp_all
  · split
    · split
      · simp
      · split <;> simp_all
    · split <;> simp_all
/-- a token begins with no blank, and no comment -/
theorem piece_head {r : List UInt8} (hr : r ≠ []) (h : (pieceL r).2.2 = 0) : blk8 (r.headD 0) = false ∧ (r.headD 0).toNat ≠ 35 := by
  cases hb : blk8 (r.headD 0) with
  | true =>
    obtain ⟨h1, h2, h3⟩ := blk_not hb
    cases r with
    | nil => exact absurd rfl hr
    | cons c x =>
      have hs : best signsL (c :: x) = 0 := signs_stop hb [] x
      have e : pieceL (c :: x) = (0, 0, 4) := by unfold pieceL; rw [if_neg (by rw [h3]; decide), if_neg (by rw [h2]; decide), if_pos hs]
      rw [e] at h; cases h
  | false =>
    refine ⟨rfl, fun h35 => ?_⟩
    cases r with
    | nil => exact absurd rfl hr
    | cons c x =>
      obtain rfl : c = 35 := UInt8.toNat_inj.1 h35
      have hs : best signsL (35 :: x) = 0 := by
        have := best_stop (c := 35) (ts := signsL) (by decide) [] x
        exact this
      have e : pieceL (35 :: x) = (0, 0, 4) := by unfold pieceL; rw [List.headD_cons, if_neg (show ¬ let8 35 = true by decide), if_neg (show ¬ dig8 35 = true by decide), if_pos hs]
      rw [e] at h; cases h

/- gaps -/
theorem gap_le (b : Bool) (r : List UInt8) : (gapL b r).length ≤ r.length := by
  induction r generalizing b with
  | nil => cases b <;> simp [gapL]
  | cons c r ih =>
    cases b with
    | false =>
      unfold gapL
      split
      · have := ih false; simp; omega
      · split
        · have := ih true; simp; omega
        · simp
    | true =>
      unfold gapL
      split
      · have := ih false; simp; omega
      · have := ih true; simp; omega
theorem gap_drop (b : Bool) (r : List UInt8) : gapL b r = r.drop (r.length - (gapL b r).length) := by
  induction r generalizing b with
  | nil => cases b <;> simp [gapL]
  | cons c r ih =>
    have key : ∀ b, gapL b r = (c :: r).drop ((c :: r).length - (gapL b r).length) := fun b => by
      have hl := gap_le b r
      rw [List.length_cons, show r.length + 1 - (gapL b r).length = (r.length - (gapL b r).length) + 1 by omega, List.drop_succ_cons]
      exact ih b
    cases b with
    | false =>
      unfold gapL
      split
      · exact key false
      · split
        · exact key true
        · simp
    | true =>
      unfold gapL
      split
      · exact key false
      · exact key true
theorem gap_self {r : List UInt8} (h : blk8 (r.headD 0) = false) (h2 : (r.headD 0).toNat ≠ 35) : gapL false r = r := by
  cases r with
  | nil => simp [gapL]
  | cons c r => unfold gapL; rw [if_neg (by simpa using h), if_neg (by simpa using h2)]
theorem gap_feed (b : Bool) (r x : List UInt8) : gapL b (r ++ 10 :: x) = if gapL b r = [] then gapL false x else gapL b r ++ 10 :: x := by
  induction r generalizing b with
  | nil => cases b <;> simp [gapL, blk8]
  | cons c r ih =>
    cases b with
    | false =>
      rw [List.cons_append, gapL.eq_2, gapL.eq_2]
      split
      · exact ih false
      · split
        · exact ih true
        · simp
    | true =>
      rw [List.cons_append, gapL.eq_3, gapL.eq_3]
      split
      · exact ih false
      · exact ih true

/- lexing -/
theorem before_nil (x : Lexed) (h : x.2.2 ≠ 0 → x.1 = []) : before [] x = x := by
  obtain ⟨l, a, e⟩ := x
  unfold before
  by_cases he : e = 0
  · subst he; simp
  · have := h he; simp at this; simp [he, this]
theorem before_before (a b : List Tok) (x : Lexed) : before a (before b x) = before (a ++ b) x := by
  obtain ⟨l, p, e⟩ := x
  unfold before
  by_cases he : e = 0 <;> simp [he]
theorem lex_err (f n : Nat) (r : List UInt8) (h : (lexL f n r).2.2 ≠ 0) : (lexL f n r).1 = [] := by
  cases f with
  | zero => rfl
  | succ f =>
    unfold lexL at *
    split
    · rfl
    · rename_i hr
      rw [if_neg hr] at h
      split
      · rename_i hp
        rw [if_pos hp] at h
        unfold before at *
        split
        · rename_i h0; rw [if_pos h0] at h; simp at h
        · rfl
      · rfl
theorem lex_fuel {n : Nat} : ∀ (f g : Nat) (r : List UInt8), r.length ≤ f → r.length ≤ g → lexL f n r = lexL g n r := by
  intro f
  induction f with
  | zero =>
    intro g r hf hg
    have : r = [] := by simpa using hf
    subst this
    cases g <;> simp [lexL]
  | succ f ih =>
    intro g r hf hg
    cases g with
    | zero =>
      have : r = [] := by simpa using hg
      subst this
      simp [lexL]
    | succ g =>
      unfold lexL
      by_cases hr : r = []
      · rw [if_pos hr, if_pos hr]
      · rw [if_neg hr, if_neg hr]
        by_cases hp : (pieceL r).2.2 = 0
        · rw [if_pos hp, if_pos hp]
          obtain ⟨h1, h2, _⟩ := piece_ok hr hp
          have hg := gap_le false (r.drop (pieceL r).2.1)
          rw [List.length_drop] at hg
          rw [ih g _ (by omega) (by omega)]
        · rw [if_neg hp, if_neg hp]
/-- the tokens of a text that begins with one -/
def lexR (n : Nat) (r : List UInt8) : Lexed := lexL r.length n r
theorem lexR_nil (n : Nat) : lexR n [] = ([], n, 0) := rfl
theorem lexR_bad {n : Nat} {r : List UInt8} (hr : r ≠ []) (h : (pieceL r).2.2 ≠ 0) : lexR n r = ([], n - r.length, (pieceL r).2.2) := by
  unfold lexR
  cases hl : r.length with
  | zero => exact absurd (List.eq_nil_of_length_eq_zero hl) hr
  | succ f => unfold lexL; rw [if_neg hr, if_neg h, hl]
theorem lexR_ok {n : Nat} {r : List UInt8} (hr : r ≠ []) (h : (pieceL r).2.2 = 0) : lexR n r = before [⟨(pieceL r).1, r.take (pieceL r).2.1, n - r.length⟩] (lexR n (gapL false (r.drop (pieceL r).2.1))) := by
  unfold lexR
  cases hl : r.length with
  | zero => exact absurd (List.eq_nil_of_length_eq_zero hl) hr
  | succ f =>
    rw [lexL.eq_2, if_neg hr, if_pos h, hl]
    obtain ⟨h1, h2, _⟩ := piece_ok hr h
    have hg := gap_le false (r.drop (pieceL r).2.1)
    rw [List.length_drop] at hg
    rw [lex_fuel f _ _ (by omega) (Nat.le_refl _)]
theorem lexF_eq {l : List UInt8} (h : l.length ≤ 16384) : lexF l = lexR l.length (gapL false l) := by
  unfold lexF lexR
  rw [if_neg (by omega)]
  exact lex_fuel _ _ _ (gap_le _ _) (Nat.le_refl _)
theorem less_of {r : List UInt8} (hr : r ≠ []) (h : (pieceL r).2.2 = 0) : (gapL false (r.drop (pieceL r).2.1)).length < r.length := by
  obtain ⟨h1, h2, _⟩ := piece_ok hr h
  have hg := gap_le false (r.drop (pieceL r).2.1)
  rw [List.length_drop] at hg
  omega
/-- what is told of every text that is cut so -/
theorem lex_ind {P : List UInt8 → Prop} (h0 : P []) (hbad : ∀ r, r ≠ [] → (pieceL r).2.2 ≠ 0 → P r) (hok : ∀ r, r ≠ [] → (pieceL r).2.2 = 0 → P (gapL false (r.drop (pieceL r).2.1)) → P r) (r : List UInt8) : P r := by
  have : ∀ k (r : List UInt8), r.length ≤ k → P r := by
    intro k
    induction k with
    | zero => intro r hr; have : r = [] := by simpa using hr
              subst this; exact h0
    | succ k ih =>
      intro r hr
      by_cases hn : r = []
      · subst hn; exact h0
      · by_cases hp : (pieceL r).2.2 = 0
        · exact hok r hn hp (ih _ (by have := less_of hn hp; omega))
        · exact hbad r hn hp
  exact this _ r (Nat.le_refl _)
/-- a token as Lex tells it -/
def Good (t : Tok) : Prop := t.text ≠ [] ∧ pieceL t.text = (t.kind, t.text.length, 0) ∧ (1 ≤ t.kind ∧ t.kind ≤ 3) ∧ numB t.text = decide (t.kind = 2) ∧ nmB t.text = decide (t.kind = 1)
theorem good_of {r : List UInt8} {n : Nat} (hr : r ≠ []) (h : (pieceL r).2.2 = 0) : Good ⟨(pieceL r).1, r.take (pieceL r).2.1, n⟩ := by
  obtain ⟨h1, h2, h3, h4, h5, h6⟩ := piece_ok hr h
  have hl : (r.take (pieceL r).2.1).length = (pieceL r).2.1 := by rw [List.length_take, Nat.min_eq_left h2]
  refine ⟨fun e => ?_, ?_, h4, h5, h6⟩
  · have e : r.take (pieceL r).2.1 = [] := e
    rw [e] at hl; simp at hl; omega
  · show pieceL (r.take (pieceL r).2.1) = (_, (r.take (pieceL r).2.1).length, 0)
    rw [hl]; exact h3
theorem before_good {acc : List Tok} {x : Lexed} (h1 : ∀ t ∈ acc, Good t) (h2 : ∀ t ∈ x.1, Good t) : ∀ t ∈ (before acc x).1, Good t := by
  unfold before
  split
  · intro t ht
    rcases List.mem_append.1 ht with h | h
    · exact h1 t h
    · exact h2 t h
  · intro t ht; cases ht
theorem lex_good (n : Nat) (r : List UInt8) : ∀ t ∈ (lexR n r).1, Good t := by
  refine lex_ind (P := fun r => ∀ t ∈ (lexR n r).1, Good t) ?_ ?_ ?_ r
  · intro t ht; cases ht
  · intro r hr h; rw [lexR_bad hr h]; intro t ht; cases ht
  · intro r hr h ih
    rw [lexR_ok hr h]
    refine before_good ?_ ih
    intro t ht
    rw [List.mem_singleton] at ht
    subst ht
    exact good_of hr h
/-- where Lex ends -/
theorem lex_ends (n : Nat) (r : List UInt8) (hn : r.length ≤ n) : ((lexR n r).2.2 = 0 → (lexR n r).2.1 = n) ∧ ((lexR n r).2.2 ≠ 0 → (lexR n r).2.1 < n ∧ (lexR n r).1 = []) := by
  revert hn
  refine lex_ind (P := fun r => r.length ≤ n → ((lexR n r).2.2 = 0 → (lexR n r).2.1 = n) ∧ ((lexR n r).2.2 ≠ 0 → (lexR n r).2.1 < n ∧ (lexR n r).1 = [])) ?_ ?_ ?_ r
  · intro _; rw [lexR_nil]; exact ⟨fun _ => rfl, fun h => absurd rfl h⟩
  · intro r hr h hn
    rw [lexR_bad hr h]
    have : 0 < r.length := List.length_pos_iff.2 hr
    exact ⟨fun e => absurd e h, fun _ => ⟨by show n - r.length < n; omega, rfl⟩⟩
  · intro r hr h ih hn
    rw [lexR_ok hr h]
    have := less_of hr h
    obtain ⟨i1, i2⟩ := ih (by omega)
    unfold before
    split
    · rename_i h0; exact ⟨fun _ => i1 h0, fun e => absurd rfl e⟩
    · rename_i h0; exact ⟨fun e => absurd e h0, fun _ => ⟨(i2 h0).1, rfl⟩⟩
/-- joined texts are no more than twice as long -/
theorem join_cons (t : Tok) (l : List Tok) : (joinL (t :: l)).length ≤ t.text.length + 1 + (joinL l).length := by
  cases l with
  | nil => simp [joinL]
  | cons u l => simp [joinL]; omega
theorem join_len (n : Nat) (r : List UInt8) : (joinL (lexR n r).1).length ≤ 2 * r.length := by
  refine lex_ind (P := fun r => (joinL (lexR n r).1).length ≤ 2 * r.length) ?_ ?_ ?_ r
  · simp [lexR_nil, joinL]
  · intro r hr h; rw [lexR_bad hr h]; simp [joinL]
  · intro r hr h ih
    rw [lexR_ok hr h]
    unfold before
    split
    · obtain ⟨h1, h2, _⟩ := piece_ok hr h
      have hg := gap_le false (r.drop (pieceL r).2.1)
      rw [List.length_drop] at hg
      have hj := join_cons ⟨(pieceL r).1, r.take (pieceL r).2.1, n - r.length⟩ (lexR n (gapL false (r.drop (pieceL r).2.1))).1
      have hl : (r.take (pieceL r).2.1).length = (pieceL r).2.1 := by rw [List.length_take, Nat.min_eq_left h2]
      simp only [List.singleton_append]
      simp only [hl] at hj
      omega
    · simp [joinL]
/-- alike but for places -/
def Alike : List Tok → List Tok → Prop
  | [], [] => True
  | t :: l, u :: m => t.kind = u.kind ∧ t.text = u.text ∧ Alike l m
  | _, _ => False
theorem good_head {t : Tok} (h : Good t) : blk8 (t.text.headD 0) = false ∧ (t.text.headD 0).toNat ≠ 35 := piece_head h.1 (by rw [h.2.1])
theorem join_head {t : Tok} {l : List Tok} (h : Good t) : joinL (t :: l) ≠ [] ∧ (joinL (t :: l)).headD 0 = t.text.headD 0 := by
  cases l with
  | nil => exact ⟨h.1, rfl⟩
  | cons u l => exact ⟨by simp [joinL], by show (t.text ++ _).headD 0 = _; rw [headD_app h.1]⟩
theorem join_gap {l : List Tok} (h : ∀ t ∈ l, Good t) : gapL false (joinL l) = joinL l := by
  cases l with
  | nil => rfl
  | cons t l =>
    have ht := h t (by simp)
    obtain ⟨_, h2⟩ := join_head (l := l) ht
    obtain ⟨h3, h4⟩ := good_head ht
    exact gap_self (by rw [h2]; exact h3) (by rw [h2]; exact h4)
/-- what is joined is cut into the same tokens, but for their places -/
theorem join_back (n : Nat) : ∀ (l : List Tok), (∀ t ∈ l, Good t) → (lexR n (joinL l)).2 = (n, 0) ∧ Alike (lexR n (joinL l)).1 l
  | [], _ => ⟨rfl, trivial⟩
  | [t], h => by
    have ht := h t (by simp)
    have hp : (pieceL t.text).2.2 = 0 := by rw [ht.2.1]
    rw [show joinL [t] = t.text from rfl, lexR_ok ht.1 hp, ht.2.1]
    simp only [List.take_length, List.drop_length]
    rw [show gapL false [] = [] from rfl, lexR_nil]
    exact ⟨rfl, rfl, rfl, trivial⟩
  | t :: u :: l, h => by
    have ht := h t (by simp)
    have hg := join_gap (l := u :: l) (fun x hx => h x (by simp only [List.mem_cons] at hx ⊢; exact .inr hx))
    have ih := join_back n (u :: l) (fun x hx => h x (by simp only [List.mem_cons] at hx ⊢; exact .inr hx))
    have hps : pieceL (t.text ++ 32 :: joinL (u :: l)) = (t.kind, t.text.length, 0) := (piece_stop (by decide) ht.1 _).trans ht.2.1
    have hp : (pieceL (t.text ++ 32 :: joinL (u :: l))).2.2 = 0 := by rw [hps]
    rw [show joinL (t :: u :: l) = t.text ++ 32 :: joinL (u :: l) from rfl, lexR_ok (by simp) hp, hps]
    simp only [List.take_left, List.drop_left]
    rw [show gapL false (32 :: joinL (u :: l)) = gapL false (joinL (u :: l)) from rfl, hg]
    obtain ⟨h1, h2⟩ := ih
    unfold before
    rw [if_pos (by rw [h1])]
    exact ⟨by rw [h1], rfl, rfl, h2⟩
theorem alike_len : ∀ {l m : List Tok}, Alike l m → l.length = m.length
  | [], [], _ => rfl
  | t :: l, u :: m, h => by simp [alike_len h.2.2]
theorem alike_join : ∀ {l m : List Tok}, Alike l m → joinL l = joinL m
  | [], [], _ => rfl
  | [t], [u], h => h.2.1
  | t :: t2 :: l, u :: u2 :: m, h => by
    show t.text ++ 32 :: joinL (t2 :: l) = u.text ++ 32 :: joinL (u2 :: m)
    rw [h.2.1, alike_join h.2.2]
/-- places -/
def Places (l : List UInt8) : Nat → List Tok → Prop
  | _, [] => True
  | lo, t :: ts => (lo ≤ t.at_ ∧ t.at_ + t.text.length ≤ l.length ∧ (l.drop t.at_).take t.text.length = t.text) ∧ Places l (t.at_ + t.text.length) ts
theorem lex_places (l : List UInt8) (r : List UInt8) (lo : Nat) (hlo : lo + r.length ≤ l.length) (hr : r = l.drop (l.length - r.length)) : Places l lo (lexR l.length r).1 := by
  revert lo
  revert hr
  refine lex_ind (P := fun r => r = l.drop (l.length - r.length) → ∀ lo, lo + r.length ≤ l.length → Places l lo (lexR l.length r).1) ?_ ?_ ?_ r
  · intro _ lo _; exact trivial
  · intro r hr h _ lo _; rw [lexR_bad hr h]; exact trivial
  · intro r hr h ih hd lo hlo
    rw [lexR_ok hr h]
    obtain ⟨h1, h2, _⟩ := piece_ok hr h
    have hg := gap_le false (r.drop (pieceL r).2.1)
    have hgd := gap_drop false (r.drop (pieceL r).2.1)
    rw [List.length_drop] at hg
    unfold before
    split
    · have hl : (r.take (pieceL r).2.1).length = (pieceL r).2.1 := by rw [List.length_take, Nat.min_eq_left h2]
      show (lo ≤ l.length - r.length ∧ l.length - r.length + (r.take (pieceL r).2.1).length ≤ l.length ∧ (l.drop (l.length - r.length)).take (r.take (pieceL r).2.1).length = r.take (pieceL r).2.1) ∧ Places l (l.length - r.length + (r.take (pieceL r).2.1).length) (lexR l.length (gapL false (r.drop (pieceL r).2.1))).1
      rw [hl, ← hd]
      refine ⟨⟨by omega, by omega, rfl⟩, ih ?_ _ (by omega)⟩
      generalize gapL false (r.drop (pieceL r).2.1) = G at *
      generalize (pieceL r).2.1 = m at *
      rw [List.length_drop, List.drop_drop] at hgd
      have e1 : r.drop (m + (r.length - m - G.length)) = (l.drop (l.length - r.length)).drop (m + (r.length - m - G.length)) := congrArg (List.drop _) hd
      refine hgd.trans (e1.trans ?_)
      rw [List.drop_drop]
      congr 1
      omega
    · exact trivial
/-- shifted -/
def shift (d : Nat) (x : Lexed) : Lexed := (x.1.map fun t => ⟨t.kind, t.text, t.at_ + d⟩, x.2.1 + d, x.2.2)
theorem lex_shift (n d : Nat) (r : List UInt8) (hn : r.length ≤ n) : lexR (n + d) r = shift d (lexR n r) := by
  revert hn
  refine lex_ind (P := fun r => r.length ≤ n → lexR (n + d) r = shift d (lexR n r)) ?_ ?_ ?_ r
  · intro _; rfl
  · intro r hr h hn
    rw [lexR_bad hr h, lexR_bad hr h]
    unfold shift
    simp; omega
  · intro r hr h ih hn
    rw [lexR_ok hr h, lexR_ok hr h, ih (by have := less_of hr h; omega)]
    unfold before shift
    split
    · simp; omega
    · simp
/-- two texts, with a line feed between -/
theorem lex_more (n : Nat) (x : List UInt8) (r : List UInt8) (hn : r.length ≤ n) :
    lexR (n + (1 + x.length)) (if r = [] then gapL false x else r ++ 10 :: x) = if (lexR n r).2.2 = 0 then before (lexR n r).1 (lexR (n + (1 + x.length)) (gapL false x)) else lexR n r := by
  revert hn
  refine lex_ind (P := fun r => r.length ≤ n → lexR (n + (1 + x.length)) (if r = [] then gapL false x else r ++ 10 :: x) = if (lexR n r).2.2 = 0 then before (lexR n r).1 (lexR (n + (1 + x.length)) (gapL false x)) else lexR n r) ?_ ?_ ?_ r
  · intro _
    rw [if_pos rfl, lexR_nil, if_pos rfl]
    exact (before_nil _ (lex_err _ _ _)).symm
  · intro r hr h hn
    have hs := piece_stop (c := 10) (by decide) hr x
    rw [if_neg hr, lexR_bad hr h, if_neg h, lexR_bad (by simp) (by rw [hs]; exact h), hs]
    simp; omega
  · intro r hr h ih hn
    have hs := piece_stop (c := 10) (by decide) hr x
    obtain ⟨h1, h2, _⟩ := piece_ok hr h
    have ih := ih (by have := less_of hr h; omega)
    rw [if_neg hr, lexR_ok (by simp) (by rw [hs]; exact h), hs, List.take_append_of_le_length h2, List.drop_append_of_le_length h2, gap_feed, ih, lexR_ok hr h]
    have hat : n + (1 + x.length) - (r ++ 10 :: x).length = n - r.length := by simp; omega
    rw [hat]
    generalize lexR n (gapL false (r.drop (pieceL r).2.1)) = y
    generalize lexR (n + (1 + x.length)) (gapL false x) = z
    obtain ⟨l, a, e⟩ := y
    by_cases he : e = 0
    · subst he
      simp only [if_true]
      rw [before_before]
      unfold before
      simp
    · simp only [he, if_false]
      unfold before
      simp [he]
/-- a number, or a name, alone -/
theorem lex_num {l : List UInt8} (h : numB l = true) (n : Nat) : lexR n (gapL false l) = ([⟨2, l, n - l.length⟩], n, 0) ∧ nmB l = false := by
  unfold numB at h
  simp only [Bool.and_eq_true, decide_eq_true_eq] at h
  obtain ⟨⟨⟨h1, h2⟩, h3⟩, h4⟩ := h
  have hr : l ≠ [] := List.length_pos_iff.1 h1
  have hd : dig8 (l.headD 0) = true := by
    cases l with
    | nil => exact absurd rfl hr
    | cons c x => simp only [List.all_cons, Bool.and_eq_true] at h2; exact h2.1
  have hl : let8 (l.headD 0) = false := by unfold dig8 digB at hd; unfold let8 letB; simp at hd ⊢; omega
  have hb : blk8 (l.headD 0) = false := by unfold dig8 digB at hd; unfold blk8; simp at hd ⊢; omega
  have h35 : (l.headD 0).toNat ≠ 35 := by unfold dig8 digB at hd; simp at hd ⊢; omega
  have hw : l.takeWhile dig8 = l := run_all h2
  have hrn : runL dig8 l = l.length := by unfold runL; rw [hw]
  have hn : numB l = true := by unfold numB; simp only [Bool.and_eq_true, decide_eq_true_eq]; exact ⟨⟨⟨h1, h2⟩, h3⟩, h4⟩
  have e : pieceL l = (2, l.length, 0) := by
    unfold pieceL
    rw [if_neg (by rw [hl]; decide), if_pos hd, hw, hrn, List.drop_length, hn]
    simp only [Bool.not_eq_true'] at h3
    rw [h3]; rfl
  refine ⟨?_, by unfold nmB; rw [hl]; simp⟩
  rw [gap_self hb h35, lexR_ok hr (by rw [e]), e]
  simp only [List.take_length, List.drop_length]
  rfl
theorem lex_name {l : List UInt8} (h : nmB l = true) (n : Nat) : lexR n (gapL false l) = ([⟨1, l, n - l.length⟩], n, 0) ∧ numB l = false := by
  unfold nmB at h
  simp only [Bool.and_eq_true, decide_eq_true_eq] at h
  obtain ⟨⟨⟨h1, h2⟩, h3⟩, h4⟩ := h
  have hr : l ≠ [] := List.length_pos_iff.1 h1
  have hd : dig8 (l.headD 0) = false := by unfold let8 letB at h3; unfold dig8 digB; simp at h3 ⊢; omega
  have hb : blk8 (l.headD 0) = false := by unfold let8 letB at h3; unfold blk8; simp at h3 ⊢; omega
  have h35 : (l.headD 0).toNat ≠ 35 := by unfold let8 letB at h3; simp at h3 ⊢; omega
  have hw : l.takeWhile ok8 = l := run_all h4
  have hrn : runL ok8 l = l.length := by unfold runL; rw [hw]
  have e : pieceL l = (1, l.length, 0) := by
    unfold pieceL
    rw [if_pos h3, hrn, if_neg (by omega)]
  refine ⟨?_, ?_⟩
  · rw [gap_self hb h35, lexR_ok hr (by rw [e]), e]
    simp only [List.take_length, List.drop_length]
    rfl
  · unfold numB
    have : l.all dig8 = false := by
      cases l with
      | nil => exact absurd rfl hr
      | cons c x => rw [List.all_cons, show dig8 c = false from hd]; rfl
    rw [this]; simp
/- values -/
theorem val_ge : ∀ (l : List UInt8) (a : Nat), a ≤ valL a l
  | [], a => Nat.le_refl _
  | c :: r, a => by unfold valL; have := val_ge r (a * 10 + (c.toNat - 48)); omega
theorem parse_dig : ∀ (l : List UInt8) (a : Nat), l.all dig8 = true → a < 18446744073709551616 → Go.Lib.parseUint10 a l = if valL a l < 18446744073709551616 then .ok (valL a l) else .range
  | [], a, _, ha => by unfold Go.Lib.parseUint10 valL; rw [if_pos ha]
  | c :: r, a, h, ha => by
    simp only [List.all_cons, Bool.and_eq_true] at h
    have hc : 48 ≤ c.toNat ∧ c.toNat ≤ 57 := by have := h.1; unfold dig8 digB at this; simp at this; omega
    unfold Go.Lib.parseUint10 valL
    have hv := val_ge r (a * 10 + (c.toNat - 48))
    rw [if_pos hc]
    split
    · rw [if_neg (by omega)]
    · split
      · rw [if_neg (by omega)]
      · exact parse_dig r _ h.2 (by omega)
theorem atoi_dig {l : List UInt8} (hl : l ≠ []) (h : l.all dig8 = true) : Go.Lib.atoiAll l = if valL 0 l < 9223372036854775808 then .ok (valL 0 l : Int) else .range := by
  cases l with
  | nil => exact absurd rfl hl
  | cons c r =>
    have hc : 48 ≤ c.toNat ∧ c.toNat ≤ 57 := by
      simp only [List.all_cons, Bool.and_eq_true] at h
      have := h.1; unfold dig8 digB at this; simp at this; omega
    rw [Go.Lib.atoiAll_plain c r (by omega) (by omega)]
    unfold Go.Lib.parseMag
    rw [if_neg (by simp), parse_dig _ 0 h (by omega)]
    unfold Go.Lib.signless
    by_cases h1 : valL 0 (c :: r) < 9223372036854775808
    · rw [if_pos h1, if_pos (by omega)]; simp; omega
    · rw [if_neg h1]
      by_cases h2 : valL 0 (c :: r) < 18446744073709551616
      · rw [if_pos h2]; simp; omega
      · rw [if_neg h2]
/-- the value of what is a number; else none -/
def numV (l : List UInt8) : Int := if numB l then (valL 0 l : Int) else 0
theorem val_dig (l : List UInt8) (a : Nat) (c : UInt8) : valL a (l ++ [c]) = valL a l * 10 + (c.toNat - 48) := by
  induction l generalizing a with
  | nil => rfl
  | cons d l ih => exact ih _
/- the document's signs -/
def twoL : List (List UInt8) := [[46, 46], [61, 61], [33, 61], [60, 61], [38, 38], [124, 124]]
def oneL : List UInt8 := [59, 58, 61, 44, 40, 41, 123, 125, 42, 43, 45, 47, 37, 60, 33]
theorem sign_two {r : List UInt8} (h : ∃ t ∈ twoL, t.isPrefixOf r = true) : best signsL r = 2 := by
  obtain ⟨t, ht, hp⟩ := h
  have h1 : t ∈ signsL ∧ t.length = 2 := (show ∀ t ∈ twoL, t ∈ signsL ∧ t.length = 2 by decide) t ht
  have h2 := best_ge h1.1 hp
  rcases best_mem (ts := signsL) (r := r) with h0 | ⟨u, hu, _, he⟩
  · omega
  · have : u.length ≤ 2 := (show ∀ t ∈ signsL, t.length ≤ 2 by decide) u hu
    omega
theorem sign_one {r : List UInt8} (hn : ∀ t ∈ twoL, t.isPrefixOf r = false) (hr : r ≠ []) (h : r.headD 0 ∈ oneL) : best signsL r = 1 := by
  have h1 : [r.headD 0] ∈ signsL := (show ∀ c ∈ oneL, [c] ∈ signsL by decide) _ h
  have hp : [r.headD 0].isPrefixOf r = true := by
    cases r with
    | nil => exact absurd rfl hr
    | cons c r => simp [List.isPrefixOf]
  have h2 := best_ge h1 hp
  simp at h2
  rcases best_mem (ts := signsL) (r := r) with h0 | ⟨u, hu, hq, he⟩
  · omega
  · have : u.length = 1 ∨ u ∈ twoL := (show ∀ t ∈ signsL, t.length = 1 ∨ t ∈ twoL by decide) u hu
    rcases this with h3 | h3
    · omega
    · rw [hn u h3] at hq; cases hq
theorem sign_none {r : List UInt8} (hn : ∀ t ∈ twoL, t.isPrefixOf r = false) (hr : r ≠ []) (h : r.headD 0 ∉ oneL) : best signsL r = 0 := by
  rcases best_mem (ts := signsL) (r := r) with h0 | ⟨u, hu, hq, he⟩
  · exact h0
  · have : u ∈ twoL ∨ ∃ c ∈ oneL, u = [c] := (show ∀ t ∈ signsL, t ∈ twoL ∨ ∃ c ∈ oneL, t = [c] by decide) u hu
    rcases this with h3 | ⟨c, hc, rfl⟩
    · rw [hn u h3] at hq; cases hq
    · cases r with
      | nil => exact absurd rfl hr
      | cons d r =>
        simp [List.isPrefixOf] at hq
        subst hq
        exact absurd hc h
/- words -/
def wordsL : List (List UInt8) := [[99, 111, 108, 111, 117, 114], [112, 108, 97, 99, 101], [116, 97, 115, 107], [118, 97, 114], [119, 104, 101, 110], [106, 111, 105, 110], [115, 112, 108, 105, 116], [105, 110], [111, 117, 116], [99, 97, 110, 99, 101, 108], [97, 102, 116, 101, 114], [109, 97, 110, 121], [102, 114, 111, 109], [116, 111], [105, 110, 116], [101, 110, 117, 109], [112, 97, 105, 114], [97, 110, 100], [120, 111, 114], [111, 114], [105, 102]]
def wordB (l : List UInt8) : Bool := decide (l ∈ wordsL)
theorem word_name {l : List UInt8} (h : wordB l = true) : nmB l = true := by
  have h := of_decide_eq_true h
  exact (show ∀ t ∈ wordsL, nmB t = true by decide) l h
theorem nameB_eq (s : ByteArray) : nameB s = nmB s.data.toList := by
  unfold nameB nmB let8 ok8
  rw [show s.data.toList.length = s.size by simp]
  cases h : s.data.toList with
  | nil => simp
  | cons c r => rfl
end Go.Proofs.YtjcanodnlnodpaaGreatDoor.Token
/- Expressions as trees: what is told of them, in plain Lean. -/
namespace Go.Proofs.YtjcanodnlnodpaaGreatDoor.Expr
open Go.Proofs.YtjcanodnlnodpaaGreatDoor.Calc
set_option linter.unusedVariables false

/-- an expression -/
structure Ex where
  kind : Int
  num : Int
  kids : List Ex

theorem Ex.ind {p : Ex → Prop} (h : ∀ k n ks, (∀ x, x ∈ ks → p x) → p ⟨k, n, ks⟩) : ∀ t, p t := by
  have key : ∀ (m : Nat) (t : Ex), SizeOf.sizeOf t ≤ m → p t := by
    intro m
    induction m with
    | zero => intro t ht; cases t; simp at ht
    | succ m ih =>
      intro t ht
      obtain ⟨k, n, ks⟩ := t
      refine h k n ks fun x hx => ih x ?_
      have := List.sizeOf_lt_of_mem hx
      simp at ht
      omega
  exact fun t => key _ t (Nat.le_refl _)

def fold {α : Type} (f : Int → Int → List Ex → List α → α) : Ex → α
  | ⟨k, n, ks⟩ => f k n ks (ks.map (fold f))
theorem fold_eq {α : Type} (f : Int → Int → List Ex → List α → α) (k n : Int) (ks : List Ex) : fold f ⟨k, n, ks⟩ = f k n ks (ks.map (fold f)) := by
  rw [fold]

/-- the greatest of some numbers, and of 0 -/
def mx : List Nat → Nat
  | [] => 0
  | x :: l => max x (mx l)
def sm : List Nat → Nat
  | [] => 0
  | x :: l => x + sm l
def depthF : Ex → Nat := fold fun _ _ _ l => 1 + mx l
def sizeF : Ex → Nat := fold fun _ _ _ l => 1 + sm l
theorem depth_eq (k n : Int) (ks : List Ex) : depthF ⟨k, n, ks⟩ = 1 + mx (ks.map depthF) := fold_eq ..
theorem size_eq (k n : Int) (ks : List Ex) : sizeF ⟨k, n, ks⟩ = 1 + sm (ks.map sizeF) := fold_eq ..
theorem mx_snoc (l : List Nat) (x : Nat) : mx (l ++ [x]) = max (mx l) x := by
  induction l with
  | nil => simp [mx]
  | cons y l ih => simp only [List.cons_append, mx, ih]; omega
theorem sm_snoc (l : List Nat) (x : Nat) : sm (l ++ [x]) = sm l + x := by
  induction l with
  | nil => simp [sm]
  | cons y l ih => simp only [List.cons_append, sm, ih]; omega
theorem mx_mem {l : List Nat} {x : Nat} (h : x ∈ l) : x ≤ mx l := by
  induction l with
  | nil => cases h
  | cons y l ih =>
    rcases List.mem_cons.1 h with rfl | h
    · simp only [mx]; omega
    · have := ih h; simp only [mx]; omega
theorem mx_le {l : List Nat} {m : Nat} (h : ∀ x, x ∈ l → x ≤ m) : mx l ≤ m := by
  induction l with
  | nil => simp [mx]
  | cons y l ih =>
    have h1 := h y (by simp)
    have h2 := ih fun x hx => h x (by simp [hx])
    simp only [mx]; omega
theorem sm_mem {l : List Nat} {x : Nat} (h : x ∈ l) : x ≤ sm l := by
  induction l with
  | nil => cases h
  | cons y l ih =>
    rcases List.mem_cons.1 h with rfl | h
    · simp only [sm]; omega
    · have := ih h; simp only [sm]; omega
theorem sm_append (l r : List Nat) : sm (l ++ r) = sm l + sm r := by
  induction l with
  | nil => simp [sm]
  | cons y l ih => simp only [List.cons_append, sm, ih]; omega
theorem sm_take_le (l : List Nat) (k : Nat) : sm (l.take k) ≤ sm l := by
  have h := sm_append (l.take k) (l.drop k)
  rw [List.take_append_drop] at h
  omega
theorem mx_take_le (l : List Nat) (k : Nat) : mx (l.take k) ≤ mx l := mx_le fun x hx => mx_mem (List.mem_of_mem_take hx)
theorem depth_pos (t : Ex) : 1 ≤ depthF t := by obtain ⟨k, n, ks⟩ := t; rw [depth_eq]; omega
theorem size_pos (t : Ex) : 1 ≤ sizeF t := by obtain ⟨k, n, ks⟩ := t; rw [size_eq]; omega
theorem size_kid {k n : Int} {ks : List Ex} {x : Ex} (h : x ∈ ks) : sizeF x + 1 ≤ sizeF ⟨k, n, ks⟩ := by
  rw [size_eq]
  have := sm_mem (List.mem_map_of_mem (f := sizeF) h)
  omega
theorem depth_kid {k n : Int} {ks : List Ex} {x : Ex} (h : x ∈ ks) : depthF x + 1 ≤ depthF ⟨k, n, ks⟩ := by
  rw [depth_eq]
  have := mx_mem (List.mem_map_of_mem (f := depthF) h)
  omega
theorem len_le_sm (ks : List Ex) : ks.length ≤ sm (ks.map sizeF) := by
  induction ks with
  | nil => simp [sm]
  | cons x l ih => simp only [List.map_cons, sm, List.length_cons]; have := size_pos x; omega
theorem len_size (k n : Int) (ks : List Ex) : ks.length + 1 ≤ sizeF ⟨k, n, ks⟩ := by
  rw [size_eq]; have := len_le_sm ks; omega
theorem depth_le_size : ∀ t, depthF t ≤ sizeF t := by
  refine Ex.ind fun k n ks ih => ?_
  rw [depth_eq, size_eq]
  have : mx (ks.map depthF) ≤ sm (ks.map sizeF) := mx_le fun x hx => by
    obtain ⟨y, hy, rfl⟩ := List.mem_map.1 hx
    exact Nat.le_trans (ih y hy) (sm_mem (List.mem_map_of_mem hy))
  omega

/-- is a node as its kind asks? -/
def nodeB (vars : Int) (k n : Int) (len : Nat) : Bool :=
  if k = 1 then decide (len = 0) else if k = 2 then decide (len = 0 ∧ 0 ≤ n ∧ n < vars) else if k = 3 then decide (len = 1) else if k = 4 then decide (len = 1)
  else if k = 5 then decide (len = 2) && knownB n else if k = 6 then decide (len = 3) else false
def partsB (vars : Int) : Ex → Bool := fold fun k n ks l => nodeB vars k n ks.length && l.all id
theorem parts_eq (vars k n : Int) (ks : List Ex) : partsB vars ⟨k, n, ks⟩ = (nodeB vars k n ks.length && ks.all (partsB vars)) := by
  unfold partsB
  rw [fold_eq, List.all_map]; rfl
def rightB (vars : Int) (t : Ex) : Bool := decide (depthF t ≤ 40 ∧ sizeF t ≤ 400) && partsB vars t
theorem parts_kid {vars k n : Int} {ks : List Ex} {x : Ex} (h : partsB vars ⟨k, n, ks⟩ = true) (hx : x ∈ ks) : partsB vars x = true := by
  rw [parts_eq, Bool.and_eq_true] at h
  exact List.all_eq_true.1 h.2 x hx
theorem parts_node {vars k n : Int} {ks : List Ex} (h : partsB vars ⟨k, n, ks⟩ = true) : nodeB vars k n ks.length = true := by
  rw [parts_eq, Bool.and_eq_true] at h
  exact h.1

/-- what a node comes to, of what its kids do -/
def nodeF (env : List Int) (k n : Int) (l : List (Int × Int)) : Int × Int :=
  if k = 1 then (n, 0) else if k = 2 then (env.getD n.toNat 0, 0)
  else if (l.getD 0 (0, 0)).2 ≠ 0 then (0, (l.getD 0 (0, 0)).2)
  else if k = 3 then doF 2 0 (l.getD 0 (0, 0)).1
  else if k = 4 then (if (l.getD 0 (0, 0)).1 = 0 then 1 else 0, 0)
  else if k = 6 then (if (l.getD 0 (0, 0)).1 = 0 then l.getD 2 (0, 0) else l.getD 1 (0, 0))
  else if n = 10 ∧ (l.getD 0 (0, 0)).1 = 0 then (0, 0)
  else if n = 11 ∧ (l.getD 0 (0, 0)).1 ≠ 0 then (1, 0)
  else if (l.getD 1 (0, 0)).2 ≠ 0 then (0, (l.getD 1 (0, 0)).2)
  else doF n (l.getD 0 (0, 0)).1 (l.getD 1 (0, 0)).1
def valF (env : List Int) : Ex → Int × Int := fold fun k n _ l => nodeF env k n l
theorem val_eq (env : List Int) (k n : Int) (ks : List Ex) : valF env ⟨k, n, ks⟩ = nodeF env k n (ks.map (valF env)) := fold_eq ..
def evalF (env : List Int) (t : Ex) : Int × Int := if rightB env.length t then valF env t else (0, 1)

/-- the numbers of all variables, in their order -/
def varsF : Ex → List Int := fold fun k n _ l => (if k = 2 then [n] else []) ++ l.flatten
theorem vars_eq (k n : Int) (ks : List Ex) : varsF ⟨k, n, ks⟩ = (if k = 2 then [n] else []) ++ (ks.map varsF).flatten := fold_eq ..

def putF (v : Int) (by_ : Ex) : Ex → Ex := fold fun k n _ l => if k = 2 ∧ n = v then by_ else ⟨k, n, l⟩
theorem put_eq (v : Int) (by_ : Ex) (k n : Int) (ks : List Ex) : putF v by_ ⟨k, n, ks⟩ = if k = 2 ∧ n = v then by_ else ⟨k, n, ks.map (putF v by_)⟩ := fold_eq ..
end Go.Proofs.YtjcanodnlnodpaaGreatDoor.Expr
/- The plain mathematics of layer 3: rows of a member and a count. No program stands in it. -/
namespace Go.Proofs.YtjcanodnlnodpaaGreatDoor.Bag
set_option linter.unusedVariables false
abbrev Row := Int × Int
def zr : Row := (0, 0)

/-- a right bag -/
def RightP (b : List Row) : Prop := b.Pairwise (fun x y => x.1 < y.1) ∧ ∀ r ∈ b, 0 ≤ r.1 ∧ 1 ≤ r.2 ∧ r.2 ≤ 1048576
def rightB (b : List Row) : Bool := decide (b.Pairwise (fun x y => x.1 < y.1)) && b.all fun r => decide (0 ≤ r.1 ∧ 1 ≤ r.2 ∧ r.2 ≤ 1048576)
theorem rightB_iff {b : List Row} : rightB b = true ↔ RightP b := by
  unfold rightB RightP
  rw [Bool.and_eq_true, decide_eq_true_iff, List.all_eq_true]
  exact and_congr_right fun _ => forall_congr' fun r => forall_congr' fun _ => by rw [decide_eq_true_iff]
theorem rightB_false {b : List Row} : rightB b = false ↔ ¬ RightP b := by rw [← rightB_iff]; simp

def goodAt (b : List Row) (j : Nat) : Prop := (0 ≤ (b.getD j zr).1 ∧ 1 ≤ (b.getD j zr).2 ∧ (b.getD j zr).2 ≤ 1048576) ∧ (0 < j → (b.getD (j - 1) zr).1 < (b.getD j zr).1)
theorem getD_get {α : Type} {l : List α} {j : Nat} (d : α) (h : j < l.length) : l.getD j d = l[j] := by
  rw [List.getD_eq_getElem?_getD, List.getElem?_eq_getElem h]; rfl
theorem getD_mem {b : List Row} {j : Nat} (h : j < b.length) : b.getD j zr ∈ b := by rw [getD_get zr h]; exact List.getElem_mem _
theorem right_good {b : List Row} (h : RightP b) {j : Nat} (hj : j < b.length) : goodAt b j := by
  refine ⟨h.2 _ (getD_mem hj), fun h0 => ?_⟩
  rw [getD_get zr hj, getD_get zr (show j - 1 < b.length by omega)]
  exact List.pairwise_iff_getElem.1 h.1 (j - 1) j (by omega) hj (by omega)
theorem right_of_good {b : List Row} (h : ∀ j, j < b.length → goodAt b j) : RightP b := by
  constructor
  · rw [List.pairwise_iff_getElem]
    intro i j hi hj hij
    have key : ∀ d, i + d + 1 < b.length → (b.getD i zr).1 < (b.getD (i + d + 1) zr).1 := by
      intro d
      induction d with
      | zero => intro hd; exact (h (i + 0 + 1) hd).2 (by omega)
      | succ d ih =>
        intro hd
        have h1 := ih (by omega)
        have h2 := (h (i + (d + 1) + 1) hd).2 (by omega)
        rw [show i + (d + 1) + 1 - 1 = i + d + 1 by omega] at h2
        omega
    have := key (j - i - 1) (by omega)
    rw [show i + (j - i - 1) + 1 = j by omega, getD_get zr hi, getD_get zr hj] at this
    exact this
  · intro r hr
    obtain ⟨j, hj, rfl⟩ := List.getElem_of_mem hr
    have := (h j hj).1
    rwa [getD_get zr hj] at this
theorem rightB_good {b : List Row} (h : ∀ j, j < b.length → goodAt b j) : rightB b = true := rightB_iff.2 (right_of_good h)
theorem rightB_bad {b : List Row} {j : Nat} (hj : j < b.length) (h : ¬ goodAt b j) : rightB b = false := rightB_false.2 fun hr => h (right_good hr hj)
theorem right_nil : RightP [] := ⟨List.Pairwise.nil, fun r h => by cases h⟩
theorem right_cons {r : Row} {b : List Row} (h : RightP (r :: b)) : RightP b ∧ (0 ≤ r.1 ∧ 1 ≤ r.2 ∧ r.2 ≤ 1048576) ∧ ∀ s ∈ b, r.1 < s.1 := by
  obtain ⟨h1, h2⟩ := h
  rw [List.pairwise_cons] at h1
  exact ⟨⟨h1.2, fun s hs => h2 s (by simp [hs])⟩, h2 r (by simp), h1.1⟩
theorem right_cons_mk {r : Row} {b : List Row} (h : RightP b) (h1 : 0 ≤ r.1 ∧ 1 ≤ r.2 ∧ r.2 ≤ 1048576) (h2 : ∀ s ∈ b, r.1 < s.1) : RightP (r :: b) :=
  ⟨List.pairwise_cons.2 ⟨h2, h.1⟩, fun s hs => by rcases List.mem_cons.1 hs with rfl | hs; exact h1; exact h.2 s hs⟩

/-- how many there are of a member -/
def cntF : List Row → Int → Int
  | [], _ => 0
  | r :: b, m => if r.1 = m then r.2 else cntF b m
theorem cntF_not : ∀ {b : List Row} {m : Int}, (∀ r ∈ b, r.1 ≠ m) → cntF b m = 0
  | [], _, _ => rfl
  | r :: b, m, h => by
    unfold cntF
    rw [if_neg (h r (by simp))]
    exact cntF_not fun s hs => h s (by simp [hs])
theorem cntF_mem : ∀ {b : List Row} {r : Row}, b.Pairwise (fun x y => x.1 < y.1) → r ∈ b → cntF b r.1 = r.2
  | s :: b, r, h, hr => by
    rw [List.pairwise_cons] at h
    unfold cntF
    rcases List.mem_cons.1 hr with rfl | hr
    · rw [if_pos rfl]
    · have := h.1 r hr
      rw [if_neg (by omega)]
      exact cntF_mem h.2 hr
theorem cntF_some {b : List Row} {m : Int} (h : cntF b m ≠ 0) : ∃ r ∈ b, r.1 = m := by
  apply Classical.byContradiction
  intro hn
  exact h (cntF_not fun r hr e => hn ⟨r, hr, e⟩)
theorem cntF_range {b : List Row} (h : RightP b) (m : Int) : 0 ≤ cntF b m ∧ cntF b m ≤ 1048576 := by
  by_cases h0 : cntF b m = 0
  · omega
  · obtain ⟨r, hr, rfl⟩ := cntF_some h0
    rw [cntF_mem h.1 hr]
    have := h.2 r hr
    omega
theorem cntF_low {b : List Row} (h : RightP b) {m : Int} (hm : m < 0) : cntF b m = 0 :=
  cntF_not fun r hr e => by have := h.2 r hr; omega
theorem cntF_snoc : ∀ {b : List Row} {r : Row} (m : Int), (∀ s ∈ b, s.1 ≠ r.1) → cntF (b ++ [r]) m = if m = r.1 then r.2 else cntF b m
  | [], r, m, _ => by
    show (if r.1 = m then r.2 else 0) = if m = r.1 then r.2 else 0
    by_cases h : m = r.1
    · rw [if_pos h, if_pos h.symm]
    · rw [if_neg h, if_neg fun e => h e.symm]
  | s :: b, r, m, h => by
    have hs := h s (by simp)
    have ih := cntF_snoc (b := b) (r := r) m fun x hx => h x (by simp [hx])
    show (if s.1 = m then s.2 else cntF (b ++ [r]) m) = if m = r.1 then r.2 else if s.1 = m then s.2 else cntF b m
    rw [ih]
    by_cases h1 : s.1 = m
    · have h2 : ¬ m = r.1 := by omega
      rw [if_pos h1, if_neg h2, if_pos h1]
    · rw [if_neg h1, if_neg h1]
/-- two right bags with as many of each member are one -/
theorem right_ext : ∀ {a b : List Row}, RightP a → RightP b → (∀ m, cntF a m = cntF b m) → a = b
  | [], [], _, _, _ => rfl
  | [], r :: b, _, hb, h => by
    have := h r.1
    have h2 := right_cons hb
    simp [cntF] at this
    omega
  | r :: a, [], ha, _, h => by
    have := h r.1
    have h2 := right_cons ha
    simp [cntF] at this
    omega
  | r :: a, s :: b, ha, hb, h => by
    obtain ⟨ha1, ha2, ha3⟩ := right_cons ha
    obtain ⟨hb1, hb2, hb3⟩ := right_cons hb
    have hrs : r.1 = s.1 := by
      apply Classical.byContradiction
      intro hne
      rcases Int.lt_or_gt_of_ne hne with hlt | hlt
      · have h1 := h r.1
        rw [cntF_not (b := s :: b) (fun x hx => by rcases List.mem_cons.1 hx with rfl | hx; omega; have := hb3 x hx; omega)] at h1
        simp [cntF] at h1
        omega
      · have h1 := h s.1
        rw [cntF_not (b := r :: a) (fun x hx => by rcases List.mem_cons.1 hx with rfl | hx; omega; have := ha3 x hx; omega)] at h1
        simp [cntF] at h1
        omega
    have h2 : r.2 = s.2 := by
      have := h r.1
      simp only [cntF, if_pos hrs.symm] at this
      exact this
    obtain rfl : r = s := Prod.ext hrs h2
    have : a = b := right_ext ha1 hb1 fun m => by
      by_cases hm : r.1 = m
      · subst hm
        rw [cntF_not fun x hx => by have := ha3 x hx; omega, cntF_not fun x hx => by have := hb3 x hx; omega]
      · have := h m
        simp only [cntF, if_neg hm] at this
        exact this
    rw [this]

/-- the bag with these counts -/
def Has (c : Int → Int) (b : List Row) : Prop := RightP b ∧ ∀ m, cntF b m = c m
theorem Has.uniq {c : Int → Int} {a b : List Row} (ha : Has c a) (hb : Has c b) : a = b := right_ext ha.1 hb.1 fun m => by rw [ha.2, hb.2]
theorem Has.self {b : List Row} (h : RightP b) : Has (cntF b) b := ⟨h, fun _ => rfl⟩
theorem Has.of {c d : Int → Int} {b : List Row} (h : Has c b) (e : ∀ m, c m = d m) : Has d b := ⟨h.1, fun m => (h.2 m).trans (e m)⟩

/-- the rows of keys that rise -/
def rowsOf (ks : List Int) (c : Int → Int) : List Row := ks.map fun m => (m, c m)
theorem rowsOf_cnt (c : Int → Int) : ∀ (ks : List Int) (m : Int), cntF (rowsOf ks c) m = if m ∈ ks then c m else 0
  | [], m => by simp [rowsOf, cntF]
  | k :: ks, m => by
    have ih := rowsOf_cnt c ks m
    show (if k = m then c k else cntF (rowsOf ks c) m) = _
    rw [ih]
    by_cases h : k = m
    · subst h; simp
    · have : ¬ m = k := fun e => h e.symm
      simp [h, this]
theorem rowsOf_has {ks : List Int} {c : Int → Int} (h1 : ks.Pairwise (· < ·)) (h2 : ∀ m, m ∈ ks ↔ c m ≠ 0) (h3 : ∀ m, c m ≠ 0 → 0 ≤ m ∧ 1 ≤ c m ∧ c m ≤ 1048576) : Has c (rowsOf ks c) := by
  refine ⟨⟨?_, ?_⟩, fun m => ?_⟩
  · unfold rowsOf
    rw [List.pairwise_map]
    exact h1
  · intro r hr
    obtain ⟨m, hm, rfl⟩ := List.mem_map.1 hr
    exact h3 m ((h2 m).1 hm)
  · rw [rowsOf_cnt]
    by_cases h : m ∈ ks
    · rw [if_pos h]
    · rw [if_neg h]
      have := (not_congr (h2 m)).1 h
      omega
/-- keys, sorted -/
theorem sort_rises {ss : List Int} (h : ss.Nodup) : (ss.mergeSort fun x y => decide (x ≤ y)).Pairwise (· < ·) := by
  have h1 : (ss.mergeSort fun x y => decide (x ≤ y)).Pairwise (fun x y => decide (x ≤ y) = true) :=
    List.pairwise_mergeSort (fun a b c h1 h2 => by simp at *; omega) (fun a b => by simp; omega) ss
  have h2 : (ss.mergeSort fun x y => decide (x ≤ y)).Nodup := (List.mergeSort_perm ss _).nodup_iff.2 h
  have h3 := h1.and h2
  exact h3.imp fun {a b} hab => by
    have := of_decide_eq_true hab.1
    have := hab.2
    omega

/-- is of each member no more in a than in b? -/
def withinB (a b : List Row) : Bool := rightB a && rightB b && a.all fun r => decide (r.2 ≤ cntF b r.1)
theorem within_iff {a b : List Row} (ha : RightP a) (hb : RightP b) : withinB a b = true ↔ ∀ m, cntF a m ≤ cntF b m := by
  unfold withinB
  rw [rightB_iff.2 ha, rightB_iff.2 hb, Bool.true_and, Bool.true_and, List.all_eq_true]
  constructor
  · intro h m
    by_cases h0 : cntF a m = 0
    · have := cntF_range hb m; omega
    · obtain ⟨r, hr, rfl⟩ := cntF_some h0
      rw [cntF_mem ha.1 hr]
      exact of_decide_eq_true (h r hr)
  · intro h r hr
    have := h r.1
    rw [cntF_mem ha.1 hr] at this
    exact decide_eq_true this
/-- as many of each in both? -/
def sameB (a b : List Row) : Bool := rightB a && rightB b && decide (a = b)

/-- how many of all -/
def totF : List Row → Int
  | [] => 0
  | r :: b => r.2 + totF b
theorem totF_snoc : ∀ (b : List Row) (r : Row), totF (b ++ [r]) = totF b + r.2
  | [], r => by simp [totF]
  | s :: b, r => by simp only [List.cons_append, totF, totF_snoc b r]; omega
def sumOver (S : List Int) (c : Int → Int) : Int := (S.map c).foldr (· + ·) 0
theorem sumOver_cons (s : Int) (S : List Int) (c : Int → Int) : sumOver (s :: S) c = c s + sumOver S c := rfl
theorem sumOver_congr {S : List Int} {c d : Int → Int} (h : ∀ m ∈ S, c m = d m) : sumOver S c = sumOver S d := by
  induction S with
  | nil => rfl
  | cons s S ih => rw [sumOver_cons, sumOver_cons, h s (by simp), ih fun m hm => h m (by simp [hm])]
theorem sumOver_add (S : List Int) (c d : Int → Int) : sumOver S (fun m => c m + d m) = sumOver S c + sumOver S d := by
  induction S with
  | nil => rfl
  | cons s S ih => rw [sumOver_cons, sumOver_cons, sumOver_cons, ih]; omega
theorem sumOver_zero {S : List Int} {c : Int → Int} (h : ∀ m ∈ S, c m = 0) : sumOver S c = 0 := by
  induction S with
  | nil => rfl
  | cons s S ih => rw [sumOver_cons, h s (by simp), ih fun m hm => h m (by simp [hm])]; rfl
theorem totF_over : ∀ {S : List Int} {b : List Row}, S.Pairwise (· < ·) → b.Pairwise (fun x y => x.1 < y.1) → (∀ r ∈ b, r.1 ∈ S) → totF b = sumOver S (cntF b)
  | S, [], _, _, _ => (sumOver_zero (c := cntF []) fun m _ => rfl).symm
  | [], r :: b, _, _, h => absurd (h r (by simp)) (by simp)
  | s :: S, r :: b, hS, hb, h => by
    rw [List.pairwise_cons] at hS
    by_cases hr : r.1 = s
    · have hb' := List.pairwise_cons.1 hb
      have h2 : ∀ x ∈ b, x.1 ∈ S := fun x hx => by
        rcases List.mem_cons.1 (h x (by simp [hx])) with e | e
        · have := hb'.1 x hx; omega
        · exact e
      rw [sumOver_cons]
      have e1 : cntF (r :: b) s = r.2 := by simp [cntF, hr]
      have e2 : sumOver S (cntF (r :: b)) = sumOver S (cntF b) := sumOver_congr fun m hm => by
        have := hS.1 m hm
        simp only [cntF]
        rw [if_neg (by omega)]
      rw [e1, e2, ← totF_over hS.2 hb'.2 h2]
      rfl
    · have h2 : ∀ x ∈ r :: b, x.1 ∈ S := fun x hx => by
        rcases List.mem_cons.1 (h x hx) with e | e
        · exfalso
          have hrS : r.1 ∈ S := by
            rcases List.mem_cons.1 (h r (by simp)) with e' | e'
            · exact absurd e' hr
            · exact e'
          have := hS.1 r.1 hrS
          rcases List.mem_cons.1 hx with rfl | hx
          · exact hr e
          · have := (List.pairwise_cons.1 hb).1 x hx; omega
        · exact e
      rw [sumOver_cons, ← totF_over hS.2 hb h2]
      have : cntF (r :: b) s = 0 := cntF_not fun x hx e => by
        have := hS.1 x.1 (h2 x hx)
        omega
      rw [this]; omega
theorem members_rise {b : List Row} (h : RightP b) : (b.map (·.1)).Pairwise (· < ·) := by rw [List.pairwise_map]; exact h.1
theorem totF_sum {a b s : List Row} (ha : RightP a) (hb : RightP b) (hs : Has (fun m => cntF a m + cntF b m) s) : totF s = totF a + totF b := by
  have hS := members_rise hs.1
  have hin : ∀ (x : List Row), RightP x → (∀ m, cntF x m ≤ cntF s m) → ∀ r ∈ x, r.1 ∈ s.map (·.1) := fun x hx hle r hr => by
    have h1 := hle r.1
    rw [cntF_mem hx.1 hr] at h1
    have h2 := hx.2 r hr
    obtain ⟨q, hq, e⟩ := cntF_some (b := s) (m := r.1) (by omega)
    exact List.mem_map.2 ⟨q, hq, e⟩
  rw [totF_over hS hs.1.1 (fun r hr => List.mem_map.2 ⟨r, hr, rfl⟩), totF_over hS ha.1 (hin a ha fun m => by have e := hs.2 m; simp only at e; have := cntF_range hb m; omega),
    totF_over hS hb.1 (hin b hb fun m => by have e := hs.2 m; simp only at e; have := cntF_range ha m; omega), ← sumOver_add]
  exact sumOver_congr fun m _ => hs.2 m
theorem totF_nonneg {b : List Row} (h : RightP b) : 0 ≤ totF b ∧ totF b ≤ 1048576 * b.length := by
  induction b with
  | nil => simp [totF]
  | cons r b ih =>
    obtain ⟨h1, h2, _⟩ := right_cons h
    have := ih h1
    simp only [totF, List.length_cons]
    omega
theorem totF_take_le {b : List Row} (h : RightP b) (k : Nat) : 0 ≤ totF (b.take k) ∧ totF (b.take k) ≤ totF b := by
  induction b generalizing k with
  | nil => simp [totF]
  | cons r b ih =>
    obtain ⟨h1, h2, _⟩ := right_cons h
    have h3 := totF_nonneg h
    cases k with
    | zero => simp only [List.take_zero, totF] at h3 ⊢; omega
    | succ k => have := ih h1 k; simp only [List.take_succ_cons, totF]; omega
theorem take_snoc {b : List Row} {k : Nat} (h : k < b.length) : b.take (k + 1) = b.take k ++ [b.getD k zr] := by
  rw [List.take_succ_eq_append_getElem h, getD_get zr h]
theorem right_take {b : List Row} (h : RightP b) (k : Nat) : RightP (b.take k) :=
  ⟨h.1.sublist (List.take_sublist _ _), fun r hr => h.2 r (List.mem_of_mem_take hr)⟩
theorem take_new {b : List Row} (h : RightP b) {k : Nat} (hk : k < b.length) : ∀ s ∈ b.take k, s.1 < (b.getD k zr).1 := by
  have := (right_take h (k + 1)).1
  rw [take_snoc hk, List.pairwise_append] at this
  exact fun s hs => this.2.2 s hs _ (by simp)
theorem cnt_take {b : List Row} (h : RightP b) {k : Nat} (hk : k < b.length) (m : Int) : cntF (b.take (k + 1)) m = if m = (b.getD k zr).1 then (b.getD k zr).2 else cntF (b.take k) m := by
  rw [take_snoc hk]
  exact cntF_snoc m fun s hs e => by have := take_new h hk s hs; omega
theorem cnt_take_new {b : List Row} (h : RightP b) {k : Nat} (hk : k < b.length) : cntF (b.take k) (b.getD k zr).1 = 0 :=
  cntF_not fun s hs e => by have := take_new h hk s hs; omega
theorem cnt_at {b : List Row} (h : RightP b) {k : Nat} (hk : k < b.length) : cntF b (b.getD k zr).1 = (b.getD k zr).2 := cntF_mem h.1 (getD_mem hk)

/-- which has more of the least member of which not as many are in both: is it the first? -/
def Gt (c d : Int → Int) : Prop := ∃ m, (∀ x, x < m → c x = d x) ∧ d m < c m
theorem Gt.irrefl {c : Int → Int} (h : Gt c c) : False := by obtain ⟨m, _, h⟩ := h; omega
theorem Gt.trans {c d e : Int → Int} (h : Gt c d) (k : Gt d e) : Gt c e := by
  obtain ⟨m, h1, h2⟩ := h
  obtain ⟨n, k1, k2⟩ := k
  rcases Int.lt_trichotomy m n with hmn | hmn | hmn
  · exact ⟨m, fun x hx => (h1 x hx).trans (k1 x (by omega)), by have := k1 m hmn; omega⟩
  · subst hmn; exact ⟨m, fun x hx => (h1 x hx).trans (k1 x hx), by omega⟩
  · exact ⟨n, fun x hx => (h1 x (by omega)).trans (k1 x hx), by have := h1 n hmn; omega⟩
theorem Gt.asymm {c d : Int → Int} (h : Gt c d) (k : Gt d c) : False := (h.trans k).irrefl
theorem Gt.congr {c d c' d' : Int → Int} (h : Gt c d) (e1 : ∀ m, c m = c' m) (e2 : ∀ m, d m = d' m) : Gt c' d' := by
  obtain ⟨m, h1, h2⟩ := h
  exact ⟨m, fun x hx => by rw [← e1, ← e2]; exact h1 x hx, by rw [← e1, ← e2]; exact h2⟩
theorem Gt.shift {c d e : Int → Int} : Gt (fun m => c m + e m) (fun m => d m + e m) ↔ Gt c d := by
  constructor
  · rintro ⟨m, h1, h2⟩
    exact ⟨m, fun x hx => by have := h1 x hx; simp only at this; omega, by simp only at h2; omega⟩
  · rintro ⟨m, h1, h2⟩
    exact ⟨m, fun x hx => by have := h1 x hx; simp only; omega, by simp only; omega⟩
/-- Compare, of right bags -/
def cmpF : List Row → List Row → Int
  | [], [] => 0
  | [], _ :: _ => -1
  | _ :: _, [] => 1
  | r :: a, s :: b => if s.1 < r.1 then -1 else if r.1 < s.1 then 1 else if r.2 < s.2 then -1 else if s.2 < r.2 then 1 else cmpF a b
def Cmp (c d : Int → Int) (n : Int) : Prop := (n = 1 ∧ Gt c d) ∨ (n = -1 ∧ Gt d c) ∨ (n = 0 ∧ ∀ m, c m = d m)
theorem Cmp.uniq {c d : Int → Int} {n k : Int} (h : Cmp c d n) (h' : Cmp c d k) : n = k := by
  have eqg : ∀ {c d : Int → Int}, (∀ m, c m = d m) → Gt c d → False := fun e g => (g.congr e (fun _ => rfl)).irrefl
  rcases h with ⟨h, g⟩ | ⟨h, g⟩ | ⟨h, g⟩ <;> rcases h' with ⟨h', g'⟩ | ⟨h', g'⟩ | ⟨h', g'⟩
  · omega
  · exact (g.asymm g').elim
  · exact (eqg g' g).elim
  · exact (g.asymm g').elim
  · omega
  · exact (eqg (fun m => (g' m).symm) g).elim
  · exact (eqg g g').elim
  · exact (eqg (fun m => (g m).symm) g').elim
  · omega
theorem Cmp.turn {c d : Int → Int} {n : Int} (h : Cmp c d n) : Cmp d c (-n) := by
  rcases h with ⟨h, g⟩ | ⟨h, g⟩ | ⟨h, g⟩
  · exact .inr (.inl ⟨by omega, g⟩)
  · exact .inl ⟨by omega, g⟩
  · exact .inr (.inr ⟨by omega, fun m => (g m).symm⟩)
theorem Cmp.shift {c d e : Int → Int} {n : Int} (h : Cmp c d n) : Cmp (fun m => c m + e m) (fun m => d m + e m) n := by
  rcases h with ⟨h, g⟩ | ⟨h, g⟩ | ⟨h, g⟩
  · exact .inl ⟨h, Gt.shift.2 g⟩
  · exact .inr (.inl ⟨h, Gt.shift.2 g⟩)
  · exact .inr (.inr ⟨h, fun m => by simp only [g m]⟩)
theorem Cmp.congr {c d c' d' : Int → Int} {n : Int} (h : Cmp c d n) (e1 : ∀ m, c m = c' m) (e2 : ∀ m, d m = d' m) : Cmp c' d' n := by
  rcases h with ⟨h, g⟩ | ⟨h, g⟩ | ⟨h, g⟩
  · exact .inl ⟨h, g.congr e1 e2⟩
  · exact .inr (.inl ⟨h, g.congr e2 e1⟩)
  · exact .inr (.inr ⟨h, fun m => by rw [← e1, ← e2]; exact g m⟩)
theorem cmpF_cmp : ∀ {a b : List Row}, RightP a → RightP b → Cmp (cntF a) (cntF b) (cmpF a b)
  | [], [], _, _ => .inr (.inr ⟨rfl, fun _ => rfl⟩)
  | [], s :: b, _, hb => .inr (.inl ⟨rfl, s.1, fun x hx => cntF_not fun q hq => by
      rcases List.mem_cons.1 hq with rfl | hq
      · omega
      · have := (right_cons hb).2.2 q hq; omega, by have := (right_cons hb).2.1; simp [cntF]; omega⟩)
  | r :: a, [], ha, _ => .inl ⟨rfl, r.1, fun x hx => cntF_not fun q hq => by
      rcases List.mem_cons.1 hq with rfl | hq
      · omega
      · have := (right_cons ha).2.2 q hq; omega, by have := (right_cons ha).2.1; simp [cntF]; omega⟩
  | r :: a, s :: b, ha, hb => by
    obtain ⟨ha1, ha2, ha3⟩ := right_cons ha
    obtain ⟨hb1, hb2, hb3⟩ := right_cons hb
    have za : ∀ x, x < r.1 → cntF (r :: a) x = 0 := fun x hx => cntF_not fun q hq => by
      rcases List.mem_cons.1 hq with rfl | hq
      · omega
      · have := ha3 q hq; omega
    have zb : ∀ x, x < s.1 → cntF (s :: b) x = 0 := fun x hx => cntF_not fun q hq => by
      rcases List.mem_cons.1 hq with rfl | hq
      · omega
      · have := hb3 q hq; omega
    have atr : cntF (r :: a) r.1 = r.2 := by simp [cntF]
    have ats : cntF (s :: b) s.1 = s.2 := by simp [cntF]
    unfold cmpF
    by_cases h1 : s.1 < r.1
    · rw [if_pos h1]
      exact .inr (.inl ⟨rfl, s.1, fun x hx => by rw [za x (by omega), zb x hx], by rw [za _ h1, ats]; omega⟩)
    rw [if_neg h1]
    by_cases h2 : r.1 < s.1
    · rw [if_pos h2]
      exact .inl ⟨rfl, r.1, fun x hx => by rw [za x hx, zb x (by omega)], by rw [zb _ h2, atr]; omega⟩
    rw [if_neg h2]
    have e : r.1 = s.1 := by omega
    by_cases h3 : r.2 < s.2
    · rw [if_pos h3]
      exact .inr (.inl ⟨rfl, s.1, fun x hx => by rw [za x (by omega), zb x hx], by rw [ats, ← e, atr]; exact h3⟩)
    rw [if_neg h3]
    by_cases h4 : s.2 < r.2
    · rw [if_pos h4]
      exact .inl ⟨rfl, r.1, fun x hx => by rw [za x hx, zb x (by omega)], by rw [atr, e, ats]; exact h4⟩
    rw [if_neg h4]
    have e2 : r.2 = s.2 := by omega
    have ea : cntF a r.1 = 0 := cntF_not fun q hq => by have := ha3 q hq; omega
    have eb : cntF b r.1 = 0 := cntF_not fun q hq => by have := hb3 q hq; omega
    rcases cmpF_cmp ha1 hb1 with ⟨h, m, g1, g2⟩ | ⟨h, m, g1, g2⟩ | ⟨h, g⟩
    · refine .inl ⟨h, m, fun x hx => ?_, ?_⟩
      · simp only [cntF]; rw [← e, ← e2, g1 x hx]
      · have : ¬ r.1 = m := fun em => by rw [← em] at g2; omega
        simp only [cntF]; rw [← e, if_neg this, if_neg this]; exact g2
    · refine .inr (.inl ⟨h, m, fun x hx => ?_, ?_⟩)
      · simp only [cntF]; rw [← e, ← e2, g1 x hx]
      · have : ¬ r.1 = m := fun em => by rw [← em] at g2; omega
        simp only [cntF]; rw [← e, if_neg this, if_neg this]; exact g2
    · refine .inr (.inr ⟨h, fun m => ?_⟩)
      simp only [cntF]; rw [← e, ← e2, g m]

/-- the members, each as often as there are -/
def listF : List Row → List Int
  | [] => []
  | r :: b => List.replicate r.2.toNat r.1 ++ listF b
theorem listF_snoc : ∀ (b : List Row) (r : Row), listF (b ++ [r]) = listF b ++ List.replicate r.2.toNat r.1
  | [], r => by simp [listF]
  | s :: b, r => by simp only [List.cons_append, listF, listF_snoc b r, List.append_assoc]
theorem listF_length {b : List Row} (h : RightP b) : ((listF b).length : Int) = totF b := by
  induction b with
  | nil => rfl
  | cons r b ih =>
    obtain ⟨h1, h2, _⟩ := right_cons h
    have := ih h1
    simp only [listF, totF, List.length_append, List.length_replicate]
    omega
theorem listF_count {b : List Row} (h : RightP b) (m : Int) : ((listF b).count m : Int) = cntF b m := by
  induction b with
  | nil => rfl
  | cons r b ih =>
    obtain ⟨h1, h2, h3⟩ := right_cons h
    have := ih h1
    simp only [listF, cntF, List.count_append, List.count_replicate]
    by_cases hm : r.1 = m
    · have h0 : cntF b m = 0 := cntF_not fun s hs => by have := h3 s hs; omega
      rw [if_pos hm, if_pos (by simpa using hm)]
      omega
    · rw [if_neg hm, if_neg (by simpa using hm)]
      omega
theorem listF_mem {b : List Row} (h : RightP b) {m : Int} (hm : m ∈ listF b) : 0 ≤ m := by
  have h1 := listF_count h m
  have h2 := List.count_pos_iff.2 hm
  obtain ⟨r, hr, rfl⟩ := cntF_some (b := b) (m := m) (by omega)
  exact (h.2 r hr).1

/-- the counts of a list -/
def ofC (l : List Int) (m : Int) : Int := if 0 ≤ m then min (l.count m : Int) 1048576 else 0
theorem ofC_nil (m : Int) : ofC [] m = 0 := by unfold ofC; split <;> simp <;> omega
theorem ofC_snoc (l : List Int) (x m : Int) : ofC (l ++ [x]) m = if m = x ∧ 0 ≤ x ∧ ofC l x < 1048576 then ofC l x + 1 else ofC l m := by
  have hc : ((l ++ [x]).count m : Int) = l.count m + if m = x then 1 else 0 := by
    rw [List.count_append]
    by_cases h : m = x
    · subst h; simp
    · rw [if_neg h]
      have : ([x] : List Int).count m = 0 := List.count_eq_zero.2 (by simp [h])
      omega
  unfold ofC
  rw [hc]
  by_cases h : m = x
  · subst h
    by_cases h0 : 0 ≤ m
    · simp only [h0, if_true, true_and]
      by_cases h1 : min (l.count m : Int) 1048576 < 1048576
      · rw [if_pos h1]; omega
      · rw [if_neg h1]; omega
    · simp [h0]
  · rw [if_neg h]
    simp only [h, false_and, if_false]
    omega
theorem ofC_range (l : List Int) (m : Int) : (ofC l m ≠ 0 → 0 ≤ m ∧ 1 ≤ ofC l m) ∧ ofC l m ≤ 1048576 ∧ 0 ≤ ofC l m := by
  unfold ofC
  split <;> omega
theorem of_list {b : List Row} (h : RightP b) (hc : ∀ m, cntF b m ≤ 1048576) : Has (ofC (listF b)) b := ⟨h, fun m => by
  unfold ofC
  rw [listF_count h]
  split
  · have := hc m; omega
  · exact cntF_low h (by omega)⟩
theorem ofC_perm {l k : List Int} (h : l.Perm k) (m : Int) : ofC l m = ofC k m := by unfold ofC; rw [h.count_eq]
theorem sum_count : ∀ (l : List Int) (S : List Int), S.Pairwise (· < ·) → (∀ x ∈ l, x ∈ S) → sumOver S (fun m => (l.count m : Int)) = l.length
  | [], S, _, _ => by rw [sumOver_zero fun m _ => by simp]; rfl
  | x :: l, S, hS, h => by
    have ih := sum_count l S hS fun y hy => h y (by simp [hy])
    have one : ∀ (S : List Int), S.Pairwise (· < ·) → x ∈ S → sumOver S (fun m => if m = x then 1 else 0) = 1 := by
      intro S
      induction S with
      | nil => intro _ hx; cases hx
      | cons s S ihS =>
        intro hp hx
        rw [List.pairwise_cons] at hp
        rw [sumOver_cons]
        by_cases hs : s = x
        · rw [if_pos hs, sumOver_zero fun m hm => by have := hp.1 m hm; rw [if_neg (by omega)]]; rfl
        · rw [if_neg hs, ihS hp.2 (by rcases List.mem_cons.1 hx with e | e; exact absurd e.symm hs; exact e)]; rfl
    have e : sumOver S (fun m => ((x :: l).count m : Int)) = sumOver S (fun m => (l.count m : Int) + if m = x then 1 else 0) := sumOver_congr fun m _ => by
      rw [List.count_cons]
      by_cases hm : m = x
      · subst hm; simp
      · have : ¬ x = m := fun e => hm e.symm
        simp [hm, this]
    rw [e, sumOver_add, ih, one S hS (h x (by simp))]
    simp
theorem of_total {l : List Int} {b : List Row} (h : Has (ofC l) b) (hl : l.length ≤ 1048576) : totF b = ((l.filter fun x => decide (0 ≤ x)).length : Int) := by
  have hc : ∀ m, 0 ≤ m → ofC l m = ((l.filter fun x => decide (0 ≤ x)).count m : Int) := fun m hm => by
    unfold ofC
    have := List.count_le_length (a := m) (l := l)
    rw [if_pos hm, List.count_filter (by simpa using hm)]
    omega
  rw [totF_over (members_rise h.1) h.1.1 (fun r hr => List.mem_map.2 ⟨r, hr, rfl⟩), ← sum_count _ _ (members_rise h.1) (fun x hx => ?_)]
  · refine sumOver_congr fun m hm => ?_
    obtain ⟨r, hr, rfl⟩ := List.mem_map.1 hm
    rw [h.2, hc _ (h.1.2 r hr).1]
  · have h0 : 0 ≤ x := by simpa using (List.mem_filter.1 hx).2
    have h1 : 0 < (l.filter fun x => decide (0 ≤ x)).count x := List.count_pos_iff.2 hx
    obtain ⟨r, hr, rfl⟩ := cntF_some (b := b) (m := x) (by rw [h.2, hc x h0]; omega)
    exact List.mem_map.2 ⟨r, hr, rfl⟩

/-- a member set to a count, at its place -/
def insF (m n : Int) : List Row := if 0 < n then [(m, n)] else []
def tailF (m n : Int) : Bool → List Row → List Row
  | true, b => b.filter fun r => decide (r.1 ≠ m)
  | false, [] => insF m n
  | false, r :: b => if m ≤ r.1 then insF m n ++ (r :: b).filter fun r => decide (r.1 ≠ m) else r :: tailF m n false b
def withF (b : List Row) (m n : Int) : List Row := tailF m n false b
def setC (c : Int → Int) (m n : Int) (x : Int) : Int := if x = m then n else c x
theorem cnt_filter : ∀ (b : List Row) (m x : Int), cntF (b.filter fun r => decide (r.1 ≠ m)) x = if x = m then 0 else cntF b x
  | [], m, x => by simp [cntF]
  | r :: b, m, x => by
    have ih := cnt_filter b m x
    by_cases hr : r.1 = m
    · rw [List.filter_cons_of_neg (by simp [hr]), ih]
      by_cases hx : x = m
      · simp [hx]
      · have : ¬ r.1 = x := by omega
        simp [hx, cntF, this]
    · rw [List.filter_cons_of_pos (by simp [hr])]
      simp only [cntF]
      rw [ih]
      by_cases hx : x = m
      · have : ¬ r.1 = x := by omega
        simp [hx, hr]
      · simp [hx]
theorem withF_has : ∀ {b : List Row} {m n : Int}, RightP b → 0 ≤ m → 0 ≤ n → n ≤ 1048576 → Has (setC (cntF b) m n) (withF b m n)
  | [], m, n, _, hm, h0, h1 => by
    unfold withF tailF insF
    by_cases hn : 0 < n
    · rw [if_pos hn]
      exact ⟨right_cons_mk right_nil ⟨hm, hn, h1⟩ (fun s hs => by cases hs), fun x => by
        simp only [cntF, setC]
        by_cases hx : x = m
        · simp [hx]
        · have : ¬ m = x := fun e => hx e.symm
          simp [hx, this]⟩
    · rw [if_neg hn]
      exact ⟨right_nil, fun x => by simp only [cntF, setC]; split <;> omega⟩
  | r :: b, m, n, h, hm, h0, h1 => by
    obtain ⟨hb, hr, hlt⟩ := right_cons h
    unfold withF tailF
    by_cases hle : m ≤ r.1
    · rw [if_pos hle]
      have hf : RightP ((r :: b).filter fun r => decide (r.1 ≠ m)) := ⟨h.1.sublist List.filter_sublist, fun s hs => h.2 s ((List.mem_filter.1 hs).1)⟩
      have hgt : ∀ s ∈ (r :: b).filter fun r => decide (r.1 ≠ m), m < s.1 := fun s hs => by
        obtain ⟨h2, h3⟩ := List.mem_filter.1 hs
        have h3 : s.1 ≠ m := by simpa using h3
        rcases List.mem_cons.1 h2 with rfl | h2
        · omega
        · have := hlt s h2; omega
      unfold insF
      by_cases hn : 0 < n
      · rw [if_pos hn]
        refine ⟨right_cons_mk hf ⟨hm, hn, h1⟩ hgt, fun x => ?_⟩
        show (if m = x then n else cntF ((r :: b).filter fun r => decide (r.1 ≠ m)) x) = _
        rw [cnt_filter]
        unfold setC
        by_cases hx : x = m
        · simp [hx]
        · have : ¬ m = x := fun e => hx e.symm
          simp [hx, this]
      · rw [if_neg hn, List.nil_append]
        refine ⟨hf, fun x => ?_⟩
        rw [cnt_filter]
        unfold setC
        by_cases hx : x = m
        · rw [if_pos hx, if_pos hx]; omega
        · rw [if_neg hx, if_neg hx]
    · rw [if_neg hle]
      have ih : Has (setC (cntF b) m n) (tailF m n false b) := withF_has hb hm h0 h1
      refine ⟨right_cons_mk ih.1 hr (fun s hs => ?_), fun x => ?_⟩
      · have h2 := cntF_mem ih.1.1 hs
        rw [ih.2] at h2
        have h3 := ih.1.2 s hs
        unfold setC at h2
        by_cases hx : s.1 = m
        · omega
        · rw [if_neg hx] at h2
          obtain ⟨q, hq, e⟩ := cntF_some (b := b) (m := s.1) (by omega)
          have := hlt q hq
          omega
      · show (if r.1 = x then r.2 else cntF (tailF m n false b) x) = _
        rw [ih.2]
        unfold setC
        simp only [cntF]
        by_cases hx : x = m
        · have : ¬ r.1 = x := by omega
          simp [hx]
          omega
        · simp [hx]
theorem tail_step (m n : Int) (d : Bool) (b : List Row) (k : Nat) (hk : k < b.length) :
    tailF m n d (b.drop k) = (if d = false ∧ m ≤ (b.getD k zr).1 then insF m n else []) ++ (if (b.getD k zr).1 ≠ m then [b.getD k zr] else []) ++ tailF m n (d || decide (m ≤ (b.getD k zr).1)) (b.drop (k + 1)) := by
  rw [List.drop_eq_getElem_cons hk, ← getD_get zr hk]
  generalize b.getD k zr = r
  cases d with
  | true =>
    simp only [tailF, Bool.true_or]
    by_cases hr : r.1 = m
    · rw [List.filter_cons_of_neg (by simp [hr])]; simp [hr]
    · rw [List.filter_cons_of_pos (by simp [hr])]; simp [hr]
  | false =>
    simp only [tailF, Bool.false_or]
    by_cases hle : m ≤ r.1
    · rw [if_pos hle, decide_eq_true hle]
      by_cases hr : r.1 = m
      · rw [List.filter_cons_of_neg (by simp [hr])]; simp [hr, tailF]
      · rw [List.filter_cons_of_pos (by simp [hr])]; simp [hr, hle, tailF]
    · rw [if_neg hle, decide_eq_false hle]
      have : ¬ r.1 = m := by omega
      simp [hle, this]
end Go.Proofs.YtjcanodnlnodpaaGreatDoor.Bag
/- The plain mathematics of layer 6: how expressions are read of tokens; that an expression's text is read as it was; that brackets change nothing. No program stands in it. -/
namespace Go.Proofs.YtjcanodnlnodpaaGreatDoor.Parse
open Go.Proofs.YtjcanodnlnodpaaGreatDoor.Token Go.Proofs.YtjcanodnlnodpaaGreatDoor.Expr Go.Proofs.YtjcanodnlnodpaaGreatDoor.Calc
set_option linter.unusedVariables false
set_option linter.unusedSimpArgs false
def isBinX (x : Ex) : Bool := decide (x.kind = 5)
def nilX : Ex := ⟨0, 0, []⟩
/-- a token without its place -/
abbrev KT := Int × List UInt8
/-- what went wrong, ahead of which tokens; or what was read, and what is left -/
abbrev PR (α : Type) := Except (List KT × Int) (α × List KT)
/-- the text of a sign, or of a word, that stands there -/
def peekL : List KT → List UInt8
  | [] => []
  | t :: _ => if t.1 = 3 ∨ t.1 = 1 ∧ wordB t.2 = true then t.2 else []
def wantL (s : List UInt8) (r : List KT) : Except (List KT × Int) (List KT) := if peekL r = s ∧ s ≠ [] then .ok r.tail else .error (r, 4)
def opsL : List (List UInt8) := [[43], [45], [42], [47], [37], [61, 61], [33, 61], [60], [60, 61], [38, 38], [124, 124]]
/-- the operation that is written so; 0: none -/
def opL (t : List UInt8) : Int := if t ∈ opsL then (opsL.idxOf t : Int) + 1 else 0
/-- the first that is called so -/
def nameAt (names : List (List UInt8)) (t : List UInt8) : Option Nat := if t ∈ names then some (names.idxOf t) else none
/-- a number, or a name -/
def leafL (names : List (List UInt8)) : List KT → PR Ex
  | [] => .error ([], 4)
  | t :: r =>
    if t.1 = 2 then (if numB t.2 then .ok (⟨1, (valL 0 t.2 : Int), []⟩, r) else .error (t :: r, 4))
    else if t.1 = 1 ∧ wordB t.2 = false then (match nameAt names t.2 with | some i => .ok (⟨2, (i : Int), []⟩, r) | none => .error (t :: r, 3))
    else .error (t :: r, 4)
/-- expressions: mode 0 a part without signs, 1 one with signs that bind so strongly at least, 2 what follows one -/
def pe (names : List (List UInt8)) : Nat → Nat → Int → Nat → Ex → List KT → PR Ex
  | 0, _, _, _, _, r => .error (r, 0)
  | f + 1, 0, s, d, e, r =>
    if 40 < d then .error (r, 2)
    else if peekL r = [45] then (pe names f 0 s (d + 1) e r.tail).bind fun x => .ok (⟨3, 0, [x.1]⟩, x.2)
    else if peekL r = [33] then (pe names f 0 s (d + 1) e r.tail).bind fun x => .ok (⟨4, 0, [x.1]⟩, x.2)
    else if peekL r = [40] then (pe names f 1 0 (d + 1) e r.tail).bind fun x => (wantL [41] x.2).bind fun r2 => .ok (x.1, r2)
    else if peekL r = [105, 102] then
      (wantL [40] r.tail).bind fun r0 => (pe names f 1 0 (d + 1) e r0).bind fun a => (wantL [44] a.2).bind fun r2 => (pe names f 1 0 (d + 1) e r2).bind fun b =>
        (wantL [44] b.2).bind fun r4 => (pe names f 1 0 (d + 1) e r4).bind fun c => (wantL [41] c.2).bind fun r6 => .ok (⟨6, 0, [a.1, b.1, c.1]⟩, r6)
    else leafL names r
  | f + 1, 1, s, d, e, r => (pe names f 0 s d e r).bind fun x => pe names f 2 s d x.1 x.2
  | f + 1, _ + 2, s, d, e, r =>
    if opL (peekL r) ≠ 0 ∧ s < strengthF (opL (peekL r)) then (pe names f 1 (strengthF (opL (peekL r))) (d + 1) e r.tail).bind fun b => pe names f 2 s d ⟨5, opL (peekL r), [e, b.1]⟩ b.2
    else .ok (e, r)
def bnd (m : Nat) (r : List KT) : Nat := 2 * r.length + (if m = 1 then 2 else 1)
/-- a run that did not end for want of fuel, and left no more than was there -/
def Fine (m : Nat) (r : List KT) (x : PR Ex) : Prop := match x with
  | .ok v => v.2.length + (if m = 0 ∨ m = 1 then 1 else 0) ≤ r.length
  | .error e => e.2 ≠ 0
theorem want_ok {s : List UInt8} {r r2 : List KT} (h : wantL s r = .ok r2) : r2.length + 1 ≤ r.length ∧ r2 = r.tail := by
  unfold wantL at h
  split at h
  · rename_i h1
    cases h
    cases r with
    | nil => exact absurd h1.1.symm h1.2
    | cons t r => simp
  · cases h
theorem want_err {s : List UInt8} {r : List KT} {e : List KT × Int} (h : wantL s r = .error e) : e.2 ≠ 0 := by
  unfold wantL at h
  split at h
  · cases h
  · cases h; show (4 : Int) ≠ 0; decide
theorem tail_len {r : List KT} {s : List UInt8} (h : peekL r = s) (hs : s ≠ []) : r.tail.length + 1 = r.length := by
  cases r with
  | nil => exact absurd h.symm hs
  | cons t r => simp
theorem leaf_fine (names : List (List UInt8)) (r : List KT) : Fine 0 r (leafL names r) := by
  cases r with
  | nil => show (4 : Int) ≠ 0; decide
  | cons t r =>
    rw [leafL.eq_2]
    split
    · split
      · show r.length + 1 ≤ (t :: r).length; simp
      · show (4 : Int) ≠ 0; decide
    · split
      · split
        · show r.length + 1 ≤ (t :: r).length; simp
        · show (3 : Int) ≠ 0; decide
      · show (4 : Int) ≠ 0; decide
/-- one thing behind another -/
theorem bind_fine {m : Nat} {r : List KT} {x : PR Ex} {g : Ex × List KT → PR Ex} {m0 : Nat} {r0 : List KT} (hx : Fine m0 r0 x) (hg : ∀ v, x = .ok v → Fine m r (g v)) : Fine m r (x.bind g) := by
  cases x with
  | error e => exact hx
  | ok v => exact hg v rfl
theorem bindw_fine {m : Nat} {r : List KT} {s : List UInt8} {r0 : List KT} {g : List KT → PR Ex} (hg : ∀ r2, wantL s r0 = .ok r2 → Fine m r (g r2)) : Fine m r ((wantL s r0).bind g) := by
  cases h : wantL s r0 with
  | error e => exact want_err h
  | ok v => exact hg v h
theorem pe_fine (names : List (List UInt8)) : ∀ (f m : Nat) (s : Int) (d : Nat) (e : Ex) (r : List KT), bnd m r ≤ f → Fine m r (pe names f m s d e r) := by
  intro f
  induction f with
  | zero => intro m s d e r h; unfold bnd at h; split at h <;> omega
  | succ f ih =>
    intro m s d e r h
    have ih0 : ∀ s d e r2, 2 * r2.length + 1 ≤ f → Fine 0 r2 (pe names f 0 s d e r2) := fun s d e r2 h => ih 0 s d e r2 (by unfold bnd; simpa using h)
    have ih1 : ∀ s d e r2, 2 * r2.length + 2 ≤ f → Fine 1 r2 (pe names f 1 s d e r2) := fun s d e r2 h => ih 1 s d e r2 (by unfold bnd; simpa using h)
    have ih2 : ∀ s d e r2, 2 * r2.length + 1 ≤ f → Fine 2 r2 (pe names f 2 s d e r2) := fun s d e r2 h => ih 2 s d e r2 (by unfold bnd; simpa using h)
    match m, h with
    | 0, h =>
      have hb : 2 * r.length + 1 ≤ f + 1 := by simpa [bnd] using h
      unfold pe
      split
      · show (2 : Int) ≠ 0; decide
      · split
        · rename_i hp
          have ht := tail_len hp (by decide)
          refine bind_fine (ih0 s (d + 1) e r.tail (by omega)) fun v hv => ?_
          have := ih0 s (d + 1) e r.tail (by omega)
          rw [hv] at this
          have this : v.2.length + 1 ≤ r.tail.length := this
          show v.2.length + 1 ≤ r.length
          omega
        · split
          · rename_i hp
            have ht := tail_len hp (by decide)
            refine bind_fine (ih0 s (d + 1) e r.tail (by omega)) fun v hv => ?_
            have := ih0 s (d + 1) e r.tail (by omega)
            rw [hv] at this
            have this : v.2.length + 1 ≤ r.tail.length := this
            show v.2.length + 1 ≤ r.length
            omega
          · split
            · rename_i hp
              have ht := tail_len hp (by decide)
              refine bind_fine (ih1 0 (d + 1) e r.tail (by omega)) fun v hv => ?_
              have := ih1 0 (d + 1) e r.tail (by omega)
              rw [hv] at this
              have this : v.2.length + 1 ≤ r.tail.length := this
              refine bindw_fine fun r2 hw => ?_
              have hl := (want_ok hw).1
              show r2.length + 1 ≤ r.length
              omega
            · split
              · rename_i hp
                have ht := tail_len hp (by decide)
                refine bindw_fine fun r0 hw0 => ?_
                have hl0 := (want_ok hw0).1
                refine bind_fine (ih1 0 (d + 1) e r0 (by omega)) fun a ha => ?_
                have h1 := ih1 0 (d + 1) e r0 (by omega)
                rw [ha] at h1
                have h1 : a.2.length + 1 ≤ r0.length := h1
                refine bindw_fine fun r2 hw2 => ?_
                have hl2 := (want_ok hw2).1
                refine bind_fine (ih1 0 (d + 1) e r2 (by omega)) fun b hb2 => ?_
                have h2 := ih1 0 (d + 1) e r2 (by omega)
                rw [hb2] at h2
                have h2 : b.2.length + 1 ≤ r2.length := h2
                refine bindw_fine fun r4 hw4 => ?_
                have hl4 := (want_ok hw4).1
                refine bind_fine (ih1 0 (d + 1) e r4 (by omega)) fun c hc => ?_
                have h3 := ih1 0 (d + 1) e r4 (by omega)
                rw [hc] at h3
                have h3 : c.2.length + 1 ≤ r4.length := h3
                refine bindw_fine fun r6 hw6 => ?_
                have hl6 := (want_ok hw6).1
                show r6.length + 1 ≤ r.length
                omega
              · exact leaf_fine names r
    | 1, h =>
      have hb : 2 * r.length + 2 ≤ f + 1 := by simpa [bnd] using h
      unfold pe
      refine bind_fine (ih0 s d e r (by omega)) fun v hv => ?_
      have h1 := ih0 s d e r (by omega)
      rw [hv] at h1
      have h1 : v.2.length + 1 ≤ r.length := h1
      have h2 := ih2 s d v.1 v.2 (by omega)
      cases hq : pe names f 2 s d v.1 v.2 with
      | error x => rw [hq] at h2; exact h2
      | ok x => rw [hq] at h2; have h2 : x.2.length + 0 ≤ v.2.length := h2; show x.2.length + 1 ≤ r.length; omega
    | m + 2, h =>
      have hb : 2 * r.length + 1 ≤ f + 1 := by simpa [bnd] using h
      have hF : ∀ x : PR Ex, Fine 2 r x → Fine (m + 2) r x := fun x hx => by
        cases x with
        | error e => exact hx
        | ok v => have hx : v.2.length + 0 ≤ r.length := hx
                  show v.2.length + (if m + 2 = 0 ∨ m + 2 = 1 then 1 else 0) ≤ r.length
                  rw [if_neg (by omega)]; omega
      apply hF
      unfold pe
      split
      · rename_i hp
        have hne : peekL r ≠ [] := fun e0 => by rw [e0] at hp; exact hp.1 (by decide)
        have ht := tail_len (rfl : peekL r = peekL r) hne
        refine bind_fine (ih1 _ (d + 1) e r.tail (by omega)) fun v hv => ?_
        have h1 := ih1 (strengthF (opL (peekL r))) (d + 1) e r.tail (by omega)
        rw [hv] at h1
        have h1 : v.2.length + 1 ≤ r.tail.length := h1
        have h2 := ih2 s d ⟨5, opL (peekL r), [e, v.1]⟩ v.2 (by omega)
        cases hq : pe names f 2 s d ⟨5, opL (peekL r), [e, v.1]⟩ v.2 with
        | error x => rw [hq] at h2; exact h2
        | ok x => rw [hq] at h2; have h2 : x.2.length + 0 ≤ v.2.length := h2; show x.2.length + 0 ≤ r.length; omega
      · show r.length + 0 ≤ r.length; omega

/- the same with more fuel -/
theorem bind_eq {α β : Type} {x y : Except (List KT × Int) α} {g g' : α → Except (List KT × Int) β} (hx : x = y) (hg : ∀ v, y = .ok v → g v = g' v) : x.bind g = y.bind g' := by
  subst hx
  cases x with
  | error e => rfl
  | ok v => exact hg v rfl
theorem fine_ok {m : Nat} {r : List KT} {x : PR Ex} {v : Ex × List KT} (h : Fine m r x) (hv : x = .ok v) : v.2.length + (if m = 0 ∨ m = 1 then 1 else 0) ≤ r.length := by subst hv; exact h
theorem pe_more (names : List (List UInt8)) : ∀ (f m : Nat) (s : Int) (d : Nat) (e : Ex) (r : List KT), bnd m r ≤ f → pe names (f + 1) m s d e r = pe names f m s d e r := by
  intro f
  induction f with
  | zero => intro m s d e r h; unfold bnd at h; split at h <;> omega
  | succ f ih =>
    intro m s d e r h
    have ih0 : ∀ s d e r2, 2 * r2.length + 1 ≤ f → pe names (f + 1) 0 s d e r2 = pe names f 0 s d e r2 := fun s d e r2 h => ih 0 s d e r2 (by unfold bnd; simpa using h)
    have ih1 : ∀ s d e r2, 2 * r2.length + 2 ≤ f → pe names (f + 1) 1 s d e r2 = pe names f 1 s d e r2 := fun s d e r2 h => ih 1 s d e r2 (by unfold bnd; simpa using h)
    have ih2 : ∀ s d e r2, 2 * r2.length + 1 ≤ f → pe names (f + 1) 2 s d e r2 = pe names f 2 s d e r2 := fun s d e r2 h => ih 2 s d e r2 (by unfold bnd; simpa using h)
    have fn0 : ∀ s d e r2, 2 * r2.length + 1 ≤ f → ∀ v, pe names f 0 s d e r2 = .ok v → v.2.length + 1 ≤ r2.length := fun s d e r2 h v hv => fine_ok (pe_fine names f 0 s d e r2 (by unfold bnd; simpa using h)) hv
    have fn1 : ∀ s d e r2, 2 * r2.length + 2 ≤ f → ∀ v, pe names f 1 s d e r2 = .ok v → v.2.length + 1 ≤ r2.length := fun s d e r2 h v hv => fine_ok (pe_fine names f 1 s d e r2 (by unfold bnd; simpa using h)) hv
    match m, h with
    | 0, h =>
      have hb : 2 * r.length + 1 ≤ f + 1 := by simpa [bnd] using h
      conv => lhs; rw [pe.eq_2]
      conv => rhs; rw [pe.eq_2]
      by_cases h0 : 40 < d
      · rw [if_pos h0, if_pos h0]
      rw [if_neg h0, if_neg h0]
      by_cases h1 : peekL r = [45]
      · rw [if_pos h1, if_pos h1]
        have ht := tail_len h1 (by decide)
        exact bind_eq (ih0 s (d + 1) e r.tail (by omega)) fun v hv => rfl
      rw [if_neg h1, if_neg h1]
      by_cases h2 : peekL r = [33]
      · rw [if_pos h2, if_pos h2]
        have ht := tail_len h2 (by decide)
        exact bind_eq (ih0 s (d + 1) e r.tail (by omega)) fun v hv => rfl
      rw [if_neg h2, if_neg h2]
      by_cases h3 : peekL r = [40]
      · rw [if_pos h3, if_pos h3]
        have ht := tail_len h3 (by decide)
        exact bind_eq (ih1 0 (d + 1) e r.tail (by omega)) fun v hv => rfl
      rw [if_neg h3, if_neg h3]
      by_cases h4 : peekL r = [105, 102]
      · rw [if_pos h4, if_pos h4]
        have ht := tail_len h4 (by decide)
        refine bind_eq rfl fun r0 hw0 => ?_
        have hl0 := (want_ok hw0).1
        refine bind_eq (ih1 0 (d + 1) e r0 (by omega)) fun a ha => ?_
        have h1 := fn1 _ _ _ _ (by omega) a ha
        refine bind_eq rfl fun r2 hw2 => ?_
        have hl2 := (want_ok hw2).1
        refine bind_eq (ih1 0 (d + 1) e r2 (by omega)) fun b hb2 => ?_
        have h2 := fn1 _ _ _ _ (by omega) b hb2
        refine bind_eq rfl fun r4 hw4 => ?_
        have hl4 := (want_ok hw4).1
        exact bind_eq (ih1 0 (d + 1) e r4 (by omega)) fun c hc => rfl
      · rw [if_neg h4, if_neg h4]
    | 1, h =>
      have hb : 2 * r.length + 2 ≤ f + 1 := by simpa [bnd] using h
      conv => lhs; rw [pe.eq_3]
      conv => rhs; rw [pe.eq_3]
      refine bind_eq (ih0 s d e r (by omega)) fun v hv => ?_
      have h1 := fn0 s d e r (by omega) v hv
      exact ih2 s d v.1 v.2 (by omega)
    | m + 2, h =>
      have hb : 2 * r.length + 1 ≤ f + 1 := by simpa [bnd] using h
      conv => lhs; rw [pe.eq_4]
      conv => rhs; rw [pe.eq_4]
      by_cases hp : opL (peekL r) ≠ 0 ∧ s < strengthF (opL (peekL r))
      · rw [if_pos hp, if_pos hp]
        have hne : peekL r ≠ [] := fun e0 => by rw [e0] at hp; exact hp.1 (by decide)
        have ht := tail_len (rfl : peekL r = peekL r) hne
        refine bind_eq (ih1 _ (d + 1) e r.tail (by omega)) fun v hv => ?_
        have h1 := fn1 _ (d + 1) e r.tail (by omega) v hv
        exact ih2 s d _ v.2 (by omega)
      · rw [if_neg hp, if_neg hp]
/-- expressions, with fuel enough -/
def peR (names : List (List UInt8)) (m : Nat) (s : Int) (d : Nat) (e : Ex) (r : List KT) : PR Ex := pe names (bnd m r) m s d e r
theorem pe_R (names : List (List UInt8)) (f m : Nat) (s : Int) (d : Nat) (e : Ex) (r : List KT) (h : bnd m r ≤ f) : pe names f m s d e r = peR names m s d e r := by
  obtain ⟨k, rfl⟩ : ∃ k, f = bnd m r + k := ⟨f - bnd m r, by omega⟩
  unfold peR
  induction k with
  | zero => rfl
  | succ k ih => rw [← Nat.add_assoc, pe_more names _ m s d e r (by omega), ih (by omega)]
theorem peR_fine (names : List (List UInt8)) (m : Nat) (s : Int) (d : Nat) (e : Ex) (r : List KT) : Fine m r (peR names m s d e r) := pe_fine names _ m s d e r (Nat.le_refl _)
/- its ways, one by one -/
theorem peR_0 (names : List (List UInt8)) (s : Int) (d : Nat) (e : Ex) (r : List KT) : peR names 0 s d e r = pe names (2 * r.length + 1) 0 s d e r := by unfold peR bnd; simp
theorem peR_1 (names : List (List UInt8)) (s : Int) (d : Nat) (e : Ex) (r : List KT) : peR names 1 s d e r = (peR names 0 s d e r).bind fun x => peR names 2 s d x.1 x.2 := by
  rw [show peR names 1 s d e r = pe names (2 * r.length + 1 + 1) 1 s d e r from by unfold peR bnd; simp, pe.eq_3]
  refine bind_eq (pe_R names _ 0 s d e r (by unfold bnd; simp)) fun v hv => ?_
  have h1 := fine_ok (peR_fine names 0 s d e r) hv
  simp at h1
  exact pe_R names _ 2 s d _ _ (by unfold bnd; simp; omega)
theorem peR_2no (names : List (List UInt8)) (s : Int) (d : Nat) (e : Ex) (r : List KT) (h : ¬ (opL (peekL r) ≠ 0 ∧ s < strengthF (opL (peekL r)))) : peR names 2 s d e r = .ok (e, r) := by
  rw [show peR names 2 s d e r = pe names (2 * r.length + 1) 2 s d e r from by unfold peR bnd; simp, pe.eq_4, if_neg h]
theorem peR_2yes (names : List (List UInt8)) (s : Int) (d : Nat) (e : Ex) (r : List KT) (h : opL (peekL r) ≠ 0 ∧ s < strengthF (opL (peekL r))) :
    peR names 2 s d e r = (peR names 1 (strengthF (opL (peekL r))) (d + 1) e r.tail).bind fun b => peR names 2 s d ⟨5, opL (peekL r), [e, b.1]⟩ b.2 := by
  have hne : peekL r ≠ [] := fun e0 => by rw [e0] at h; exact h.1 (by decide)
  have ht := tail_len (rfl : peekL r = peekL r) hne
  rw [show peR names 2 s d e r = pe names (2 * r.length + 1) 2 s d e r from by unfold peR bnd; simp, pe.eq_4, if_pos h]
  refine bind_eq (pe_R names _ 1 _ _ e r.tail (by unfold bnd; simp; omega)) fun v hv => ?_
  have h1 := fine_ok (peR_fine names 1 _ (d + 1) e r.tail) hv
  simp at h1
  exact pe_R names _ 2 s d _ _ (by unfold bnd; simp; omega)
theorem peR_deep (names : List (List UInt8)) (s : Int) (d : Nat) (e : Ex) (r : List KT) (h : 40 < d) : peR names 0 s d e r = .error (r, 2) := by
  rw [peR_0, pe.eq_2, if_pos h]
theorem peR_neg (names : List (List UInt8)) (s : Int) (d : Nat) (e : Ex) (r : List KT) (h : ¬ 40 < d) (hp : peekL r = [45]) : peR names 0 s d e r = (peR names 0 s (d + 1) e r.tail).bind fun x => .ok (⟨3, 0, [x.1]⟩, x.2) := by
  have ht := tail_len hp (by decide)
  rw [peR_0, pe.eq_2, if_neg h, if_pos hp]
  exact bind_eq (pe_R names _ 0 _ _ e r.tail (by unfold bnd; simp; omega)) fun v hv => rfl
theorem peR_not (names : List (List UInt8)) (s : Int) (d : Nat) (e : Ex) (r : List KT) (h : ¬ 40 < d) (hp : peekL r = [33]) : peR names 0 s d e r = (peR names 0 s (d + 1) e r.tail).bind fun x => .ok (⟨4, 0, [x.1]⟩, x.2) := by
  have ht := tail_len hp (by decide)
  rw [peR_0, pe.eq_2, if_neg h, if_neg (by rw [hp]; decide), if_pos hp]
  exact bind_eq (pe_R names _ 0 _ _ e r.tail (by unfold bnd; simp; omega)) fun v hv => rfl
theorem peR_par (names : List (List UInt8)) (s : Int) (d : Nat) (e : Ex) (r : List KT) (h : ¬ 40 < d) (hp : peekL r = [40]) : peR names 0 s d e r = (peR names 1 0 (d + 1) e r.tail).bind fun x => (wantL [41] x.2).bind fun r2 => .ok (x.1, r2) := by
  have ht := tail_len hp (by decide)
  rw [peR_0, pe.eq_2, if_neg h, if_neg (by rw [hp]; decide), if_neg (by rw [hp]; decide), if_pos hp]
  exact bind_eq (pe_R names _ 1 _ _ e r.tail (by unfold bnd; simp; omega)) fun v hv => rfl
theorem peR_if (names : List (List UInt8)) (s : Int) (d : Nat) (e : Ex) (r : List KT) (h : ¬ 40 < d) (hp : peekL r = [105, 102]) : peR names 0 s d e r =
    (wantL [40] r.tail).bind fun r0 => (peR names 1 0 (d + 1) e r0).bind fun a => (wantL [44] a.2).bind fun r2 => (peR names 1 0 (d + 1) e r2).bind fun b =>
        (wantL [44] b.2).bind fun r4 => (peR names 1 0 (d + 1) e r4).bind fun c => (wantL [41] c.2).bind fun r6 => .ok (⟨6, 0, [a.1, b.1, c.1]⟩, r6) := by
  have ht := tail_len hp (by decide)
  rw [peR_0, pe.eq_2, if_neg h, if_neg (by rw [hp]; decide), if_neg (by rw [hp]; decide), if_neg (by rw [hp]; decide), if_pos hp]
  refine bind_eq rfl fun r0 hw0 => ?_
  have hl0 := (want_ok hw0).1
  refine bind_eq (pe_R names _ 1 _ _ e r0 (by unfold bnd; simp; omega)) fun a ha => ?_
  have h1 := fine_ok (peR_fine names 1 _ (d + 1) e r0) ha
  simp at h1
  refine bind_eq rfl fun r2 hw2 => ?_
  have hl2 := (want_ok hw2).1
  refine bind_eq (pe_R names _ 1 _ _ e r2 (by unfold bnd; simp; omega)) fun b hb => ?_
  have h2 := fine_ok (peR_fine names 1 _ (d + 1) e r2) hb
  simp at h2
  refine bind_eq rfl fun r4 hw4 => ?_
  have hl4 := (want_ok hw4).1
  exact bind_eq (pe_R names _ 1 _ _ e r4 (by unfold bnd; simp; omega)) fun c hc => rfl
theorem peR_leaf (names : List (List UInt8)) (s : Int) (d : Nat) (e : Ex) (r : List KT) (h : ¬ 40 < d) (h1 : peekL r ≠ [45]) (h2 : peekL r ≠ [33]) (h3 : peekL r ≠ [40]) (h4 : peekL r ≠ [105, 102]) : peR names 0 s d e r = leafL names r := by
  rw [peR_0, pe.eq_2, if_neg h, if_neg h1, if_neg h2, if_neg h3, if_neg h4]
/- an expression's tokens, and what they are read as -/
def sgn (n : Int) : List UInt8 := opsL.getD (n - 1).toNat [63]
def brT (b : Bool) (l : List KT) : List KT := if b then (3, [40]) :: (l ++ [(3, [41])]) else l
def tokN (names : List (List UInt8)) (dec : Int → List UInt8) (k n : Int) (ks : List Ex) (l : List (List KT)) : List KT :=
  if k = 1 then [(2, dec n)]
  else if k = 2 then [(1, names.getD n.toNat [])]
  else if k = 3 then (3, [45]) :: brT (isBinX (ks.getD 0 nilX)) (l.getD 0 [])
  else if k = 4 then (3, [33]) :: brT (isBinX (ks.getD 0 nilX)) (l.getD 0 [])
  else if k = 5 then brT (isBinX (ks.getD 0 nilX) && decide (strengthF (ks.getD 0 nilX).num < strengthF n)) (l.getD 0 []) ++ (3, sgn n) :: brT (isBinX (ks.getD 1 nilX) && decide (strengthF (ks.getD 1 nilX).num ≤ strengthF n)) (l.getD 1 [])
  else [(1, [105, 102]), (3, [40])] ++ l.getD 0 [] ++ (3, [44]) :: (l.getD 1 [] ++ (3, [44]) :: (l.getD 2 [] ++ [(3, [41])]))
def tokT (names : List (List UInt8)) (dec : Int → List UInt8) : Ex → List KT := fold (tokN names dec)
theorem tok_eq (names : List (List UInt8)) (dec : Int → List UInt8) (k n : Int) (ks : List Ex) : tokT names dec ⟨k, n, ks⟩ = tokN names dec k n ks (ks.map (tokT names dec)) := fold_eq ..
/-- without the numbers that do not count -/
def cleanF : Ex → Ex := fold fun k n _ l => ⟨k, if k = 1 ∨ k = 2 ∨ k = 5 then n else 0, l⟩
theorem clean_eq (k n : Int) (ks : List Ex) : cleanF ⟨k, n, ks⟩ = ⟨k, if k = 1 ∨ k = 2 ∨ k = 5 then n else 0, ks.map cleanF⟩ := fold_eq ..
/-- right, with so many names, and no number below 0 -/
def okN (v : Nat) (k n : Int) (len : Nat) : Prop :=
  (k = 1 ∧ len = 0 ∧ 0 ≤ n ∧ n < 9223372036854775808) ∨ (k = 2 ∧ len = 0 ∧ 0 ≤ n ∧ n < v) ∨ ((k = 3 ∨ k = 4) ∧ len = 1) ∨ (k = 5 ∧ len = 2 ∧ 1 ≤ n ∧ n ≤ 11) ∨ (k = 6 ∧ len = 3)
def okE (v : Nat) : Ex → Prop := fold fun k n ks l => okN v k n ks.length ∧ ∀ p ∈ l, p
theorem ok_eq (v : Nat) (k n : Int) (ks : List Ex) : okE v ⟨k, n, ks⟩ = (okN v k n ks.length ∧ ∀ p ∈ ks.map (okE v), p) := fold_eq ..
/-- no sign that binds more stands there -/
def NoOp (s : Int) (r : List KT) : Prop := ¬ (opL (peekL r) ≠ 0 ∧ s < strengthF (opL (peekL r)))
theorem NoOp.mono {s s' : Int} {r : List KT} (h : NoOp s r) (hs : s ≤ s') : NoOp s' r := fun g => h ⟨g.1, by have := g.2; omega⟩
theorem op_sgn {n : Int} (h1 : 1 ≤ n) (h2 : n ≤ 11) : opL (sgn n) = n ∧ 1 ≤ strengthF n := by
  have : n = 1 ∨ n = 2 ∨ n = 3 ∨ n = 4 ∨ n = 5 ∨ n = 6 ∨ n = 7 ∨ n = 8 ∨ n = 9 ∨ n = 10 ∨ n = 11 := by omega
  rcases this with rfl | rfl | rfl | rfl | rfl | rfl | rfl | rfl | rfl | rfl | rfl <;> decide
theorem noOp_of {s : Int} {t : List UInt8} {r : List KT} (h : opL t = 0) : NoOp s ((3, t) :: r) := fun g => g.1 (by show opL (peekL ((3, t) :: r)) = 0; rw [show peekL ((3, t) :: r) = t from rfl]; exact h)
/-- what is read of an expression's tokens, with more behind -/
def Reads (names : List (List UInt8)) (dec : Int → List UInt8) (t : Ex) : Prop :=
  (∀ (s : Int) (d : Nat) (x : Ex) (r : List KT), d + 2 * depthF t ≤ 42 → (t.kind = 5 → s < strengthF t.num) → (t.kind = 5 → NoOp (strengthF t.num) r) → peR names 1 s d x (tokT names dec t ++ r) = peR names 2 s d (cleanF t) r)
    ∧ (t.kind ≠ 5 → ∀ (s : Int) (d : Nat) (x : Ex) (r : List KT), d + 2 * depthF t ≤ 42 → peR names 0 s d x (tokT names dec t ++ r) = .ok (cleanF t, r))
/-- in brackets -/
theorem reads_par {names : List (List UInt8)} {dec : Int → List UInt8} {t : Ex} (h : Reads names dec t) (hb : t.kind = 5 → 1 ≤ strengthF t.num) (s : Int) (d : Nat) (x : Ex) (r : List KT) (hd : d + 1 + 2 * depthF t ≤ 42) (hd1 : d ≤ 40) :
    peR names 0 s d x ((3, [40]) :: (tokT names dec t ++ (3, [41]) :: r)) = .ok (cleanF t, r) := by
  rw [peR_par names s d x _ (by omega) rfl]
  show (peR names 1 0 (d + 1) x (tokT names dec t ++ (3, [41]) :: r)).bind _ = _
  rw [h.1 0 (d + 1) x _ (by omega) (fun e => by have := hb e; omega) (fun _ => noOp_of (by decide)), peR_2no names _ _ _ _ (noOp_of (by decide))]
  show ((wantL [41] ((3, [41]) :: r)).bind fun r2 => Except.ok (cleanF t, r2)) = _
  rfl
/-- whole, up to a sign that ends it -/
theorem reads_to {names : List (List UInt8)} {dec : Int → List UInt8} {t : Ex} (h : Reads names dec t) (hb : t.kind = 5 → 1 ≤ strengthF t.num) (d : Nat) (x : Ex) (c : UInt8) (r : List KT) (hd : d + 2 * depthF t ≤ 42) (hc : opL [c] = 0) :
    peR names 1 0 d x (tokT names dec t ++ (3, [c]) :: r) = .ok (cleanF t, (3, [c]) :: r) := by
  rw [h.1 0 d x _ hd (fun e => by have := hb e; omega) (fun _ => noOp_of hc), peR_2no names _ _ _ _ (noOp_of hc)]
theorem mx_get {l : List Ex} {i : Nat} (h : i < l.length) : depthF (l.getD i nilX) ≤ mx (l.map depthF) := by
  induction l generalizing i with
  | nil => cases h
  | cons y l ih =>
    cases i with
    | zero => show depthF y ≤ max (depthF y) (mx (l.map depthF)); omega
    | succ i => have := ih (i := i) (by simpa using h); show depthF (l.getD i nilX) ≤ max (depthF y) (mx (l.map depthF)); omega
theorem brT_app (b : Bool) (l r : List KT) : brT b l ++ r = if b then (3, [40]) :: (l ++ (3, [41]) :: r) else l ++ r := by
  cases b <;> simp [brT]
theorem depth_pos (t : Ex) : 1 ≤ depthF t := by obtain ⟨k, n, ks⟩ := t; rw [depth_eq]; omega
theorem okE_bin {v : Nat} {t : Ex} (h : okE v t) (hk : t.kind = 5) : 1 ≤ t.num ∧ t.num ≤ 11 := by
  obtain ⟨k, n, ks⟩ := t
  rw [ok_eq] at h
  have hk : k = 5 := hk
  rcases h.1 with h | h | h | h | h <;> simp_all <;> omega
theorem len_two {l : List Ex} (h : l.length = 2) : ∃ a b, l = [a, b] := by
  match l, h with
  | [a, b], _ => exact ⟨a, b, rfl⟩
theorem len_three {l : List Ex} (h : l.length = 3) : ∃ a b c, l = [a, b, c] := by
  match l, h with
  | [a, b, c], _ => exact ⟨a, b, c, rfl⟩
theorem reads_all {names : List (List UInt8)} {dec : Int → List UInt8} (hN : ∀ i, i < names.length → nameAt names (names.getD i []) = some i ∧ wordB (names.getD i []) = false)
    (hD : ∀ n : Int, 0 ≤ n → n < 9223372036854775808 → numB (dec n) = true ∧ (valL 0 (dec n) : Int) = n) : ∀ t, okE names.length t → Reads names dec t := by
  refine Ex.ind fun k n ks ih hok => ?_
  rw [ok_eq] at hok
  obtain ⟨hk, hkids⟩ := hok
  have ih : ∀ x, x ∈ ks → okE names.length x ∧ Reads names dec x := fun x hx => have hx' := hkids _ (List.mem_map.2 ⟨x, hx, rfl⟩); ⟨hx', ih x hx hx'⟩
  have hbin : ∀ x, okE names.length x → x.kind = 5 → 1 ≤ strengthF x.num := fun x hx e => (op_sgn (okE_bin hx e).1 (okE_bin hx e).2).2
  -- what is told of a part without signs tells the rest
  have fin : k ≠ 5 → (∀ (s : Int) (d : Nat) (x : Ex) (r : List KT), d + 2 * depthF ⟨k, n, ks⟩ ≤ 42 → peR names 0 s d x (tokT names dec ⟨k, n, ks⟩ ++ r) = .ok (cleanF ⟨k, n, ks⟩, r)) → Reads names dec ⟨k, n, ks⟩ := fun hne h => by
    refine ⟨fun s d x r hd _ _ => ?_, fun _ => h⟩
    rw [peR_1, h s d x r hd]
    rfl
  rcases hk with ⟨rfl, hl, h0, h1⟩ | ⟨rfl, hl, h0, h1⟩ | ⟨hk, hl⟩ | ⟨rfl, hl, h0, h1⟩ | ⟨rfl, hl⟩
  · obtain rfl : ks = [] := List.eq_nil_of_length_eq_zero hl
    refine fin (by decide) fun s d x r hd => ?_
    rw [depth_eq] at hd
    obtain ⟨hb, hv⟩ := hD n h0 h1
    have e1 : tokT names dec ⟨1, n, []⟩ ++ r = (2, dec n) :: r := by rw [tok_eq]; rfl
    have e2 : cleanF ⟨1, n, []⟩ = ⟨1, n, []⟩ := by rw [clean_eq]; rfl
    have hp : peekL ((2, dec n) :: r) = [] := by rw [peekL.eq_2]; exact if_neg (fun h => h.elim (fun h => absurd h (by decide : ¬ (2 : Int) = 3)) (fun h => absurd h.1 (by decide : ¬ (2 : Int) = 1)))
    rw [e1, e2, peR_leaf names s d x _ (by omega) (by rw [hp]; decide) (by rw [hp]; decide) (by rw [hp]; decide) (by rw [hp]; decide), leafL.eq_2, if_pos rfl, if_pos hb, hv]
  · obtain rfl : ks = [] := List.eq_nil_of_length_eq_zero hl
    refine fin (by decide) fun s d x r hd => ?_
    rw [depth_eq] at hd
    obtain ⟨hb, hv⟩ := hN n.toNat (by omega)
    have e1 : tokT names dec ⟨2, n, []⟩ ++ r = (1, names.getD n.toNat []) :: r := by rw [tok_eq]; rfl
    have e2 : cleanF ⟨2, n, []⟩ = ⟨2, n, []⟩ := by rw [clean_eq]; rfl
    have hp : peekL ((1, names.getD n.toNat []) :: r) = [] := by rw [peekL.eq_2]; exact if_neg (fun h => h.elim (fun h => absurd h (by decide : ¬ (1 : Int) = 3)) (fun h => absurd (hv.symm.trans h.2) (by decide)))
    rw [e1, e2, peR_leaf names s d x _ (by omega) (by rw [hp]; decide) (by rw [hp]; decide) (by rw [hp]; decide) (by rw [hp]; decide), leafL.eq_2, if_neg (show ¬ (1 : Int) = 2 by decide), if_pos ⟨rfl, hv⟩]
    show (match nameAt names (names.getD n.toNat []) with | some i => Except.ok (Ex.mk 2 (i : Int) [], r) | none => Except.error _) = _
    rw [hb]
    show Except.ok (Ex.mk 2 ((n.toNat : Nat) : Int) [], r) = _
    rw [Int.toNat_of_nonneg h0]
  · obtain ⟨a, rfl⟩ : ∃ a, ks = [a] := List.length_eq_one_iff.1 hl
    obtain ⟨oka, ra⟩ := ih a (by simp)
    have hda := mx_get (l := [a]) (i := 0) (by simp)
    have ha1 := depth_pos a
    have kid : ∀ (s : Int) (d : Nat) (x : Ex) (r : List KT), d + 1 + 2 * depthF a ≤ 42 → peR names 0 s d x (brT (isBinX a) (tokT names dec a) ++ r) = .ok (cleanF a, r) := fun s d x r hd => by
      rw [brT_app]
      by_cases hb : a.kind = 5
      · rw [show isBinX a = true from decide_eq_true hb, if_pos rfl]
        exact reads_par ra (fun e => hbin a oka e) s d x r hd (by omega)
      · rw [show isBinX a = false from decide_eq_false hb, if_neg (by decide)]
        exact ra.2 hb s d x r (by omega)
    rcases hk with rfl | rfl
    · refine fin (by decide) fun s d x r hd => ?_
      rw [depth_eq] at hd
      have hda : depthF a ≤ mx ([a].map depthF) := hda
      have e1 : tokT names dec ⟨3, n, [a]⟩ ++ r = (3, [45]) :: (brT (isBinX a) (tokT names dec a) ++ r) := by rw [tok_eq]; rfl
      have e2 : cleanF ⟨3, n, [a]⟩ = ⟨3, 0, [cleanF a]⟩ := by rw [clean_eq]; rfl
      rw [e1, e2, peR_neg names s d x _ (by omega) rfl]
      show (peR names 0 s (d + 1) x (brT (isBinX a) (tokT names dec a) ++ r)).bind _ = _
      rw [kid s (d + 1) x r (by omega)]
      rfl
    · refine fin (by decide) fun s d x r hd => ?_
      rw [depth_eq] at hd
      have hda : depthF a ≤ mx ([a].map depthF) := hda
      have e1 : tokT names dec ⟨4, n, [a]⟩ ++ r = (3, [33]) :: (brT (isBinX a) (tokT names dec a) ++ r) := by rw [tok_eq]; rfl
      have e2 : cleanF ⟨4, n, [a]⟩ = ⟨4, 0, [cleanF a]⟩ := by rw [clean_eq]; rfl
      rw [e1, e2, peR_not names s d x _ (by omega) rfl]
      show (peR names 0 s (d + 1) x (brT (isBinX a) (tokT names dec a) ++ r)).bind _ = _
      rw [kid s (d + 1) x r (by omega)]
      rfl
  · obtain ⟨a, b, rfl⟩ : ∃ a b, ks = [a, b] := len_two hl
    obtain ⟨oka, ra⟩ := ih a (by simp)
    obtain ⟨okb, rb⟩ := ih b (by simp)
    have hda : depthF a ≤ mx ([a, b].map depthF) := mx_get (l := [a, b]) (i := 0) (by simp)
    have hdb : depthF b ≤ mx ([a, b].map depthF) := mx_get (l := [a, b]) (i := 1) (by simp)
    have ha1 := depth_pos a
    have hb1 := depth_pos b
    obtain ⟨hop, hst⟩ := op_sgn h0 h1
    refine ⟨fun s d x r hd hs hr => ?_, fun h => absurd rfl h⟩
    rw [depth_eq] at hd
    have hs : s < strengthF n := hs rfl
    have hr : NoOp (strengthF n) r := hr rfl
    have e1 : tokT names dec ⟨5, n, [a, b]⟩ ++ r = brT (isBinX a && decide (strengthF a.num < strengthF n)) (tokT names dec a) ++ ((3, sgn n) :: (brT (isBinX b && decide (strengthF b.num ≤ strengthF n)) (tokT names dec b) ++ r)) := by
      rw [tok_eq]; show (_ ++ _ :: _) ++ r = _; rw [List.append_assoc]; rfl
    have e2 : cleanF ⟨5, n, [a, b]⟩ = ⟨5, n, [cleanF a, cleanF b]⟩ := by rw [clean_eq]; rfl
    rw [e1, e2]
    generalize hR : (3, sgn n) :: (brT (isBinX b && decide (strengthF b.num ≤ strengthF n)) (tokT names dec b) ++ r) = R
    have hpk : peekL R = sgn n := by rw [← hR]; rfl
    -- the first
    have first : peR names 1 s d x (brT (isBinX a && decide (strengthF a.num < strengthF n)) (tokT names dec a) ++ R) = peR names 2 s d (cleanF a) R := by
      rw [brT_app]
      by_cases hb : a.kind = 5
      · by_cases hw : strengthF a.num < strengthF n
        · rw [show (isBinX a && decide (strengthF a.num < strengthF n)) = true by rw [show isBinX a = true from decide_eq_true hb, decide_eq_true hw]; rfl, if_pos rfl, peR_1, reads_par ra (fun e => hbin a oka e) s d x R (by omega) (by omega)]
          rfl
        · rw [show (isBinX a && decide (strengthF a.num < strengthF n)) = false by rw [decide_eq_false hw, Bool.and_false], if_neg (by decide)]
          exact ra.1 s d x R (by omega) (fun _ => by omega) (fun _ g => by rw [hpk, hop] at g; omega)
      · rw [show (isBinX a && decide (strengthF a.num < strengthF n)) = false by rw [show isBinX a = false from decide_eq_false hb]; rfl, if_neg (by decide)]
        exact ra.1 s d x R (by omega) (fun e => absurd e hb) (fun e => absurd e hb)
    -- the other
    have other : ∀ y, peR names 1 (strengthF n) (d + 1) y (brT (isBinX b && decide (strengthF b.num ≤ strengthF n)) (tokT names dec b) ++ r) = .ok (cleanF b, r) := fun y => by
      rw [brT_app]
      by_cases hb : b.kind = 5
      · by_cases hw : strengthF b.num ≤ strengthF n
        · rw [show (isBinX b && decide (strengthF b.num ≤ strengthF n)) = true by rw [show isBinX b = true from decide_eq_true hb, decide_eq_true hw]; rfl, if_pos rfl, peR_1, reads_par rb (fun e => hbin b okb e) _ (d + 1) y r (by omega) (by omega)]
          exact peR_2no names _ _ _ _ hr
        · rw [show (isBinX b && decide (strengthF b.num ≤ strengthF n)) = false by rw [decide_eq_false hw, Bool.and_false], if_neg (by decide), rb.1 (strengthF n) (d + 1) y r (by omega) (fun _ => by omega) (fun _ => hr.mono (by omega))]
          exact peR_2no names _ _ _ _ hr
      · rw [show (isBinX b && decide (strengthF b.num ≤ strengthF n)) = false by rw [show isBinX b = false from decide_eq_false hb]; rfl, if_neg (by decide), rb.1 (strengthF n) (d + 1) y r (by omega) (fun e => absurd e hb) (fun e => absurd e hb)]
        exact peR_2no names _ _ _ _ hr
    rw [first, peR_2yes names s d _ R (by rw [hpk, hop]; exact ⟨by omega, hs⟩), hpk, hop, ← hR]
    show (peR names 1 (strengthF n) (d + 1) (cleanF a) (brT (isBinX b && decide (strengthF b.num ≤ strengthF n)) (tokT names dec b) ++ r)).bind _ = _
    rw [other]
    rfl
  · obtain ⟨a, b, c, rfl⟩ : ∃ a b c, ks = [a, b, c] := len_three hl
    obtain ⟨oka, ra⟩ := ih a (by simp)
    obtain ⟨okb, rb⟩ := ih b (by simp)
    obtain ⟨okc, rc⟩ := ih c (by simp)
    have hda : depthF a ≤ mx ([a, b, c].map depthF) := mx_get (l := [a, b, c]) (i := 0) (by simp)
    have hdb : depthF b ≤ mx ([a, b, c].map depthF) := mx_get (l := [a, b, c]) (i := 1) (by simp)
    have hdc : depthF c ≤ mx ([a, b, c].map depthF) := mx_get (l := [a, b, c]) (i := 2) (by simp)
    refine fin (by decide) fun s d x r hd => ?_
    rw [depth_eq] at hd
    have e1 : tokT names dec ⟨6, n, [a, b, c]⟩ ++ r = (1, [105, 102]) :: (3, [40]) :: (tokT names dec a ++ (3, [44]) :: (tokT names dec b ++ (3, [44]) :: (tokT names dec c ++ (3, [41]) :: r))) := by
      rw [tok_eq]
      show ([(1, [105, 102]), (3, [40])] ++ tokT names dec a ++ (3, [44]) :: (tokT names dec b ++ (3, [44]) :: (tokT names dec c ++ [(3, [41])]))) ++ r = _
      simp
    have e2 : cleanF ⟨6, n, [a, b, c]⟩ = ⟨6, 0, [cleanF a, cleanF b, cleanF c]⟩ := by rw [clean_eq]; rfl
    have hpk : ∀ r : List KT, peekL ((1, [105, 102]) :: r) = [105, 102] := fun r => by rw [peekL.eq_2]; exact if_pos (.inr ⟨rfl, (by decide : wordB [105, 102] = true)⟩)
    rw [e1, e2, peR_if names s d x _ (by omega) (hpk _)]
    show (peR names 1 0 (d + 1) x (tokT names dec a ++ (3, [44]) :: (tokT names dec b ++ (3, [44]) :: (tokT names dec c ++ (3, [41]) :: r)))).bind _ = _
    rw [reads_to ra (fun e => hbin a oka e) (d + 1) x 44 _ (by omega) (by decide)]
    show (peR names 1 0 (d + 1) x (tokT names dec b ++ (3, [44]) :: (tokT names dec c ++ (3, [41]) :: r))).bind _ = _
    rw [reads_to rb (fun e => hbin b okb e) (d + 1) x 44 _ (by omega) (by decide)]
    show (peR names 1 0 (d + 1) x (tokT names dec c ++ (3, [41]) :: r)).bind _ = _
    rw [reads_to rc (fun e => hbin c okc e) (d + 1) x 41 _ (by omega) (by decide)]
    rfl
/- an expression's text is cut into its tokens -/
def kt (t : Tok) : KT := (t.kind, t.text)
def CutsTo (r : List UInt8) (ks : List KT) : Prop := ∀ n, (lexR n r).2.2 = 0 ∧ (lexR n r).1.map kt = ks
theorem cut_nil : CutsTo [] [] := fun n => ⟨rfl, rfl⟩
theorem cut_piece {r : List UInt8} {k : Int} {m : Nat} {ks : List KT} (hr : r ≠ []) (h : pieceL r = (k, m, 0)) (hc : CutsTo (gapL false (r.drop m)) ks) : CutsTo r ((k, r.take m) :: ks) := fun n => by
  obtain ⟨h1, h2⟩ := hc n
  rw [lexR_ok hr (by rw [h]), h]
  unfold before
  rw [if_pos h1]
  exact ⟨rfl, by simp [kt, h2]⟩
theorem cut_tok {t r : List UInt8} {k : Int} {ks : List KT} (ht : t ≠ []) (h : pieceL (t ++ r) = (k, t.length, 0)) (hc : CutsTo (gapL false r) ks) : CutsTo (t ++ r) ((k, t) :: ks) := by
  have := cut_piece (r := t ++ r) (by simp [ht]) h (by rw [List.drop_left]; exact hc)
  rwa [List.take_left] at this
/-- no letter, digit or '_' stands there -/
def Off (r : List UInt8) : Prop := ok8 (r.headD 0) = false
theorem run_off {p : UInt8 → Bool} {t r : List UInt8} (ht : t.all p = true) (hr : p (r.headD 0) = false ∨ r = []) : (t ++ r).takeWhile p = t := by
  induction t with
  | nil =>
    cases r with
    | nil => rfl
    | cons c r =>
      rcases hr with h | h
      · rw [List.nil_append, List.takeWhile_cons, if_neg (by rw [show c = (c :: r).headD 0 from rfl, h]; decide)]
      · cases h
  | cons c t ih =>
    simp only [List.all_cons, Bool.and_eq_true] at ht
    rw [List.cons_append, List.takeWhile_cons, if_pos ht.1, ih ht.2]
theorem piece_nm {t r : List UInt8} (h : nmB t = true) (hr : Off r) : pieceL (t ++ r) = (1, t.length, 0) := by
  unfold nmB at h
  simp only [Bool.and_eq_true, decide_eq_true_eq] at h
  obtain ⟨⟨⟨h1, h2⟩, h3⟩, h4⟩ := h
  have hne : t ≠ [] := List.length_pos_iff.1 h1
  have hrun : runL ok8 (t ++ r) = t.length := by unfold runL; rw [run_off h4 (.inl hr)]
  unfold pieceL
  rw [headD_app hne, if_pos h3, hrun, if_neg (by omega)]
theorem dig_of_ok {c : UInt8} (h : ok8 c = false) : dig8 c = false := by
  unfold ok8 Go.Proofs.YtjcanodnlnodpaaGreatDoor.Colour.okB at h; unfold dig8
  cases hd : Go.Proofs.YtjcanodnlnodpaaGreatDoor.Colour.digB c.toNat with
  | false => rfl
  | true => rw [hd] at h; simp at h
theorem piece_nu {t r : List UInt8} (h : numB t = true) (hr : Off r) : pieceL (t ++ r) = (2, t.length, 0) := by
  have h0 := h
  unfold numB at h
  simp only [Bool.and_eq_true, decide_eq_true_eq] at h
  obtain ⟨⟨⟨h1, h2⟩, h3⟩, h4⟩ := h
  have hne : t ≠ [] := List.length_pos_iff.1 h1
  have hd : dig8 (t.headD 0) = true := by
    cases t with
    | nil => exact absurd rfl hne
    | cons c x => simp only [List.all_cons, Bool.and_eq_true] at h2; exact h2.1
  have hl : let8 (t.headD 0) = false := by unfold dig8 Go.Proofs.YtjcanodnlnodpaaGreatDoor.Colour.digB at hd; unfold let8 Go.Proofs.YtjcanodnlnodpaaGreatDoor.Colour.letB; simp at hd ⊢; omega
  have hw : (t ++ r).takeWhile dig8 = t := run_off h2 (.inl (dig_of_ok hr))
  have hrun : runL dig8 (t ++ r) = t.length := by unfold runL; rw [hw]
  simp only [Bool.not_eq_true'] at h3
  unfold pieceL
  rw [headD_app hne, if_neg (by rw [hl]; decide), if_pos hd, hw, hrun, List.drop_left, h3, h0]
  rw [show ok8 (r.headD 0) = false from hr]
  rfl
/-- signs of one byte that begin no other -/
theorem best_one {c : UInt8} (h1 : [c] ∈ signsL) (h2 : ∀ t ∈ signsL, t.headD 0 = c → t = [c]) (r : List UInt8) : best signsL (c :: r) = 1 := by
  have hg := best_ge h1 (r := c :: r) (by simp [List.isPrefixOf])
  simp at hg
  rcases best_mem (ts := signsL) (r := c :: r) with h0 | ⟨u, hu, hp, he⟩
  · omega
  · have hne : u ≠ [] := fun e => by rw [e] at he; simp at he; omega
    have : u.headD 0 = c := by
      cases u with
      | nil => exact absurd rfl hne
      | cons x u => simp [List.isPrefixOf] at hp; exact hp.1
    rw [he, h2 u hu this]; rfl
theorem piece_one {c : UInt8} (h1 : [c] ∈ signsL) (h2 : ∀ t ∈ signsL, t.headD 0 = c → t = [c]) (h3 : let8 c = false) (h4 : dig8 c = false) (r : List UInt8) : pieceL ([c] ++ r) = (3, [c].length, 0) := by
  unfold pieceL
  rw [show ([c] ++ r).headD 0 = c from rfl, if_neg (by rw [h3]; decide), if_neg (by rw [h4]; decide), show [c] ++ r = c :: r from rfl, best_one h1 h2 r]
  rfl
theorem piece_bang {r : List UInt8} (h : r.headD 0 ≠ 61) : pieceL ([33] ++ r) = (3, [33].length, 0) := by
  have hb : best signsL (33 :: r) = 1 := by
    have hg := best_ge (ts := signsL) (t := [33]) (r := 33 :: r) (by decide) (by simp [List.isPrefixOf])
    simp at hg
    rcases best_mem (ts := signsL) (r := 33 :: r) with h0 | ⟨u, hu, hp, he⟩
    · omega
    · have hcase : u.headD 0 ≠ 33 ∨ u = [33] ∨ u = [33, 61] := (show ∀ t ∈ signsL, t.headD 0 ≠ 33 ∨ t = [33] ∨ t = [33, 61] by decide) u hu
      rcases hcase with g | g | g
      · cases u with
        | nil => simp at he; omega
        | cons x u => simp [List.isPrefixOf] at hp; exact absurd hp.1 g
      · rw [he, g]; rfl
      · subst g
        cases r with
        | nil => simp [List.isPrefixOf] at hp
        | cons y r => simp [List.isPrefixOf] at hp; exact absurd hp.symm h
  show pieceL (33 :: r) = (3, 1, 0)
  unfold pieceL
  rw [List.headD_cons, if_neg (show ¬ let8 33 = true by decide), if_neg (show ¬ dig8 33 = true by decide), hb]
  rfl
/-- what may stand behind an expression -/
def Stops (r : List UInt8) : Prop := r = [] ∨ r.headD 0 = 32 ∨ r.headD 0 = 41 ∨ r.headD 0 = 44
theorem Stops.off {r : List UInt8} (h : Stops r) : Off r := by
  unfold Off
  rcases h with h | h | h | h
  · rw [h]; decide
  · rw [h]; decide
  · rw [h]; decide
  · rw [h]; decide
/-- how an expression's text begins -/
def Begins (t : List UInt8) : Prop := t ≠ [] ∧ blk8 (t.headD 0) = false ∧ (t.headD 0).toNat ≠ 35 ∧ t.headD 0 ≠ 61
def brX (b : Bool) (l : List UInt8) : List UInt8 := if b then 40 :: (l ++ [41]) else l
def txtN (names : List (List UInt8)) (dec : Int → List UInt8) (k n : Int) (ks : List Ex) (l : List (List UInt8)) : List UInt8 :=
  if k = 1 then dec n
  else if k = 2 then names.getD n.toNat []
  else if k = 3 then 45 :: brX (isBinX (ks.getD 0 nilX)) (l.getD 0 [])
  else if k = 4 then 33 :: brX (isBinX (ks.getD 0 nilX)) (l.getD 0 [])
  else if k = 5 then brX (isBinX (ks.getD 0 nilX) && decide (strengthF (ks.getD 0 nilX).num < strengthF n)) (l.getD 0 []) ++ 32 :: (sgn n ++ 32 :: brX (isBinX (ks.getD 1 nilX) && decide (strengthF (ks.getD 1 nilX).num ≤ strengthF n)) (l.getD 1 []))
  else [105, 102, 40] ++ l.getD 0 [] ++ 44 :: 32 :: (l.getD 1 [] ++ 44 :: 32 :: (l.getD 2 [] ++ [41]))
def txtF (names : List (List UInt8)) (dec : Int → List UInt8) : Ex → List UInt8 := fold (txtN names dec)
theorem txt_eq (names : List (List UInt8)) (dec : Int → List UInt8) (k n : Int) (ks : List Ex) : txtF names dec ⟨k, n, ks⟩ = txtN names dec k n ks (ks.map (txtF names dec)) := fold_eq ..
/-- an expression's text, with more behind, is cut into its tokens, and what is behind -/
def Cuts (names : List (List UInt8)) (dec : Int → List UInt8) (t : Ex) : Prop :=
  Begins (txtF names dec t) ∧ ∀ (r : List UInt8) (ks : List KT), Stops r → CutsTo (gapL false r) ks → CutsTo (txtF names dec t ++ r) (tokT names dec t ++ ks)
theorem begins_c {c : UInt8} (h1 : blk8 c = false) (h2 : c.toNat ≠ 35) (h3 : c ≠ 61) (t : List UInt8) : Begins (c :: t) := ⟨by simp, h1, h2, h3⟩
theorem gap_c {c : UInt8} (h1 : blk8 c = false) (h2 : c.toNat ≠ 35) (t : List UInt8) : gapL false (c :: t) = c :: t := gap_self (r := c :: t) h1 h2
theorem Begins.gap {t r : List UInt8} (h : Begins t) : gapL false (t ++ r) = t ++ r := gap_self (by rw [headD_app h.1]; exact h.2.1) (by rw [headD_app h.1]; exact h.2.2.1)
theorem begins_nm {t : List UInt8} (h : nmB t = true) : Begins t := by
  unfold nmB at h
  simp only [Bool.and_eq_true, decide_eq_true_eq] at h
  obtain ⟨⟨⟨h1, h2⟩, h3⟩, h4⟩ := h
  unfold let8 Go.Proofs.YtjcanodnlnodpaaGreatDoor.Colour.letB at h3
  simp at h3
  refine ⟨List.length_pos_iff.1 h1, by unfold blk8; simp; omega, by simp; omega, fun e => ?_⟩
  rw [List.headD_eq_head?_getD] at e
  rw [e] at h3
  simp at h3
theorem begins_nu {t : List UInt8} (h : numB t = true) : Begins t := by
  unfold numB at h
  simp only [Bool.and_eq_true, decide_eq_true_eq] at h
  obtain ⟨⟨⟨h1, h2⟩, h3⟩, h4⟩ := h
  have hne : t ≠ [] := List.length_pos_iff.1 h1
  have hd : dig8 (t.headD 0) = true := by
    cases t with
    | nil => exact absurd rfl hne
    | cons c x => simp only [List.all_cons, Bool.and_eq_true] at h2; exact h2.1
  unfold dig8 Go.Proofs.YtjcanodnlnodpaaGreatDoor.Colour.digB at hd
  refine ⟨hne, by unfold blk8; simp at hd ⊢; omega, by simp at hd ⊢; omega, fun e => ?_⟩
  rw [e] at hd
  simp at hd
theorem cut_one {c : UInt8} (h1 : [c] ∈ signsL) (h2 : ∀ t ∈ signsL, t.headD 0 = c → t = [c]) (h3 : let8 c = false) (h4 : dig8 c = false) {r : List UInt8} {ks : List KT} (h : CutsTo (gapL false r) ks) : CutsTo (c :: r) ((3, [c]) :: ks) :=
  cut_tok (t := [c]) (by simp) (piece_one h1 h2 h3 h4 r) h
/-- in brackets, or not -/
theorem cuts_br {names : List (List UInt8)} {dec : Int → List UInt8} {t : Ex} (h : Cuts names dec t) (b : Bool) : Begins (brX b (txtF names dec t)) ∧ ∀ (r : List UInt8) (ks : List KT), Stops r → CutsTo (gapL false r) ks → CutsTo (brX b (txtF names dec t) ++ r) (brT b (tokT names dec t) ++ ks) := by
  cases b with
  | false => exact h
  | true =>
    refine ⟨begins_c (by decide) (by decide) (by decide) _, fun r ks hr hc => ?_⟩
    have e1 : brX true (txtF names dec t) ++ r = 40 :: (txtF names dec t ++ 41 :: r) := by simp [brX]
    have e2 : brT true (tokT names dec t) ++ ks = (3, [40]) :: (tokT names dec t ++ (3, [41]) :: ks) := by simp [brT]
    rw [e1, e2]
    refine cut_one (by decide) (by decide) (by decide) (by decide) ?_
    rw [h.1.gap]
    refine h.2 _ _ (.inr (.inr (.inl rfl))) ?_
    rw [gap_c (by decide) (by decide)]
    exact cut_one (by decide) (by decide) (by decide) (by decide) hc
theorem sgn_piece {n : Int} (h1 : 1 ≤ n) (h2 : n ≤ 11) : pieceL (sgn n) = (3, (sgn n).length, 0) ∧ sgn n ≠ [] ∧ blk8 ((sgn n).headD 0) = false ∧ ((sgn n).headD 0).toNat ≠ 35 := by
  have : n = 1 ∨ n = 2 ∨ n = 3 ∨ n = 4 ∨ n = 5 ∨ n = 6 ∨ n = 7 ∨ n = 8 ∨ n = 9 ∨ n = 10 ∨ n = 11 := by omega
  rcases this with rfl | rfl | rfl | rfl | rfl | rfl | rfl | rfl | rfl | rfl | rfl <;> decide
theorem gap_blank (r : List UInt8) : gapL false (32 :: r) = gapL false r := by rw [gapL.eq_2, if_pos (by decide)]
theorem cuts_all {names : List (List UInt8)} {dec : Int → List UInt8} (hN : ∀ i, i < names.length → nmB (names.getD i []) = true)
    (hD : ∀ n : Int, 0 ≤ n → n < 9223372036854775808 → numB (dec n) = true) : ∀ t, okE names.length t → Cuts names dec t := by
  refine Ex.ind fun k n ks ih hok => ?_
  rw [ok_eq] at hok
  obtain ⟨hk, hkids⟩ := hok
  have ih : ∀ x, x ∈ ks → Cuts names dec x := fun x hx => ih x hx (hkids _ (List.mem_map.2 ⟨x, hx, rfl⟩))
  rcases hk with ⟨rfl, hl, h0, h1⟩ | ⟨rfl, hl, h0, h1⟩ | ⟨hk, hl⟩ | ⟨rfl, hl, h0, h1⟩ | ⟨rfl, hl⟩
  · have hb := hD n h0 h1
    have e1 : txtF names dec ⟨1, n, ks⟩ = dec n := by rw [txt_eq]; rfl
    have e2 : tokT names dec ⟨1, n, ks⟩ = [(2, dec n)] := by rw [tok_eq]; rfl
    unfold Cuts
    rw [e1, e2]
    exact ⟨begins_nu hb, fun r ks' hr hc => cut_tok (begins_nu hb).1 (piece_nu hb hr.off) hc⟩
  · have hb := hN n.toNat (by omega)
    have e1 : txtF names dec ⟨2, n, ks⟩ = names.getD n.toNat [] := by rw [txt_eq]; rfl
    have e2 : tokT names dec ⟨2, n, ks⟩ = [(1, names.getD n.toNat [])] := by rw [tok_eq]; rfl
    unfold Cuts
    rw [e1, e2]
    exact ⟨begins_nm hb, fun r ks' hr hc => cut_tok (begins_nm hb).1 (piece_nm hb hr.off) hc⟩
  · obtain ⟨a, rfl⟩ : ∃ a, ks = [a] := List.length_eq_one_iff.1 hl
    obtain ⟨b1, b2⟩ := cuts_br (ih a (by simp)) (isBinX a)
    rcases hk with rfl | rfl
    · have e1 : txtF names dec ⟨3, n, [a]⟩ = 45 :: brX (isBinX a) (txtF names dec a) := by rw [txt_eq]; rfl
      have e2 : tokT names dec ⟨3, n, [a]⟩ = (3, [45]) :: brT (isBinX a) (tokT names dec a) := by rw [tok_eq]; rfl
      unfold Cuts
      rw [e1, e2]
      refine ⟨begins_c (by decide) (by decide) (by decide) _, fun r ks' hr hc => ?_⟩
      rw [List.cons_append, List.cons_append]
      refine cut_one (by decide) (by decide) (by decide) (by decide) ?_
      rw [b1.gap]
      exact b2 r ks' hr hc
    · have e1 : txtF names dec ⟨4, n, [a]⟩ = 33 :: brX (isBinX a) (txtF names dec a) := by rw [txt_eq]; rfl
      have e2 : tokT names dec ⟨4, n, [a]⟩ = (3, [33]) :: brT (isBinX a) (tokT names dec a) := by rw [tok_eq]; rfl
      unfold Cuts
      rw [e1, e2]
      refine ⟨begins_c (by decide) (by decide) (by decide) _, fun r ks' hr hc => ?_⟩
      rw [List.cons_append, List.cons_append]
      refine cut_tok (t := [33]) (r := brX (isBinX a) (txtF names dec a) ++ r) (by simp) (piece_bang (by rw [headD_app b1.1]; exact b1.2.2.2)) ?_
      rw [b1.gap]
      exact b2 r ks' hr hc
  · obtain ⟨a, b, rfl⟩ : ∃ a b, ks = [a, b] := len_two hl
    obtain ⟨a1, a2⟩ := cuts_br (ih a (by simp)) (isBinX a && decide (strengthF a.num < strengthF n))
    obtain ⟨b1, b2⟩ := cuts_br (ih b (by simp)) (isBinX b && decide (strengthF b.num ≤ strengthF n))
    obtain ⟨s1, s2, s3, s4⟩ := sgn_piece h0 h1
    have e1 : txtF names dec ⟨5, n, [a, b]⟩ = brX (isBinX a && decide (strengthF a.num < strengthF n)) (txtF names dec a) ++ 32 :: (sgn n ++ 32 :: brX (isBinX b && decide (strengthF b.num ≤ strengthF n)) (txtF names dec b)) := by rw [txt_eq]; rfl
    have e2 : tokT names dec ⟨5, n, [a, b]⟩ = brT (isBinX a && decide (strengthF a.num < strengthF n)) (tokT names dec a) ++ (3, sgn n) :: brT (isBinX b && decide (strengthF b.num ≤ strengthF n)) (tokT names dec b) := by rw [tok_eq]; rfl
    unfold Cuts
    rw [e1, e2]
    refine ⟨⟨by simp, by rw [headD_app a1.1]; exact a1.2.1, by rw [headD_app a1.1]; exact a1.2.2.1, by rw [headD_app a1.1]; exact a1.2.2.2⟩, fun r ks' hr hc => ?_⟩
    rw [List.append_assoc, List.append_assoc, List.cons_append, List.append_assoc, List.cons_append, List.cons_append]
    refine a2 _ _ (.inr (.inl rfl)) ?_
    rw [gap_blank, gap_self (by rw [headD_app s2]; exact s3) (by rw [headD_app s2]; exact s4)]
    refine cut_tok s2 ((piece_stop (by decide) s2 _).trans s1) ?_
    rw [gap_blank, b1.gap]
    exact b2 r ks' hr hc
  · obtain ⟨a, b, c, rfl⟩ : ∃ a b c, ks = [a, b, c] := len_three hl
    obtain ⟨a1, a2⟩ := ih a (by simp)
    obtain ⟨b1, b2⟩ := ih b (by simp)
    obtain ⟨c1, c2⟩ := ih c (by simp)
    have e1 : txtF names dec ⟨6, n, [a, b, c]⟩ = [105, 102] ++ (40 :: (txtF names dec a ++ 44 :: 32 :: (txtF names dec b ++ 44 :: 32 :: (txtF names dec c ++ [41])))) := by rw [txt_eq]; show [105, 102, 40] ++ txtF names dec a ++ 44 :: 32 :: (txtF names dec b ++ 44 :: 32 :: (txtF names dec c ++ [41])) = _; simp
    have e2 : tokT names dec ⟨6, n, [a, b, c]⟩ = (1, [105, 102]) :: (3, [40]) :: (tokT names dec a ++ (3, [44]) :: (tokT names dec b ++ (3, [44]) :: (tokT names dec c ++ [(3, [41])]))) := by rw [tok_eq]; show [(1, [105, 102]), (3, [40])] ++ tokT names dec a ++ (3, [44]) :: (tokT names dec b ++ (3, [44]) :: (tokT names dec c ++ [(3, [41])])) = _; simp
    unfold Cuts
    rw [e1, e2]
    refine ⟨begins_c (by decide) (by decide) (by decide) _, fun r ks' hr hc => ?_⟩
    rw [show ([105, 102] ++ (40 :: (txtF names dec a ++ 44 :: 32 :: (txtF names dec b ++ 44 :: 32 :: (txtF names dec c ++ [41]))))) ++ r = [105, 102] ++ (40 :: (txtF names dec a ++ 44 :: 32 :: (txtF names dec b ++ 44 :: 32 :: (txtF names dec c ++ 41 :: r)))) by simp,
      show ((1, [105, 102]) :: (3, [40]) :: (tokT names dec a ++ (3, [44]) :: (tokT names dec b ++ (3, [44]) :: (tokT names dec c ++ [(3, [41])])))) ++ ks' = (1, [105, 102]) :: (3, [40]) :: (tokT names dec a ++ (3, [44]) :: (tokT names dec b ++ (3, [44]) :: (tokT names dec c ++ (3, [41]) :: ks'))) by simp]
    refine cut_tok (by simp) (piece_nm (by decide) (by show ok8 40 = false; decide)) ?_
    rw [gap_c (by decide) (by decide)]
    refine cut_one (by decide) (by decide) (by decide) (by decide) ?_
    rw [a1.gap]
    refine a2 _ _ (.inr (.inr (.inr rfl))) ?_
    rw [gap_c (by decide) (by decide)]
    refine cut_one (by decide) (by decide) (by decide) (by decide) ?_
    rw [gap_blank, b1.gap]
    refine b2 _ _ (.inr (.inr (.inr rfl))) ?_
    rw [gap_c (by decide) (by decide)]
    refine cut_one (by decide) (by decide) (by decide) (by decide) ?_
    rw [gap_blank, c1.gap]
    refine c2 _ _ (.inr (.inr (.inl rfl))) ?_
    rw [gap_c (by decide) (by decide)]
    exact cut_one (by decide) (by decide) (by decide) (by decide) hc
/- brackets around an expression -/
theorem bind_ok {α β : Type} {x : Except (List KT × Int) α} {g : α → Except (List KT × Int) β} {v : β} (h : x.bind g = .ok v) : ∃ u, x = .ok u ∧ g u = .ok v := by
  cases x with
  | error e => cases h
  | ok u => exact ⟨u, rfl, h⟩
/-- it went well, with more behind; or it was too deep -/
def Ext (q : List KT) (x : Ex) (r1 : List KT) (y : PR Ex) : Prop := y = .ok (x, r1 ++ q) ∨ ∃ z, y = .error (z, 2)
theorem peek_app {r q : List KT} (h : r ≠ []) : peekL (r ++ q) = peekL r ∧ (r ++ q).tail = r.tail ++ q := by
  cases r with
  | nil => exact absurd rfl h
  | cons t r => exact ⟨rfl, rfl⟩
theorem ne_of_peek {r : List KT} {s : List UInt8} (h : peekL r = s) (hs : s ≠ []) : r ≠ [] := fun e => by rw [e] at h; exact hs h.symm
theorem want_app {s : List UInt8} {r r2 q : List KT} (h : wantL s r = .ok r2) : wantL s (r ++ q) = .ok (r2 ++ q) := by
  unfold wantL at *
  split at h
  · rename_i h1
    cases h
    have hr := ne_of_peek h1.1 h1.2
    obtain ⟨g1, g2⟩ := peek_app (q := q) hr
    rw [g1, if_pos h1, g2]
  · cases h
theorem ext_bind {q : List KT} {x u : Ex} {r1 r2 : List KT} {y : PR Ex} {g : Ex × List KT → PR Ex} (h : Ext q u r2 y) (hg : Ext q x r1 (g (u, r2 ++ q))) : Ext q x r1 (y.bind g) := by
  rcases h with h | ⟨z, h⟩
  · rw [h]; exact hg
  · rw [h]; exact .inr ⟨z, rfl⟩
theorem ext_want {q : List KT} {x : Ex} {r1 : List KT} {s : List UInt8} {r r2 : List KT} {g : List KT → PR Ex} (h : wantL s r = .ok r2) (hg : Ext q x r1 (g (r2 ++ q))) : Ext q x r1 ((wantL s (r ++ q)).bind g) := by
  rw [want_app h]; exact hg
theorem pe_ext {names : List (List UInt8)} {q : List KT} (hq : opL (peekL q) = 0) : ∀ (f m : Nat) (s : Int) (d : Nat) (e : Ex) (r : List KT) (x : Ex) (r1 : List KT), m ≤ 2 → pe names f m s d e r = .ok (x, r1) → Ext q x r1 (peR names m s (d + 1) e (r ++ q)) := by
  intro f
  induction f with
  | zero => intro m s d e r x r1 _ h; rw [pe.eq_1] at h; cases h
  | succ f ih =>
    intro m s d e r x r1 hm h
    match m, hm, h with
    | 0, _, h =>
      by_cases h41 : 40 < d + 1
      · exact .inr ⟨_, peR_deep names s (d + 1) e _ h41⟩
      rw [pe.eq_2, if_neg (by omega)] at h
      by_cases h1 : peekL r = [45]
      · rw [if_pos h1] at h
        obtain ⟨u, hu, hv⟩ := bind_ok h
        obtain ⟨g1, g2⟩ := peek_app (q := q) (ne_of_peek h1 (by decide))
        rw [peR_neg names s (d + 1) e _ h41 (by rw [g1, h1]), g2]
        refine ext_bind (ih 0 s (d + 1) e r.tail u.1 u.2 (by omega) hu) ?_
        cases hv
        exact .inl rfl
      rw [if_neg h1] at h
      by_cases h2 : peekL r = [33]
      · rw [if_pos h2] at h
        obtain ⟨u, hu, hv⟩ := bind_ok h
        obtain ⟨g1, g2⟩ := peek_app (q := q) (ne_of_peek h2 (by decide))
        rw [peR_not names s (d + 1) e _ h41 (by rw [g1, h2]), g2]
        refine ext_bind (ih 0 s (d + 1) e r.tail u.1 u.2 (by omega) hu) ?_
        cases hv
        exact .inl rfl
      rw [if_neg h2] at h
      by_cases h3 : peekL r = [40]
      · rw [if_pos h3] at h
        obtain ⟨u, hu, hv⟩ := bind_ok h
        obtain ⟨r2, hw, hv⟩ := bind_ok hv
        obtain ⟨g1, g2⟩ := peek_app (q := q) (ne_of_peek h3 (by decide))
        rw [peR_par names s (d + 1) e _ h41 (by rw [g1, h3]), g2]
        refine ext_bind (ih 1 0 (d + 1) e r.tail u.1 u.2 (by omega) hu) (ext_want hw ?_)
        cases hv
        exact .inl rfl
      rw [if_neg h3] at h
      by_cases h4 : peekL r = [105, 102]
      · rw [if_pos h4] at h
        obtain ⟨r0, hw0, h⟩ := bind_ok h
        obtain ⟨a, ha, h⟩ := bind_ok h
        obtain ⟨r2, hw2, h⟩ := bind_ok h
        obtain ⟨b, hb, h⟩ := bind_ok h
        obtain ⟨r4, hw4, h⟩ := bind_ok h
        obtain ⟨c, hc, h⟩ := bind_ok h
        obtain ⟨r6, hw6, h⟩ := bind_ok h
        obtain ⟨g1, g2⟩ := peek_app (q := q) (ne_of_peek h4 (by decide))
        rw [peR_if names s (d + 1) e _ h41 (by rw [g1, h4]), g2]
        refine ext_want hw0 (ext_bind (ih 1 0 (d + 1) e r0 a.1 a.2 (by omega) ha) (ext_want hw2 (ext_bind (ih 1 0 (d + 1) e r2 b.1 b.2 (by omega) hb) (ext_want hw4 (ext_bind (ih 1 0 (d + 1) e r4 c.1 c.2 (by omega) hc) (ext_want hw6 ?_))))))
        cases h
        exact .inl rfl
      rw [if_neg h4] at h
      have hr : r ≠ [] := fun e0 => by rw [e0] at h; cases h
      obtain ⟨g1, g2⟩ := peek_app (q := q) hr
      rw [peR_leaf names s (d + 1) e _ h41 (by rw [g1]; exact h1) (by rw [g1]; exact h2) (by rw [g1]; exact h3) (by rw [g1]; exact h4)]
      cases r with
      | nil => exact absurd rfl hr
      | cons t r =>
        rw [List.cons_append, leafL.eq_2]
        rw [leafL.eq_2] at h
        by_cases k1 : t.1 = 2
        · rw [if_pos k1] at h ⊢
          by_cases k2 : numB t.2 = true
          · rw [if_pos k2] at h ⊢; cases h; exact .inl rfl
          · rw [if_neg k2] at h; cases h
        · rw [if_neg k1] at h ⊢
          by_cases k2 : t.1 = 1 ∧ wordB t.2 = false
          · rw [if_pos k2] at h ⊢
            cases k3 : nameAt names t.2 with
            | none => rw [k3] at h; cases h
            | some i => rw [k3] at h; cases h; exact .inl rfl
          · rw [if_neg k2] at h; cases h
    | 1, _, h =>
      rw [pe.eq_3] at h
      obtain ⟨u, hu, hv⟩ := bind_ok h
      rw [peR_1]
      exact ext_bind (ih 0 s d e r u.1 u.2 (by omega) hu) (ih 2 s d u.1 u.2 x r1 (by omega) hv)
    | 2, _, h =>
      rw [pe.eq_4] at h
      by_cases hp : opL (peekL r) ≠ 0 ∧ s < strengthF (opL (peekL r))
      · rw [if_pos hp] at h
        obtain ⟨u, hu, hv⟩ := bind_ok h
        have hr : r ≠ [] := fun e0 => by rw [e0] at hp; exact hp.1 (by decide)
        obtain ⟨g1, g2⟩ := peek_app (q := q) hr
        rw [peR_2yes names s (d + 1) e _ (by rw [g1]; exact hp), g1, g2]
        exact ext_bind (ih 1 _ (d + 1) e r.tail u.1 u.2 (by omega) hu) (ih 2 s d _ u.2 x r1 (by omega) hv)
      · rw [if_neg hp] at h
        cases h
        rw [peR_2no names s (d + 1) e _ ?_]
        · exact .inl rfl
        · by_cases hr : r = []
          · rw [hr, List.nil_append]; exact fun g => g.1 hq
          · rw [(peek_app (q := q) hr).1]; exact hp
/-- an expression as a whole: read, or the error, and how many tokens are left there -/
def exprI (names : List (List UInt8)) (r : List KT) : Except (List KT × Int) Ex := (peR names 1 0 1 ⟨0, 0, []⟩ r).bind fun x => if x.2 = [] then .ok x.1 else .error (x.2, 4)
theorem groups {names : List (List UInt8)} {r : List KT} {a : Ex} (h : exprI names r = .ok a) : exprI names ((3, [40]) :: (r ++ [(3, [41])])) = .ok a ∨ ∃ z, exprI names ((3, [40]) :: (r ++ [(3, [41])])) = .error (z, 2) := by
  unfold exprI at h
  obtain ⟨u, hu, hv⟩ := bind_ok h
  have hu2 : u.2 = [] := by
    by_cases hn : u.2 = []
    · exact hn
    · rw [if_neg hn] at hv; cases hv
  rw [if_pos hu2] at hv
  cases hv
  unfold peR at hu
  have hx := pe_ext (names := names) (q := [(3, [41])]) (by decide) _ 1 0 1 ⟨0, 0, []⟩ r u.1 u.2 (by omega) hu
  unfold exprI
  rw [peR_1, peR_par names 0 1 _ _ (by decide) rfl]
  show (((((peR names 1 0 (1 + 1) ⟨0, 0, []⟩ (r ++ [(3, [41])])).bind fun x => (wantL [41] x.2).bind fun r2 => Except.ok (x.1, r2)).bind fun x => peR names 2 0 1 x.1 x.2)).bind _ = _) ∨ ∃ z, ((((peR names 1 0 (1 + 1) ⟨0, 0, []⟩ (r ++ [(3, [41])])).bind fun x => (wantL [41] x.2).bind fun r2 => Except.ok (x.1, r2)).bind fun x => peR names 2 0 1 x.1 x.2)).bind _ = _
  rcases hx with hx | ⟨z, hx⟩
  · left
    rw [hx, hu2]
    show (peR names 2 0 1 u.1 []).bind _ = _
    rw [peR_2no names 0 1 u.1 [] (fun g => g.1 (by decide))]
    rfl
  · right
    rw [hx]
    exact ⟨z, rfl⟩
/-- an expression's text is read as it was -/
theorem back {names : List (List UInt8)} {dec : Int → List UInt8} (hN : ∀ i, i < names.length → nameAt names (names.getD i []) = some i ∧ wordB (names.getD i []) = false ∧ nmB (names.getD i []) = true)
    (hD : ∀ n : Int, 0 ≤ n → n < 9223372036854775808 → numB (dec n) = true ∧ (valL 0 (dec n) : Int) = n) {t : Ex} (ht : okE names.length t) (hd : depthF t ≤ 20) :
    CutsTo (gapL false (txtF names dec t)) (tokT names dec t) ∧ exprI names (tokT names dec t) = .ok (cleanF t) := by
  have hc := cuts_all (fun i hi => (hN i hi).2.2) (fun n h0 h1 => (hD n h0 h1).1) t ht
  have hr := reads_all (fun i hi => ⟨(hN i hi).1, (hN i hi).2.1⟩) hD t ht
  constructor
  · have := hc.2 [] [] (.inl rfl) cut_nil
    rw [List.append_nil, List.append_nil] at this
    have hg := hc.1.gap (r := [])
    rw [List.append_nil] at hg
    rw [hg]; exact this
  · have hno : ∀ s, NoOp s [] := fun s g => g.1 (by decide)
    have hb : t.kind = 5 → 0 < strengthF t.num := fun e => by have := (op_sgn (okE_bin ht e).1 (okE_bin ht e).2).2; omega
    have := hr.1 0 1 ⟨0, 0, []⟩ [] (by omega) hb (fun _ => hno _)
    rw [List.append_nil] at this
    unfold exprI
    rw [this, peR_2no names 0 1 _ [] (hno 0)]
    rfl
end Go.Proofs.YtjcanodnlnodpaaGreatDoor.Parse
/- The plain mathematics of layer 6: nets of tokens. No program stands in it. -/
namespace Go.Proofs.YtjcanodnlnodpaaGreatDoor.Parse
open Go.Proofs.YtjcanodnlnodpaaGreatDoor.Token Go.Proofs.YtjcanodnlnodpaaGreatDoor.Expr Go.Proofs.YtjcanodnlnodpaaGreatDoor.Calc
set_option linter.unusedVariables false
/- nets of tokens -/
structure PCol where
  name : List UInt8
  kind : Int
  lo : Int
  hi : Int
  names : List (List UInt8)
  first : Int
  thn : Int
structure PPlace where
  name : List UInt8
  colour : Int
  first : List (Int × Int)
structure PTask where
  name : List UInt8
  vars : List (List UInt8 × Int)
  guard : Ex
  join : Int
  split : Int
  ins : List (Int × Ex)
  outs : List (Int × Ex)
  cancel : List Int
  after : Int
  m0 : Int
  m1 : Int
  m2 : Int
structure PNet where
  colours : List PCol
  places : List PPlace
  tasks : List PTask
  frm : Int
  too : Int
/-- a NAME; it stays there -/
def nameP : List KT → PR (List UInt8)
  | [] => .error ([], 4)
  | t :: r => if t.1 = 1 ∧ wordB t.2 = false then .ok (t.2, t :: r) else .error (t :: r, 4)
/-- a NUMBER -/
def numP : List KT → PR Int
  | [] => .error ([], 4)
  | t :: r => if t.1 = 2 ∧ numB t.2 = true then .ok ((valL 0 t.2 : Int), r) else .error (t :: r, 4)
def intP (r : List KT) : PR Int := if peekL r = [45] then (numP r.tail).bind fun x => .ok (-x.1, x.2) else numP r
/-- the place of one that is named so -/
def findP (l : List (List UInt8)) (r : List KT) : PR Int := (nameP r).bind fun x => match nameAt l x.1 with | some i => .ok ((i : Int), r.tail) | none => .error (r, 3)
/-- a NAME that none of these is -/
def freshP (l : List (List UInt8)) (r : List KT) : PR (List UInt8) := (nameP r).bind fun x => if x.1 ∈ l then .error (r, 5) else .ok (x.1, r.tail)
def enumP : Nat → List (List UInt8) → List KT → PR (List (List UInt8))
  | 0, _, r => .error (r, 0)
  | f + 1, acc, r => (nameP r).bind fun x => if peekL r.tail = [44] then enumP f (acc ++ [x.1]) r.tail.tail else .ok (acc ++ [x.1], r.tail)
/-- a colour's declaration, behind its word -/
def colourP (cs : List PCol) (r : List KT) : PR PCol :=
  (freshP (cs.map PCol.name) r).bind fun s => (wantL [61] s.2).bind fun r1 =>
    (if peekL r1 = [105, 110, 116] then (intP r1.tail).bind fun lo => (wantL [46, 46] lo.2).bind fun r2 => (intP r2).bind fun hi => (.ok (⟨s.1, 1, lo.1, hi.1, [], 0, 0⟩, hi.2) : PR PCol)
     else if peekL r1 = [101, 110, 117, 109] then (enumP (r1.length + 1) [] r1.tail).bind fun l => .ok (⟨s.1, 2, 0, 0, l.1, 0, 0⟩, l.2)
     else if peekL r1 = [112, 97, 105, 114] then (findP (cs.map PCol.name) r1.tail).bind fun a => (wantL [44] a.2).bind fun r2 => (findP (cs.map PCol.name) r2).bind fun b => .ok (⟨s.1, 3, 0, 0, [], a.1, b.1⟩, b.2)
     else .error (r1, 4)).bind fun c => (wantL [59] c.2).bind fun r3 => .ok (c.1, r3)
/-- so many of a member more, up to the greatest count -/
def addP (rs : List (Int × Int)) (m k : Int) : List (Int × Int) := match rs with
  | [] => [(m, min k 1048576)]
  | x :: l => if x.1 = m then (m, min (x.2 + k) 1048576) :: l else if m < x.1 then (m, min k 1048576) :: x :: l else x :: addP l m k
def firstP : Nat → List (Int × Int) → List KT → PR (List (Int × Int))
  | 0, _, r => .error (r, 0)
  | f + 1, acc, r => (numP r).bind fun m =>
      (if peekL m.2 = [42] then numP m.2.tail else (.ok (1, m.2) : PR Int)).bind fun k =>
        if peekL k.2 = [44] then firstP f (if 0 < k.1 then addP acc m.1 k.1 else acc) k.2.tail else .ok ((if 0 < k.1 then addP acc m.1 k.1 else acc), k.2)
def placeP (n : PNet) (r : List KT) : PR PPlace :=
  (freshP (n.places.map PPlace.name) r).bind fun s => (wantL [58] s.2).bind fun r1 => (findP (n.colours.map PCol.name) r1).bind fun c =>
    (if peekL c.2 = [61] then firstP (c.2.length + 1) [] c.2.tail else (.ok ([], c.2) : PR (List (Int × Int)))).bind fun b => (wantL [59] b.2).bind fun r3 => .ok (⟨s.1, c.1, b.1⟩, r3)
def kindP (r : List KT) : PR Int :=
  if peekL r = [97, 110, 100] then .ok (1, r.tail) else if peekL r = [120, 111, 114] then .ok (2, r.tail) else if peekL r = [111, 114] then .ok (3, r.tail) else .error (r, 4)
def exprP (names : List (List UInt8)) (r : List KT) : PR Ex := peR names 1 0 1 ⟨0, 0, []⟩ r
def arcP (n : PNet) (names : List (List UInt8)) (r : List KT) : PR (Int × Ex) :=
  (findP (n.places.map PPlace.name) r).bind fun k => (wantL [40] k.2).bind fun r1 => (exprP names r1).bind fun e => (wantL [41] e.2).bind fun r2 => .ok ((k.1, e.1), r2)
/-- which of the clauses that may stand once it is -/
def onceL : List (List UInt8) := [[119, 104, 101, 110], [106, 111, 105, 110], [115, 112, 108, 105, 116], [97, 102, 116, 101, 114], [109, 97, 110, 121]]
/-- a clause; had: the words that stood -/
def clauseP (n : PNet) (had : List (List UInt8)) (t : PTask) (r : List KT) : PR PTask :=
  if peekL r ∈ onceL ∧ peekL r ∈ had then .error (r, 5)
  else (if peekL r = [118, 97, 114] then (freshP (t.vars.map Prod.fst) r.tail).bind fun s => (wantL [58] s.2).bind fun r1 => (findP (n.colours.map PCol.name) r1).bind fun c => (.ok ({ t with vars := t.vars ++ [(s.1, c.1)] }, c.2) : PR PTask)
    else if peekL r = [119, 104, 101, 110] then (exprP (t.vars.map Prod.fst) r.tail).bind fun e => .ok ({ t with guard := e.1 }, e.2)
    else if peekL r = [106, 111, 105, 110] then (kindP r.tail).bind fun k => .ok ({ t with join := k.1 }, k.2)
    else if peekL r = [115, 112, 108, 105, 116] then (kindP r.tail).bind fun k => .ok ({ t with split := k.1 }, k.2)
    else if peekL r = [105, 110] then (arcP n (t.vars.map Prod.fst) r.tail).bind fun a => .ok ({ t with ins := t.ins ++ [a.1] }, a.2)
    else if peekL r = [111, 117, 116] then (arcP n (t.vars.map Prod.fst) r.tail).bind fun a => .ok ({ t with outs := t.outs ++ [a.1] }, a.2)
    else if peekL r = [99, 97, 110, 99, 101, 108] then (findP (n.places.map PPlace.name) r.tail).bind fun k => .ok ({ t with cancel := t.cancel ++ [k.1] }, k.2)
    else if peekL r = [97, 102, 116, 101, 114] then (numP r.tail).bind fun k => .ok ({ t with after := k.1 }, k.2)
    else if peekL r = [109, 97, 110, 121] then (numP r.tail).bind fun a => (wantL [44] a.2).bind fun r1 => (numP r1).bind fun b => (wantL [44] b.2).bind fun r2 => (numP r2).bind fun c => .ok ({ t with m0 := a.1, m1 := b.1, m2 := c.1 }, c.2)
    else .error (r, 4)).bind fun u => (wantL [59] u.2).bind fun r3 => .ok (u.1, r3)
def clausesP (n : PNet) : Nat → List (List UInt8) → PTask → List KT → PR PTask
  | 0, _, _, r => .error (r, 0)
  | f + 1, had, t, r => if peekL r = [125] then .ok (t, r) else (clauseP n had t r).bind fun u => clausesP n f (peekL r :: had) u.1 u.2
def taskP (n : PNet) (r : List KT) : PR PTask :=
  (freshP (n.tasks.map PTask.name) r).bind fun s => (wantL [123] s.2).bind fun r1 => (clausesP n (r1.length + 1) [] ⟨s.1, [], ⟨1, 1, []⟩, 1, 1, [], [], [], 0, 0, 0, 0⟩ r1).bind fun t => (wantL [125] t.2).bind fun r2 => .ok (t.1, r2)
def declsP : Nat → PNet → List KT → PR PNet
  | 0, _, r => .error (r, 0)
  | f + 1, n, r =>
    if peekL r = [102, 114, 111, 109] then .ok (n, r)
    else if peekL r = [99, 111, 108, 111, 117, 114] then (colourP n.colours r.tail).bind fun c => declsP f { n with colours := n.colours ++ [c.1] } c.2
    else if peekL r = [112, 108, 97, 99, 101] then (placeP n r.tail).bind fun c => declsP f { n with places := n.places ++ [c.1] } c.2
    else if peekL r = [116, 97, 115, 107] then (taskP n r.tail).bind fun c => declsP f { n with tasks := n.tasks ++ [c.1] } c.2
    else .error (r, 4)
/-- a net of tokens, or the error, and ahead of which tokens it stands -/
def netI (r : List KT) : Except (List KT × Int) PNet :=
  (declsP (r.length + 1) ⟨[], [], [], 0, 0⟩ r).bind fun n => (wantL [102, 114, 111, 109] n.2).bind fun r1 => (findP (n.1.places.map PPlace.name) r1).bind fun a => (wantL [59] a.2).bind fun r2 =>
    (wantL [116, 111] r2).bind fun r3 => (findP (n.1.places.map PPlace.name) r3).bind fun b => (wantL [59] b.2).bind fun r4 => if r4 = [] then .ok { n.1 with frm := a.1, too := b.1 } else .error (r4, 4)
/-- the place ahead of which so many tokens are left -/
def placeOf (l : List (KT × Int)) (end_ : Int) (z : List KT) : Int := ((l.drop (l.length - z.length)).head?.map Prod.snd).getD end_
end Go.Proofs.YtjcanodnlnodpaaGreatDoor.Parse
/- The plain mathematics of layer 6: where a reader stands, and what became of it. No program stands in it. -/
namespace Go.Proofs.YtjcanodnlnodpaaGreatDoor.Parse
open Go.Proofs.YtjcanodnlnodpaaGreatDoor.Token Go.Proofs.YtjcanodnlnodpaaGreatDoor.Expr Go.Proofs.YtjcanodnlnodpaaGreatDoor.Calc
set_option linter.unusedVariables false
set_option linter.unusedSimpArgs false
/-- a token, whatever its place -/
structure TI where
  kind : Int
  text : List UInt8
  at_ : Int
def ti0 : TI := ⟨0, [], 0⟩
def ktI (t : TI) : KT := (t.kind, t.text)
/-- a reader: the tokens that are left; or the first error, its place and which -/
abbrev St := Except (Int × Int) (List TI)
/-- the place of the first of these -/
def plc (en : Int) : List TI → Int
  | [] => en
  | t :: _ => t.at_
/-- what became of a reader, and of what was read -/
def Res {α : Type} (en : Int) (st0 : St) (x : List KT → PR α) (st1 : St) (P : α → Prop) : Prop := match st0 with
  | .error e => st1 = .error e
  | .ok r => match x (r.map ktI) with
    | .ok v => (∃ s, s <:+ r ∧ s.map ktI = v.2 ∧ st1 = .ok s) ∧ P v.1
    | .error e => ∃ s, s <:+ r ∧ s.map ktI = e.1 ∧ st1 = .error (plc en s, e.2)
theorem Res.dead {α : Type} {en : Int} {st0 st1 : St} {x : List KT → PR α} {P : α → Prop} (h : Res en st0 x st1 P) {e : Int × Int} (he : st0 = .error e) : st1 = .error e := by subst he; exact h
theorem Res.of_dead {α : Type} {en : Int} {x : List KT → PR α} {P : α → Prop} (e : Int × Int) : Res en (.error e) x (.error e) P := rfl
theorem Res.of_ok {α : Type} {en : Int} {r : List TI} {x : List KT → PR α} {P : α → Prop} {v : α} {z : List KT} {s : List TI} (h : x (r.map ktI) = .ok (v, z)) (hs : s <:+ r) (hz : s.map ktI = z) (hp : P v) : Res en (.ok r) x (.ok s) P := by
  show (match x (r.map ktI) with | .ok v => (∃ s', s' <:+ r ∧ s'.map ktI = v.2 ∧ (Except.ok s : St) = .ok s') ∧ P v.1 | .error e => _)
  rw [h]; exact ⟨⟨s, hs, hz, rfl⟩, hp⟩
theorem Res.of_err {α : Type} {en : Int} {r : List TI} {x : List KT → PR α} {P : α → Prop} {z : List KT} {er : Int} {s : List TI} (h : x (r.map ktI) = .error (z, er)) (hs : s <:+ r) (hz : s.map ktI = z) : Res en (.ok r) x (.error (plc en s, er)) P := by
  show (match x (r.map ktI) with | .ok v => _ | .error e => ∃ s', s' <:+ r ∧ s'.map ktI = e.1 ∧ (Except.error (plc en s, er) : St) = .error (plc en s', e.2))
  rw [h]; exact ⟨s, hs, hz, rfl⟩
theorem Res.ok {α : Type} {en : Int} {r : List TI} {st1 : St} {x : List KT → PR α} {P : α → Prop} {v : α} {z : List KT} (h : Res en (.ok r) x st1 P) (hx : x (r.map ktI) = .ok (v, z)) : (∃ s, s <:+ r ∧ s.map ktI = z ∧ st1 = .ok s) ∧ P v := by
  have h : (match x (r.map ktI) with | .ok v => (∃ s, s <:+ r ∧ s.map ktI = v.2 ∧ st1 = .ok s) ∧ P v.1 | .error e => ∃ s, s <:+ r ∧ s.map ktI = e.1 ∧ st1 = .error (plc en s, e.2)) := h
  rw [hx] at h; exact h
theorem Res.err {α : Type} {en : Int} {r : List TI} {st1 : St} {x : List KT → PR α} {P : α → Prop} {z : List KT} {er : Int} (h : Res en (.ok r) x st1 P) (hx : x (r.map ktI) = .error (z, er)) : ∃ s, s <:+ r ∧ s.map ktI = z ∧ st1 = .error (plc en s, er) := by
  have h : (match x (r.map ktI) with | .ok v => (∃ s, s <:+ r ∧ s.map ktI = v.2 ∧ st1 = .ok s) ∧ P v.1 | .error e => ∃ s, s <:+ r ∧ s.map ktI = e.1 ∧ st1 = .error (plc en s, e.2)) := h
  rw [hx] at h; exact h
theorem Res.mono {α : Type} {en : Int} {st0 st1 : St} {x : List KT → PR α} {P Q : α → Prop} (h : Res en st0 x st1 P) (k : ∀ u, P u → Q u) : Res en st0 x st1 Q := by
  cases st0 with
  | error e => exact h
  | ok r =>
    cases hx : x (r.map ktI) with
    | error e => obtain ⟨s, h1, h2, rfl⟩ := h.err hx; exact Res.of_err hx h1 h2
    | ok v => obtain ⟨⟨s, h1, h2, rfl⟩, hp⟩ := h.ok hx; exact Res.of_ok hx h1 h2 (k _ hp)
theorem Res.congr {α : Type} {en : Int} {st0 st1 : St} {x y : List KT → PR α} {P : α → Prop} (h : Res en st0 x st1 P) (e : ∀ r, x r = y r) : Res en st0 y st1 P := by
  obtain rfl : x = y := funext e
  exact h
/-- one thing behind another -/
theorem Res.bind {α β : Type} {en : Int} {st0 st1 st2 : St} {x : List KT → PR α} {P : α → Prop} {g : α → List KT → PR β} {Q : β → Prop}
    (h : Res en st0 x st1 P) (k : ∀ u, P u → Res en st1 (g u) st2 Q) (kd : ∀ e, st1 = .error e → st2 = .error e) : Res en st0 (fun r => (x r).bind fun v => g v.1 v.2) st2 Q := by
  cases st0 with
  | error e => exact kd e h
  | ok r =>
    cases hx : x (r.map ktI) with
    | error e =>
      obtain ⟨s, h1, h2, h3⟩ := h.err hx
      rw [kd _ h3]
      exact Res.of_err (show ((x (r.map ktI)).bind fun v => g v.1 v.2) = _ by rw [hx]; rfl) h1 h2
    | ok v =>
      obtain ⟨⟨s, h1, h2, h3⟩, hp⟩ := h.ok hx
      have hk := k _ hp
      subst h3
      have hb : ((x (r.map ktI)).bind fun v => g v.1 v.2) = g v.1 (s.map ktI) := by rw [hx, h2]; rfl
      cases hy : g v.1 (s.map ktI) with
      | error e =>
        obtain ⟨s2, g1, g2, rfl⟩ := hk.err hy
        exact Res.of_err (hb.trans hy) (g1.trans h1) g2
      | ok u =>
        obtain ⟨⟨s2, g1, g2, rfl⟩, hq⟩ := hk.ok hy
        exact Res.of_ok (hb.trans hy) (g1.trans h1) g2 hq
/-- .. where what comes behind is one thing, whatever was read -/
theorem Res.seq {α β : Type} {en : Int} {st0 st1 st2 : St} {x : List KT → PR α} {P : α → Prop} {g : List KT → PR β} {Q : β → Prop}
    (h : Res en st0 x st1 P) (k : Res en st1 g st2 Q) : Res en st0 (fun r => (x r).bind fun v => (g v.2).bind fun u => .ok ((v.1, u.1), u.2)) st2 (fun y => P y.1 ∧ Q y.2) := by
  refine Res.bind (g := fun a r => (g r).bind fun u => .ok ((a, u.1), u.2)) h (fun u hu => ?_) (fun e he => k.dead he)
  cases st1 with
  | error e => exact k
  | ok r =>
    cases hy : g (r.map ktI) with
    | error e =>
      obtain ⟨s2, g1, g2, rfl⟩ := k.err hy
      exact Res.of_err (show ((g (r.map ktI)).bind _ = _) by rw [hy]; rfl) g1 g2
    | ok v =>
      obtain ⟨⟨s2, g1, g2, rfl⟩, hq⟩ := k.ok hy
      exact Res.of_ok (show ((g (r.map ktI)).bind _ = _) by rw [hy]; rfl) g1 g2 ⟨hu, hq⟩
/-- nothing more is done, but what was read is turned -/
theorem Res.map {α β : Type} {en : Int} {st0 st1 : St} {x : List KT → PR α} {P : α → Prop} {f : α → β} {Q : β → Prop} (h : Res en st0 x st1 P) (k : ∀ u, P u → Q (f u)) : Res en st0 (fun r => (x r).bind fun v => .ok (f v.1, v.2)) st1 Q := by
  cases st0 with
  | error e => exact h
  | ok r =>
    cases hx : x (r.map ktI) with
    | error e => obtain ⟨s, h1, h2, rfl⟩ := h.err hx; exact Res.of_err (show ((x (r.map ktI)).bind _ = _) by rw [hx]; rfl) h1 h2
    | ok v => obtain ⟨⟨s, h1, h2, rfl⟩, hp⟩ := h.ok hx; exact Res.of_ok (show ((x (r.map ktI)).bind _ = _) by rw [hx]; rfl) h1 h2 (k _ hp)
/-- a token of that text, and nothing of it -/
def wantP (s : List UInt8) (r : List KT) : PR Unit := (wantL s r).bind fun z => .ok ((), z)
theorem want_bind {β : Type} (s : List UInt8) (r : List KT) (g : List KT → Except (List KT × Int) β) : (wantL s r).bind g = (wantP s r).bind fun v => g v.2 := by
  unfold wantP
  cases wantL s r with
  | error e => rfl
  | ok z => rfl
theorem Res.pure {α : Type} {en : Int} {st : St} {a : α} {P : α → Prop} (h : P a) : Res en st (fun r => .ok (a, r)) st P := by
  cases st with
  | error e => exact Res.of_dead e
  | ok r => exact Res.of_ok rfl List.suffix_rfl rfl h
/-- is this word, or this sign, next? -/
def tookB (st : St) (s : List UInt8) : Bool := match st with
  | .error _ => false
  | .ok r => decide (peekL (r.map ktI) = s)
def tookS (st : St) (s : List UInt8) : St := match st with
  | .error e => .error e
  | .ok r => if peekL (r.map ktI) = s then .ok r.tail else .ok r
theorem map_tail (r : List TI) : (r.map ktI).tail = r.tail.map ktI := by cases r <;> rfl
theorem tail_suf (r : List TI) : r.tail <:+ r := List.tail_suffix r
/-- the token that is next -/
def hereF (en : Int) : St → TI
  | .ok (t :: _) => t
  | _ => ⟨0, [], en⟩
theorem here_plc (en : Int) (r : List TI) : (hereF en (.ok r)).at_ = plc en r := by cases r <;> rfl
/-- a fault, if there was none -/
def failS (st : St) (pl er : Int) : St := match st with
  | .error e => .error e
  | .ok _ => .error (pl, er)
/-- nothing more is there -/
def overP (r : List KT) : PR Unit := if r = [] then .ok ((), r) else .error (r, 4)
/-- a NAME, and behind it -/
def nameQ (r : List KT) : PR (List UInt8) := (nameP r).bind fun x => .ok (x.1, r.tail)
end Go.Proofs.YtjcanodnlnodpaaGreatDoor.Parse
/- Members and first tokens, with fuel enough. No program stands in it. -/
namespace Go.Proofs.YtjcanodnlnodpaaGreatDoor.Parse
open Go.Proofs.YtjcanodnlnodpaaGreatDoor.Token Go.Proofs.YtjcanodnlnodpaaGreatDoor.Expr Go.Proofs.YtjcanodnlnodpaaGreatDoor.Calc
set_option linter.unusedVariables false
set_option linter.unusedSimpArgs false

theorem nameP_ne {r : List KT} {x : List UInt8 × List KT} (h : nameP r = .ok x) : r ≠ [] := fun e => by rw [e] at h; cases h
theorem enum_same : ∀ (n f f' : Nat) (acc : List (List UInt8)) (r : List KT), r.length < f → r.length < f' → f ≤ n → f' ≤ n → enumP f acc r = enumP f' acc r := by
  intro n
  induction n with
  | zero => intro f f' acc r h1 _ h3; omega
  | succ n ih =>
    intro f f' acc r h1 h2 h3 h4
    obtain ⟨g, rfl⟩ : ∃ g, f = g + 1 := ⟨f - 1, by omega⟩
    obtain ⟨g', rfl⟩ : ∃ g', f' = g' + 1 := ⟨f' - 1, by omega⟩
    rw [enumP.eq_2, enumP.eq_2]
    refine bind_eq rfl fun x hx => ?_
    have hne := nameP_ne hx
    split
    · rename_i hp
      have ht := tail_len hp (by decide)
      have hr : r.tail.length + 1 = r.length := by cases r with | nil => exact absurd rfl hne | cons t r => rfl
      exact ih g g' _ _ (by omega) (by omega) (by omega) (by omega)
    · rfl
/-- members, with fuel enough -/
def enumR (acc : List (List UInt8)) (r : List KT) : PR (List (List UInt8)) := enumP (r.length + 1) acc r
theorem enum_R (f : Nat) (acc : List (List UInt8)) (r : List KT) (h : r.length < f) : enumP f acc r = enumR acc r := enum_same (max f (r.length + 1)) f _ acc r h (by omega) (by omega) (by omega)
/-- what follows a member -/
def enumT (acc : List (List UInt8)) (r : List KT) : PR (List (List UInt8)) := if peekL r = [44] then enumR acc r.tail else .ok (acc, r)
theorem enumR_eq (acc : List (List UInt8)) (r : List KT) : enumR acc r = (nameQ r).bind fun v => enumT (acc ++ [v.1]) v.2 := by
  unfold enumR nameQ
  rw [enumP.eq_2]
  cases hx : nameP r with
  | error e => rfl
  | ok x =>
    have hne := nameP_ne hx
    have hr : r.tail.length + 1 = r.length := by cases r with | nil => exact absurd rfl hne | cons t r => rfl
    show (if peekL r.tail = [44] then enumP r.length (acc ++ [x.1]) r.tail.tail else .ok (acc ++ [x.1], r.tail)) = enumT (acc ++ [x.1]) r.tail
    unfold enumT
    split
    · rename_i hp
      have ht := tail_len hp (by decide)
      exact enum_R _ _ _ (by omega)
    · rfl
end Go.Proofs.YtjcanodnlnodpaaGreatDoor.Parse
/- First tokens of a place: how rows are gathered. No program stands in it. -/
namespace Go.Proofs.YtjcanodnlnodpaaGreatDoor.Parse
open Go.Proofs.YtjcanodnlnodpaaGreatDoor.Token Go.Proofs.YtjcanodnlnodpaaGreatDoor.Expr Go.Proofs.YtjcanodnlnodpaaGreatDoor.Calc
set_option linter.unusedVariables false
set_option linter.unusedSimpArgs false

abbrev Row := Int × Int
/-- how many there are of a member, all rows together -/
def totF : List Row → Int → Int
  | [], _ => 0
  | x :: l, m => (if x.1 = m then x.2 else 0) + totF l m
theorem tot_perm {l l' : List Row} (h : List.Perm l l') (m : Int) : totF l m = totF l' m := by
  induction h with
  | nil => rfl
  | cons x _ ih => unfold totF; rw [ih]
  | swap x y l => unfold totF; unfold totF; omega
  | trans _ _ h1 h2 => exact h1.trans h2
theorem tot_snoc (l : List Row) (x : Row) (m : Int) : totF (l ++ [x]) m = totF l m + if x.1 = m then x.2 else 0 := by
  induction l with
  | nil => show (if x.1 = m then x.2 else 0) + 0 = 0 + _; omega
  | cons y l ih => show (if y.1 = m then y.2 else 0) + totF (l ++ [x]) m = (if y.1 = m then y.2 else 0) + totF l m + _; rw [ih]; omega
theorem tot_nonneg {l : List Row} (h : ∀ x ∈ l, 0 ≤ x.2) (m : Int) : 0 ≤ totF l m := by
  induction l with
  | nil => exact Int.le_refl _
  | cons y l ih =>
    have h1 := h y (by simp)
    have h2 := ih fun x hx => h x (by simp [hx])
    show 0 ≤ (if y.1 = m then y.2 else 0) + totF l m
    split <;> omega
def fewC (x : Row) : Row := (x.1, min x.2 1048576)
theorem tot_cap {l : List Row} (h : ∀ x ∈ l, 0 ≤ x.2) (m : Int) : min (totF (l.map fewC) m) 1048576 = min (totF l m) 1048576 := by
  induction l with
  | nil => rfl
  | cons y l ih =>
    have h1 := h y (by simp)
    have h2 := ih fun x hx => h x (by simp [hx])
    have h3 := tot_nonneg (fun x hx => h x (by simp [hx]) : ∀ x ∈ l, 0 ≤ x.2) m
    have h4 := tot_nonneg (l := l.map fewC) (fun x hx => by
      obtain ⟨z, hz, rfl⟩ := List.mem_map.1 hx
      have := h z (by simp [hz])
      show 0 ≤ min z.2 1048576
      omega) m
    show min ((if y.1 = m then min y.2 1048576 else 0) + totF (l.map fewC) m) 1048576 = min ((if y.1 = m then y.2 else 0) + totF l m) 1048576
    split <;> omega
/-- one row more, as the document adds it -/
def stepP (acc : List Row) (x : Row) : List Row := if 0 < x.2 then addP acc x.1 x.2 else acc
theorem addP_mem {rs : List Row} {m k : Int} {s : Row} (h : s ∈ addP rs m k) : s.1 = m ∨ ∃ r ∈ rs, r.1 = s.1 := by
  induction rs with
  | nil => unfold addP at h; rw [List.mem_singleton] at h; exact .inl (by rw [h])
  | cons x l ih =>
    unfold addP at h
    split at h
    · rename_i hx
      rcases List.mem_cons.1 h with h | h
      · exact .inl (by rw [h])
      · exact .inr ⟨s, by simp [h], rfl⟩
    · split at h
      · rcases List.mem_cons.1 h with h | h
        · exact .inl (by rw [h])
        · exact .inr ⟨s, by simpa using h, rfl⟩
      · rcases List.mem_cons.1 h with h | h
        · exact .inr ⟨x, by simp, by rw [h]⟩
        · rcases ih h with h | ⟨r, hr, e⟩
          · exact .inl h
          · exact .inr ⟨r, by simp [hr], e⟩
theorem addP_right {rs : List Row} {m k : Int} (h : Bag.RightP rs) (hm : 0 ≤ m) (hk : 0 < k) : Bag.RightP (addP rs m k) ∧ ∀ x, Bag.cntF (addP rs m k) x = if x = m then min (Bag.cntF rs m + k) 1048576 else Bag.cntF rs x := by
  induction rs with
  | nil =>
    unfold addP
    refine ⟨Bag.right_cons_mk Bag.right_nil ⟨hm, by show 1 ≤ min k 1048576; omega, by show min k 1048576 ≤ _; omega⟩ (fun s hs => by cases hs), fun x => ?_⟩
    show (if m = x then min k 1048576 else 0) = if x = m then min (0 + k) 1048576 else 0
    by_cases e : x = m
    · rw [if_pos e, if_pos e.symm]; omega
    · rw [if_neg e, if_neg fun e' => e e'.symm]
  | cons y l ih =>
    obtain ⟨hl, hy, hlt⟩ := Bag.right_cons h
    obtain ⟨i1, i2⟩ := ih hl
    unfold addP
    by_cases h1 : y.1 = m
    · rw [if_pos h1]
      refine ⟨Bag.right_cons_mk hl ⟨hm, by show 1 ≤ min (y.2 + k) 1048576; omega, by show min (y.2 + k) 1048576 ≤ _; omega⟩ (fun s hs => by have := hlt s hs; show m < _; omega), fun x => ?_⟩
      show (if m = x then min (y.2 + k) 1048576 else Bag.cntF l x) = if x = m then min ((if y.1 = m then y.2 else Bag.cntF l m) + k) 1048576 else (if y.1 = x then y.2 else Bag.cntF l x)
      rw [if_pos h1]
      by_cases e : x = m
      · rw [if_pos e, if_pos e.symm]
      · rw [if_neg e, if_neg fun e' => e e'.symm, if_neg (by omega)]
    · rw [if_neg h1]
      by_cases h2 : m < y.1
      · rw [if_pos h2]
        have h0 : Bag.cntF (y :: l) m = 0 := Bag.cntF_not fun r hr => by
          rcases List.mem_cons.1 hr with rfl | hr
          · omega
          · have := hlt r hr; omega
        refine ⟨Bag.right_cons_mk h ⟨hm, by show 1 ≤ min k 1048576; omega, by show min k 1048576 ≤ _; omega⟩ (fun s hs => by
          show m < s.1
          rcases List.mem_cons.1 hs with rfl | hs
          · exact h2
          · have := hlt s hs; omega), fun x => ?_⟩
        rw [h0]
        show (if m = x then min k 1048576 else Bag.cntF (y :: l) x) = _
        by_cases e : x = m
        · rw [if_pos e, if_pos e.symm]; omega
        · rw [if_neg e, if_neg fun e' => e e'.symm]
      · rw [if_neg h2]
        refine ⟨Bag.right_cons_mk i1 hy (fun s hs => ?_), fun x => ?_⟩
        · rcases addP_mem hs with e | ⟨r, hr, e⟩
          · omega
          · have := hlt r hr; omega
        · show (if y.1 = x then y.2 else Bag.cntF (addP l m k) x) = if x = m then min ((if y.1 = m then y.2 else Bag.cntF l m) + k) 1048576 else (if y.1 = x then y.2 else Bag.cntF l x)
          rw [if_neg h1, i2 x]
          by_cases e : x = m
          · rw [if_pos e, if_pos e, if_neg (by omega)]
          · rw [if_neg e, if_neg e]
/-- all rows, one by one -/
def allP (l : List Row) : List Row := l.foldl stepP []
theorem all_has (l : List Row) (h : ∀ x ∈ l, 0 ≤ x.1 ∧ 0 ≤ x.2) : Bag.RightP (allP l) ∧ ∀ m, Bag.cntF (allP l) m = min (totF l m) 1048576 := by
  have key : ∀ (l acc done : List Row), (∀ x ∈ l, 0 ≤ x.1 ∧ 0 ≤ x.2) → (∀ x ∈ done, 0 ≤ x.2) → Bag.RightP acc → (∀ m, Bag.cntF acc m = min (totF done m) 1048576) → Bag.RightP (l.foldl stepP acc) ∧ ∀ m, Bag.cntF (l.foldl stepP acc) m = min (totF (done ++ l) m) 1048576 := by
    intro l
    induction l with
    | nil => intro acc done _ _ h1 h2; rw [List.append_nil]; exact ⟨h1, h2⟩
    | cons x l ih =>
      intro acc done hl hd h1 h2
      have hx := hl x (by simp)
      have e : done ++ x :: l = (done ++ [x]) ++ l := by simp
      rw [e]
      have hd' : ∀ y ∈ done ++ [x], 0 ≤ y.2 := fun y hy => by
        rcases List.mem_append.1 hy with hy | hy
        · exact hd y hy
        · rw [List.mem_singleton] at hy; subst hy; exact hx.2
      show Bag.RightP (l.foldl stepP (stepP acc x)) ∧ _
      refine ih (stepP acc x) (done ++ [x]) (fun y hy => hl y (by simp [hy])) hd' ?_ ?_
      · unfold stepP
        split
        · rename_i hp; exact (addP_right h1 hx.1 hp).1
        · exact h1
      · intro m
        have ht := tot_nonneg hd m
        rw [tot_snoc]
        unfold stepP
        split
        · rename_i hp
          rw [(addP_right h1 hx.1 hp).2 m]
          by_cases e : m = x.1
          · rw [if_pos e, if_pos e.symm, h2, ← e]; omega
          · rw [if_neg e, if_neg fun e' => e e'.symm, h2]; omega
        · rename_i hp
          rw [h2]
          have hx2 := hx.2
          by_cases e : x.1 = m
          · rw [if_pos e]; omega
          · rw [if_neg e]; omega
  have := key l [] [] h (fun x hx => by cases hx) Bag.right_nil (fun m => rfl)
  exact this
/-- one row more, as the program gathers rows in order -/
def gstep (b : List Row) (x : Row) : List Row := if x.2 = 0 then b else if 0 < b.length ∧ (b.getD (b.length - 1) (0, 0)).1 = x.1 then b.take (b.length - 1) ++ [(x.1, min ((b.getD (b.length - 1) (0, 0)).2 + x.2) 1048576)] else b ++ [x]
def gatherL (l : List Row) : List Row := l.foldl gstep []
theorem take_snoc0 {α : Type} {l : List α} {k : Nat} (d : α) (h : k < l.length) : l.take (k + 1) = l.take k ++ [l.getD k d] := by
  rw [List.take_succ_eq_append_getElem h, List.getD_eq_getElem?_getD, List.getElem?_eq_getElem h]; rfl
theorem snoc_split (b : List Row) (h : 0 < b.length) : b = b.take (b.length - 1) ++ [b.getD (b.length - 1) (0, 0)] := by
  have := take_snoc0 (l := b) (k := b.length - 1) (0, 0) (by omega)
  rw [show b.length - 1 + 1 = b.length by omega, List.take_length] at this
  exact this
theorem right_snoc {b : List Row} {x : Row} : Bag.RightP (b ++ [x]) ↔ Bag.RightP b ∧ (0 ≤ x.1 ∧ 1 ≤ x.2 ∧ x.2 ≤ 1048576) ∧ ∀ s ∈ b, s.1 < x.1 := by
  unfold Bag.RightP
  rw [List.pairwise_append]
  constructor
  · rintro ⟨⟨h1, h2, h3⟩, h4⟩
    exact ⟨⟨h1, fun r hr => h4 r (by simp [hr])⟩, h4 x (by simp), fun s hs => h3 s hs x (by simp)⟩
  · rintro ⟨⟨h1, h2⟩, h3, h4⟩
    refine ⟨⟨h1, by simp, fun a ha c hc => by rw [List.mem_singleton] at hc; subst hc; exact h4 a ha⟩, fun r hr => ?_⟩
    rcases List.mem_append.1 hr with hr | hr
    · exact h2 r hr
    · rw [List.mem_singleton] at hr; subst hr; exact h3
theorem gather_has (l : List Row) (h : ∀ x ∈ l, 0 ≤ x.1 ∧ 0 ≤ x.2 ∧ x.2 ≤ 1048576) (hs : l.Pairwise fun x y => x.1 ≤ y.1) : Bag.RightP (gatherL l) ∧ ∀ m, Bag.cntF (gatherL l) m = min (totF l m) 1048576 := by
  have key : ∀ (l b done : List Row), (∀ x ∈ l, 0 ≤ x.1 ∧ 0 ≤ x.2 ∧ x.2 ≤ 1048576) → (∀ x ∈ done, 0 ≤ x.2) → l.Pairwise (fun x y => x.1 ≤ y.1) → (∀ s ∈ b, ∀ x ∈ l, s.1 ≤ x.1) → Bag.RightP b → (∀ m, Bag.cntF b m = min (totF done m) 1048576) → Bag.RightP (l.foldl gstep b) ∧ ∀ m, Bag.cntF (l.foldl gstep b) m = min (totF (done ++ l) m) 1048576 := by
    intro l
    induction l with
    | nil => intro b done _ _ _ _ h1 h2; rw [List.append_nil]; exact ⟨h1, h2⟩
    | cons x l ih =>
      intro b done hl hd hp hle h1 h2
      have hx := hl x (by simp)
      rw [List.pairwise_cons] at hp
      have e : done ++ x :: l = (done ++ [x]) ++ l := by simp
      rw [e]
      have hd' : ∀ y ∈ done ++ [x], 0 ≤ y.2 := fun y hy => by
        rcases List.mem_append.1 hy with hy | hy
        · exact hd y hy
        · rw [List.mem_singleton] at hy; subst hy; exact hx.2.1
      have hb : ∀ s ∈ b, ∀ y ∈ l, s.1 ≤ y.1 := fun s hs y hy => hle s hs y (by simp [hy])
      show Bag.RightP (l.foldl gstep (gstep b x)) ∧ ∀ m, Bag.cntF (l.foldl gstep (gstep b x)) m = _
      have ht := fun m => tot_nonneg hd m
      by_cases h0 : x.2 = 0
      · rw [show gstep b x = b from if_pos h0]
        refine ih b (done ++ [x]) (fun y hy => hl y (by simp [hy])) hd' hp.2 hb h1 fun m => ?_
        rw [h2, tot_snoc]
        split <;> omega
      · have hE : gstep b x = if 0 < b.length ∧ (b.getD (b.length - 1) (0, 0)).1 = x.1 then b.take (b.length - 1) ++ [(x.1, min ((b.getD (b.length - 1) (0, 0)).2 + x.2) 1048576)] else b ++ [x] := if_neg h0
        rw [hE]
        clear hE
        by_cases hg : 0 < b.length ∧ (b.getD (b.length - 1) (0, 0)).1 = x.1
        · rw [if_pos hg]
          have hsp := snoc_split b hg.1
          obtain ⟨c, hc⟩ : ∃ c, c = b.getD (b.length - 1) (0, 0) := ⟨_, rfl⟩
          obtain ⟨b0, hb0⟩ : ∃ b0, b0 = b.take (b.length - 1) := ⟨_, rfl⟩
          rw [← hc, ← hb0] at hsp ⊢
          rw [← hc] at hg
          have hr := h1
          rw [hsp, right_snoc] at hr
          obtain ⟨r1, r2, r3⟩ := hr
          have hcnt : ∀ m, Bag.cntF b m = if m = c.1 then c.2 else Bag.cntF b0 m := fun m => by rw [hsp]; exact Bag.cntF_snoc m fun s hs => by have := r3 s hs; omega
          refine ih _ (done ++ [x]) (fun y hy => hl y (by simp [hy])) hd' hp.2 ?_ ?_ fun m => ?_
          · intro s hs y hy
            rcases List.mem_append.1 hs with hs | hs
            · exact hb s (by rw [hsp]; simp [hs]) y hy
            · rw [List.mem_singleton] at hs; subst hs; exact hp.1 y hy
          · rw [right_snoc]
            exact ⟨r1, ⟨hx.1, by show 1 ≤ min (c.2 + x.2) 1048576; omega, by show min (c.2 + x.2) 1048576 ≤ _; omega⟩, fun s hs => by have := r3 s hs; show s.1 < x.1; omega⟩
          · rw [Bag.cntF_snoc m (r := (x.1, min (c.2 + x.2) 1048576)) (fun s hs => by have := r3 s hs; show s.1 ≠ x.1; omega)]
            rw [tot_snoc]
            have hm := h2 m
            rw [hcnt m] at hm
            have := ht m
            show (if m = x.1 then min (c.2 + x.2) 1048576 else Bag.cntF b0 m) = _
            by_cases e : m = x.1
            · rw [if_pos e, if_pos e.symm]
              rw [if_pos (by omega)] at hm
              omega
            · rw [if_neg e, if_neg fun e' => e e'.symm]
              rw [if_neg (by omega)] at hm
              omega
        · rw [if_neg hg]
          have hlt : ∀ s ∈ b, s.1 < x.1 := fun s hs => by
            have h3 : 0 < b.length := List.length_pos_of_mem hs
            have h4 : (b.getD (b.length - 1) (0, 0)).1 ≠ x.1 := fun e' => hg ⟨h3, e'⟩
            have hsp := snoc_split b h3
            obtain ⟨c, hc⟩ : ∃ c, c = b.getD (b.length - 1) (0, 0) := ⟨_, rfl⟩
            rw [← hc] at hsp h4
            have hr := h1
            rw [hsp, right_snoc] at hr
            have hcx : c.1 ≤ x.1 := hle c (by rw [hsp]; simp) x (by simp)
            have hs' := hs
            rw [hsp] at hs'
            rcases List.mem_append.1 hs' with hs' | hs'
            · have := hr.2.2 s hs'; omega
            · rw [List.mem_singleton] at hs'; subst hs'; omega
          refine ih _ (done ++ [x]) (fun y hy => hl y (by simp [hy])) hd' hp.2 ?_ ?_ fun m => ?_
          · intro s hs y hy
            rcases List.mem_append.1 hs with hs | hs
            · exact hb s hs y hy
            · rw [List.mem_singleton] at hs; subst hs; exact hp.1 y hy
          · rw [right_snoc]
            exact ⟨h1, ⟨hx.1, by omega, hx.2.2⟩, hlt⟩
          · rw [Bag.cntF_snoc m fun s hs => by have := hlt s hs; omega, tot_snoc, h2 m]
            have := ht m
            have h0' : totF done x.1 = 0 := by
              have hz : Bag.cntF b x.1 = 0 := Bag.cntF_not fun r hr => by have := hlt r hr; omega
              rw [h2] at hz
              have := ht x.1
              omega
            by_cases e : m = x.1
            · rw [if_pos e, if_pos e.symm, e, h0']; omega
            · rw [if_neg e, if_neg fun e' => e e'.symm]; omega
  exact key l [] [] h (fun x hx => by cases hx) hs (fun s hs => by cases hs) Bag.right_nil (fun m => rfl)
/-- rows in whatever order, cut at the greatest count, then put in order and gathered: what the document adds up -/
theorem gather_all {l l' : List Row} (h : ∀ x ∈ l, 0 ≤ x.1 ∧ 0 ≤ x.2) (hp : List.Perm (l.map fewC) l') (hs : l'.Pairwise fun x y => x.1 ≤ y.1) : gatherL l' = allP l := by
  have hm : ∀ x ∈ l', 0 ≤ x.1 ∧ 0 ≤ x.2 ∧ x.2 ≤ 1048576 := fun x hx => by
    obtain ⟨z, hz, rfl⟩ := List.mem_map.1 (hp.mem_iff.2 hx)
    have := h z hz
    exact ⟨this.1, by show 0 ≤ min z.2 1048576; omega, by show min z.2 1048576 ≤ _; omega⟩
  obtain ⟨g1, g2⟩ := gather_has l' hm hs
  obtain ⟨a1, a2⟩ := all_has l h
  refine Bag.right_ext g1 a1 fun m => ?_
  rw [g2, a2, ← tot_perm hp, tot_cap fun x hx => (h x hx).2]
/-- the rows that are read, one behind the other -/
def fewQ (r : List KT) : PR Row := (numP r).bind fun m => (if peekL m.2 = [42] then numP m.2.tail else (.ok (1, m.2) : PR Int)).bind fun k => .ok ((m.1, k.1), k.2)
def fewsP : Nat → List Row → List KT → PR (List Row)
  | 0, _, r => .error (r, 0)
  | f + 1, acc, r => (fewQ r).bind fun x => if peekL x.2 = [44] then fewsP f (acc ++ [x.1]) x.2.tail else .ok (acc ++ [x.1], x.2)
theorem first_few : ∀ (f : Nat) (acc : List Row) (r : List KT), firstP f (allP acc) r = (fewsP f acc r).bind fun x => .ok (allP x.1, x.2) := by
  intro f
  induction f with
  | zero => intro acc r; rfl
  | succ f ih =>
    intro acc r
    rw [firstP.eq_2, fewsP.eq_2]
    unfold fewQ
    cases numP r with
    | error e => rfl
    | ok m =>
      show ((if peekL m.2 = [42] then numP m.2.tail else (.ok (1, m.2) : PR Int)).bind fun k => _) = ((((if peekL m.2 = [42] then numP m.2.tail else (.ok (1, m.2) : PR Int)).bind fun k => (.ok ((m.1, k.1), k.2) : PR Row))).bind _).bind _
      cases (if peekL m.2 = [42] then numP m.2.tail else (.ok (1, m.2) : PR Int)) with
      | error e => rfl
      | ok k =>
        have e : (if 0 < k.1 then addP (allP acc) m.1 k.1 else allP acc) = allP (acc ++ [(m.1, k.1)]) := by
          unfold allP; rw [List.foldl_append]; rfl
        show (if peekL k.2 = [44] then firstP f (if 0 < k.1 then addP (allP acc) m.1 k.1 else allP acc) k.2.tail else .ok ((if 0 < k.1 then addP (allP acc) m.1 k.1 else allP acc), k.2)) = ((if peekL k.2 = [44] then fewsP f (acc ++ [(m.1, k.1)]) k.2.tail else .ok (acc ++ [(m.1, k.1)], k.2)) : PR (List Row)).bind _
        rw [e]
        split
        · exact ih _ _
        · rfl
theorem numP_less {r : List KT} {x : Int × List KT} (h : numP r = .ok x) : x.2.length < r.length := by
  cases r with
  | nil => cases h
  | cons t r =>
    have h : (if t.1 = 2 ∧ numB t.2 = true then (.ok ((valL 0 t.2 : Int), r) : PR Int) else .error (t :: r, 4)) = .ok x := h
    split at h
    · injection h with h; rw [← h]; simp
    · cases h
theorem fewQ_less {r : List KT} {x : Row × List KT} (h : fewQ r = .ok x) : x.2.length < r.length := by
  unfold fewQ at h
  cases h1 : numP r with
  | error e => rw [h1] at h; cases h
  | ok m =>
    rw [h1] at h
    have hm := numP_less h1
    have h : ((if peekL m.2 = [42] then numP m.2.tail else (.ok (1, m.2) : PR Int)).bind fun k => (.ok ((m.1, k.1), k.2) : PR Row)) = .ok x := h
    split at h
    · cases h2 : numP m.2.tail with
      | error e => rw [h2] at h; cases h
      | ok k =>
        rw [h2] at h
        have hk := numP_less h2
        injection h with h
        rw [← h]
        have : m.2.tail.length ≤ m.2.length := by simp
        show k.2.length < _
        omega
    · injection h with h; rw [← h]; exact hm
theorem fews_same : ∀ (n f f' : Nat) (acc : List Row) (r : List KT), r.length < f → r.length < f' → f ≤ n → f' ≤ n → fewsP f acc r = fewsP f' acc r := by
  intro n
  induction n with
  | zero => intro f f' acc r h1 _ h3; omega
  | succ n ih =>
    intro f f' acc r h1 h2 h3 h4
    obtain ⟨g, rfl⟩ : ∃ g, f = g + 1 := ⟨f - 1, by omega⟩
    obtain ⟨g', rfl⟩ : ∃ g', f' = g' + 1 := ⟨f' - 1, by omega⟩
    rw [fewsP.eq_2, fewsP.eq_2]
    refine bind_eq rfl fun x hx => ?_
    have hl := fewQ_less hx
    split
    · have : x.2.tail.length ≤ x.2.length := by simp
      exact ih g g' _ _ (by omega) (by omega) (by omega) (by omega)
    · rfl
/-- rows, with fuel enough -/
def fewsR (acc : List Row) (r : List KT) : PR (List Row) := fewsP (r.length + 1) acc r
def fewsT (acc : List Row) (r : List KT) : PR (List Row) := if peekL r = [44] then fewsR acc r.tail else .ok (acc, r)
theorem fewsR_eq (acc : List Row) (r : List KT) : fewsR acc r = (fewQ r).bind fun v => fewsT (acc ++ [v.1]) v.2 := by
  unfold fewsR
  rw [fewsP.eq_2]
  refine bind_eq rfl fun x hx => ?_
  have hl := fewQ_less hx
  unfold fewsT
  split
  · have : x.2.tail.length ≤ x.2.length := by simp
    exact fews_same (max r.length (x.2.tail.length + 1)) _ _ _ _ (by omega) (by omega) (by omega) (by omega)
  · rfl
/-- what a place has from the beginning on -/
def fromP (r : List KT) : PR (List Row) := if peekL r = [61] then fewsR [] r.tail else .ok ([], r)
theorem first_from (r : List KT) : (if peekL r = [61] then firstP (r.length + 1) [] r.tail else (.ok ([], r) : PR (List Row))) = (fromP r).bind fun x => .ok (allP x.1, x.2) := by
  unfold fromP
  split
  · rename_i hp
    have ht := tail_len hp (by decide)
    rw [show firstP (r.length + 1) [] r.tail = firstP (r.length + 1) (allP []) r.tail from rfl, first_few]
    rw [show fewsP (r.length + 1) [] r.tail = fewsR [] r.tail from fews_same (r.length + 1) _ _ _ _ (by omega) (by omega) (by omega) (by omega)]
  · rfl
end Go.Proofs.YtjcanodnlnodpaaGreatDoor.Parse
/- What is read is right: expressions. No program stands in it. -/
namespace Go.Proofs.YtjcanodnlnodpaaGreatDoor.Parse
open Go.Proofs.YtjcanodnlnodpaaGreatDoor.Token Go.Proofs.YtjcanodnlnodpaaGreatDoor.Expr Go.Proofs.YtjcanodnlnodpaaGreatDoor.Calc
set_option linter.unusedVariables false
set_option linter.unusedSimpArgs false

theorem okE_leaf {v : Nat} {k n : Int} (h : okN v k n 0) : okE v ⟨k, n, []⟩ := by rw [ok_eq]; exact ⟨h, fun p hp => by cases hp⟩
theorem okE_one {v : Nat} {k : Int} {t : Ex} (hk : k = 3 ∨ k = 4) (h : okE v t) : okE v ⟨k, 0, [t]⟩ := by
  rw [ok_eq]
  exact ⟨.inr (.inr (.inl ⟨hk, rfl⟩)), fun p hp => by simp only [List.map_cons, List.map_nil, List.mem_singleton] at hp; rw [hp]; exact h⟩
theorem okE_two {v : Nat} {n : Int} {t u : Ex} (h1 : 1 ≤ n) (h2 : n ≤ 11) (ht : okE v t) (hu : okE v u) : okE v ⟨5, n, [t, u]⟩ := by
  rw [ok_eq]
  exact ⟨.inr (.inr (.inr (.inl ⟨rfl, rfl, h1, h2⟩))), fun p hp => by simp only [List.map_cons, List.map_nil, List.mem_cons, List.not_mem_nil, or_false] at hp; rcases hp with rfl | rfl; exact ht; exact hu⟩
theorem okE_three {v : Nat} {t u x : Ex} (ht : okE v t) (hu : okE v u) (hx : okE v x) : okE v ⟨6, 0, [t, u, x]⟩ := by
  rw [ok_eq]
  exact ⟨.inr (.inr (.inr (.inr ⟨rfl, rfl⟩))), fun p hp => by simp only [List.map_cons, List.map_nil, List.mem_cons, List.not_mem_nil, or_false] at hp; rcases hp with rfl | rfl | rfl; exact ht; exact hu; exact hx⟩
theorem nameAt_lt {names : List (List UInt8)} {s : List UInt8} {k : Nat} (h : nameAt names s = some k) : k < names.length := by
  unfold nameAt at h
  split at h
  · rename_i hm; injection h with h; subst h; exact List.idxOf_lt_length_iff.2 hm
  · cases h
theorem numB_lt {s : List UInt8} (h : numB s = true) : valL 0 s < 9223372036854775808 := by
  unfold numB at h
  simp only [Bool.and_eq_true] at h
  exact of_decide_eq_true h.2
theorem leaf_ok {names : List (List UInt8)} {r : List KT} {x : Ex} {r1 : List KT} (h : leafL names r = .ok (x, r1)) : okE names.length x := by
  cases r with
  | nil => cases h
  | cons t r =>
    rw [leafL.eq_2] at h
    by_cases k1 : t.1 = 2
    · rw [if_pos k1] at h
      by_cases k2 : numB t.2 = true
      · rw [if_pos k2] at h
        have := numB_lt k2
        cases h
        exact okE_leaf (.inl ⟨rfl, rfl, by omega, by omega⟩)
      · rw [if_neg k2] at h; cases h
    · rw [if_neg k1] at h
      by_cases k2 : t.1 = 1 ∧ wordB t.2 = false
      · rw [if_pos k2] at h
        cases k3 : nameAt names t.2 with
        | none => rw [k3] at h; cases h
        | some i =>
          rw [k3] at h
          have := nameAt_lt k3
          cases h
          exact okE_leaf (.inr (.inl ⟨rfl, rfl, by omega, by omega⟩))
      · rw [if_neg k2] at h; cases h
theorem opL_in {s : List UInt8} (h : opL s ≠ 0) : 1 ≤ opL s ∧ opL s ≤ 11 := by
  unfold opL at h ⊢
  split
  · rename_i hm
    have := List.idxOf_lt_length_iff.2 hm
    have hl : opsL.length = 11 := by decide
    omega
  · rename_i hm
    rw [if_neg hm] at h
    exact absurd rfl h
theorem pe_ok {names : List (List UInt8)} : ∀ (f m : Nat) (s : Int) (d : Nat) (e : Ex) (r : List KT) (x : Ex) (r1 : List KT), m ≤ 2 → (m = 2 → okE names.length e) → pe names f m s d e r = .ok (x, r1) → okE names.length x := by
  intro f
  induction f with
  | zero => intro m s d e r x r1 _ _ h; rw [pe.eq_1] at h; cases h
  | succ f ih =>
    intro m s d e r x r1 hm he h
    match m, hm, he, h with
    | 0, _, _, h =>
      rw [pe.eq_2] at h
      by_cases h0 : 40 < d
      · rw [if_pos h0] at h; cases h
      rw [if_neg h0] at h
      by_cases h1 : peekL r = [45]
      · rw [if_pos h1] at h
        obtain ⟨u, hu, hv⟩ := bind_ok h
        have g := ih 0 s (d + 1) e r.tail u.1 u.2 (by omega) (by intro g; cases g) hu
        cases hv
        exact okE_one (.inl rfl) g
      rw [if_neg h1] at h
      by_cases h2 : peekL r = [33]
      · rw [if_pos h2] at h
        obtain ⟨u, hu, hv⟩ := bind_ok h
        have g := ih 0 s (d + 1) e r.tail u.1 u.2 (by omega) (by intro g; cases g) hu
        cases hv
        exact okE_one (.inr rfl) g
      rw [if_neg h2] at h
      by_cases h3 : peekL r = [40]
      · rw [if_pos h3] at h
        obtain ⟨u, hu, hv⟩ := bind_ok h
        obtain ⟨r2, hw, hv⟩ := bind_ok hv
        have g := ih 1 0 (d + 1) e r.tail u.1 u.2 (by omega) (by intro g; cases g) hu
        cases hv
        exact g
      rw [if_neg h3] at h
      by_cases h4 : peekL r = [105, 102]
      · rw [if_pos h4] at h
        obtain ⟨r0, hw0, h⟩ := bind_ok h
        obtain ⟨a, ha, h⟩ := bind_ok h
        obtain ⟨r2, hw2, h⟩ := bind_ok h
        obtain ⟨b, hb, h⟩ := bind_ok h
        obtain ⟨r4, hw4, h⟩ := bind_ok h
        obtain ⟨c, hc, h⟩ := bind_ok h
        obtain ⟨r6, hw6, h⟩ := bind_ok h
        have g1 := ih 1 0 (d + 1) e r0 a.1 a.2 (by omega) (by intro g; cases g) ha
        have g2 := ih 1 0 (d + 1) e r2 b.1 b.2 (by omega) (by intro g; cases g) hb
        have g3 := ih 1 0 (d + 1) e r4 c.1 c.2 (by omega) (by intro g; cases g) hc
        cases h
        exact okE_three g1 g2 g3
      rw [if_neg h4] at h
      exact leaf_ok h
    | 1, _, _, h =>
      rw [pe.eq_3] at h
      obtain ⟨u, hu, hv⟩ := bind_ok h
      exact ih 2 s d u.1 u.2 x r1 (by omega) (fun _ => ih 0 s d e r u.1 u.2 (by omega) (by intro g; cases g) hu) hv
    | 2, _, he, h =>
      rw [pe.eq_4] at h
      by_cases hp : opL (peekL r) ≠ 0 ∧ s < strengthF (opL (peekL r))
      · rw [if_pos hp] at h
        obtain ⟨u, hu, hv⟩ := bind_ok h
        have g := ih 1 _ (d + 1) e r.tail u.1 u.2 (by omega) (by intro g; cases g) hu
        obtain ⟨o1, o2⟩ := opL_in hp.1
        exact ih 2 s d _ u.2 x r1 (by omega) (fun _ => okE_two o1 o2 (he rfl) g) hv
      · rw [if_neg hp] at h
        cases h
        exact he rfl
theorem expr_ok {names : List (List UInt8)} {r : List KT} {x : Ex} {r1 : List KT} (h : exprP names r = .ok (x, r1)) : okE names.length x := by
  unfold exprP peR at h
  exact pe_ok _ 1 0 1 _ r x r1 (by omega) (by intro g; cases g) h
/-- an expression that was read -/
def RdE (t : Ex) : Prop := ∃ v, okE v t
theorem RdE.one (n : Int) (h0 : 0 ≤ n) (h1 : n < 9223372036854775808) : RdE ⟨1, n, []⟩ := ⟨0, okE_leaf (.inl ⟨rfl, rfl, h0, h1⟩)⟩
theorem RdE.len {k n : Int} {ks : List Ex} (h : RdE ⟨k, n, ks⟩) : ks.length ≤ 3 ∧ ∀ x, x ∈ ks → RdE x := by
  obtain ⟨v, h⟩ := h
  rw [ok_eq] at h
  refine ⟨?_, fun x hx => ⟨v, h.2 _ (List.mem_map_of_mem hx)⟩⟩
  obtain ⟨h, -⟩ := h
  unfold okN at h
  omega
def RdT (t : PTask) : Prop := RdE t.guard ∧ (∀ x, x ∈ t.ins → RdE x.2) ∧ ∀ x, x ∈ t.outs → RdE x.2
def RdN (n : PNet) : Prop := ∀ t, t ∈ n.tasks → RdT t
theorem arc_ok {n : PNet} {names : List (List UInt8)} {r : List KT} {u : (Int × Ex) × List KT} (h : arcP n names r = .ok u) : RdE u.1.2 := by
  unfold arcP at h
  obtain ⟨k, _, h⟩ := bind_ok h
  obtain ⟨r1, _, h⟩ := bind_ok h
  obtain ⟨e, he, h⟩ := bind_ok h
  obtain ⟨r2, _, h⟩ := bind_ok h
  cases h
  exact ⟨_, expr_ok he⟩
theorem RdT.none (nm : List UInt8) : RdT ⟨nm, [], ⟨1, 1, []⟩, 1, 1, [], [], [], 0, 0, 0, 0⟩ := ⟨RdE.one 1 (by decide) (by decide), fun x hx => (by cases hx), fun x hx => (by cases hx)⟩
theorem clause_ok {n : PNet} {had : List (List UInt8)} {t : PTask} {r : List KT} {u : PTask × List KT} (h : clauseP n had t r = .ok u) (ht : RdT t) : RdT u.1 := by
  obtain ⟨h1, h2, h3⟩ := ht
  unfold clauseP at h
  by_cases h0 : peekL r ∈ onceL ∧ peekL r ∈ had
  · rw [if_pos h0] at h; cases h
  rw [if_neg h0] at h
  obtain ⟨v, hv, h⟩ := bind_ok h
  obtain ⟨r3, hw, h⟩ := bind_ok h
  cases h
  show RdT v.1
  by_cases c0 : peekL r = [118, 97, 114]
  · rw [if_pos c0] at hv
    obtain ⟨s, _, hv⟩ := bind_ok hv
    obtain ⟨r1, _, hv⟩ := bind_ok hv
    obtain ⟨c, _, hv⟩ := bind_ok hv
    cases hv; exact ⟨h1, h2, h3⟩
  rw [if_neg c0] at hv
  by_cases c1 : peekL r = [119, 104, 101, 110]
  · rw [if_pos c1] at hv
    obtain ⟨e, he, hv⟩ := bind_ok hv
    cases hv; exact ⟨⟨_, expr_ok he⟩, h2, h3⟩
  rw [if_neg c1] at hv
  by_cases c2 : peekL r = [106, 111, 105, 110]
  · rw [if_pos c2] at hv
    obtain ⟨e, he, hv⟩ := bind_ok hv
    cases hv; exact ⟨h1, h2, h3⟩
  rw [if_neg c2] at hv
  by_cases c3 : peekL r = [115, 112, 108, 105, 116]
  · rw [if_pos c3] at hv
    obtain ⟨e, he, hv⟩ := bind_ok hv
    cases hv; exact ⟨h1, h2, h3⟩
  rw [if_neg c3] at hv
  by_cases c4 : peekL r = [105, 110]
  · rw [if_pos c4] at hv
    obtain ⟨a, ha, hv⟩ := bind_ok hv
    cases hv
    refine ⟨h1, fun x hx => ?_, h3⟩
    rcases List.mem_append.1 hx with hx | hx
    · exact h2 x hx
    · rw [List.mem_singleton.1 hx]; exact arc_ok ha
  rw [if_neg c4] at hv
  by_cases c5 : peekL r = [111, 117, 116]
  · rw [if_pos c5] at hv
    obtain ⟨a, ha, hv⟩ := bind_ok hv
    cases hv
    refine ⟨h1, h2, fun x hx => ?_⟩
    rcases List.mem_append.1 hx with hx | hx
    · exact h3 x hx
    · rw [List.mem_singleton.1 hx]; exact arc_ok ha
  rw [if_neg c5] at hv
  by_cases c6 : peekL r = [99, 97, 110, 99, 101, 108]
  · rw [if_pos c6] at hv
    obtain ⟨e, he, hv⟩ := bind_ok hv
    cases hv; exact ⟨h1, h2, h3⟩
  rw [if_neg c6] at hv
  by_cases c7 : peekL r = [97, 102, 116, 101, 114]
  · rw [if_pos c7] at hv
    obtain ⟨e, he, hv⟩ := bind_ok hv
    cases hv; exact ⟨h1, h2, h3⟩
  rw [if_neg c7] at hv
  by_cases c8 : peekL r = [109, 97, 110, 121]
  · rw [if_pos c8] at hv
    obtain ⟨a, ha, hv⟩ := bind_ok hv
    obtain ⟨r1, _, hv⟩ := bind_ok hv
    obtain ⟨b, _, hv⟩ := bind_ok hv
    obtain ⟨r2, _, hv⟩ := bind_ok hv
    obtain ⟨c, _, hv⟩ := bind_ok hv
    cases hv; exact ⟨h1, h2, h3⟩
  rw [if_neg c8] at hv
  cases hv
theorem clauses_ok {n : PNet} : ∀ (f : Nat) (had : List (List UInt8)) (t : PTask) (r : List KT) (u : PTask × List KT), clausesP n f had t r = .ok u → RdT t → RdT u.1
  | 0, had, t, r, u, h, ht => by rw [clausesP.eq_1] at h; cases h
  | f + 1, had, t, r, u, h, ht => by
    rw [clausesP.eq_2] at h
    split at h
    · cases h; exact ht
    · obtain ⟨v, hv, h⟩ := bind_ok h
      exact clauses_ok f _ _ _ u h (clause_ok hv ht)
theorem task_ok {n : PNet} {r : List KT} {u : PTask × List KT} (h : taskP n r = .ok u) : RdT u.1 := by
  unfold taskP at h
  obtain ⟨s, _, h⟩ := bind_ok h
  obtain ⟨r1, _, h⟩ := bind_ok h
  obtain ⟨t, ht, h⟩ := bind_ok h
  obtain ⟨r2, _, h⟩ := bind_ok h
  cases h
  exact clauses_ok _ _ _ _ t ht (RdT.none _)
theorem decls_ok : ∀ (f : Nat) (n : PNet) (r : List KT) (u : PNet × List KT), declsP f n r = .ok u → RdN n → RdN u.1
  | 0, n, r, u, h, hn => by rw [declsP.eq_1] at h; cases h
  | f + 1, n, r, u, h, hn => by
    rw [declsP.eq_2] at h
    split at h
    · cases h; exact hn
    split at h
    · obtain ⟨c, _, h⟩ := bind_ok h
      exact decls_ok f _ _ u h hn
    split at h
    · obtain ⟨c, _, h⟩ := bind_ok h
      exact decls_ok f _ _ u h hn
    split at h
    · obtain ⟨c, hc, h⟩ := bind_ok h
      refine decls_ok f _ _ u h fun t ht => ?_
      rcases List.mem_append.1 ht with ht | ht
      · exact hn t ht
      · rw [List.mem_singleton.1 ht]; exact task_ok hc
    · cases h
theorem net_ok {r : List KT} {n : PNet} (h : netI r = .ok n) : RdN n := by
  unfold netI at h
  obtain ⟨m, hm, h⟩ := bind_ok h
  obtain ⟨r1, _, h⟩ := bind_ok h
  obtain ⟨a, _, h⟩ := bind_ok h
  obtain ⟨r2, _, h⟩ := bind_ok h
  obtain ⟨r3, _, h⟩ := bind_ok h
  obtain ⟨b, _, h⟩ := bind_ok h
  obtain ⟨r4, _, h⟩ := bind_ok h
  split at h
  · cases h
    exact decls_ok _ _ _ m hm fun t ht => by cases ht
  · cases h
end Go.Proofs.YtjcanodnlnodpaaGreatDoor.Parse
