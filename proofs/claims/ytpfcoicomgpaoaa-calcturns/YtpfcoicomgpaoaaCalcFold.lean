/- What calc.Fold, and the document's own answer to it, tell: contracts of the calls, over the turned program. -/
import Derived.Test.YtpfcoicomgpaoaaCalcRDo
import Derived.Deep.Light
import Derived.Handy
namespace Go.Proofs.Ytpfcoicomgpaoaa
open Go.RowKit
set_option linter.unusedVariables false
namespace Calc
/-- an operation, from the left on -/
def foldGo (op n : Int) : List Int → Int × Int
  | [] => (n, 0)
  | b :: r => if (doF op n b).2 = 0 then foldGo op (doF op n b).1 r else (0, (doF op n b).2)
def foldF (op : Int) : List Int → Int × Int
  | [] => (0, 1)
  | n :: r => if knownB op then foldGo op n r else (0, 1)
def Fits (n : Int) : Prop := -9223372036854775808 ≤ n ∧ n ≤ 9223372036854775807
theorem ovf_fits (n : Int) : Fits (ovf n).1 := by
  unfold ovf inR lo hi Fits
  by_cases h : -9223372036854775808 ≤ n ∧ n ≤ 9223372036854775807
  · rw [decide_eq_true h, if_pos rfl]; exact h
  · rw [decide_eq_false h, if_neg (by decide)]; exact ⟨by decide, by decide⟩
theorem bit_fits (p : Bool) : Fits (bit p) := by unfold Fits; cases p <;> decide
theorem do_fits (op a b : Int) (a1 : -9223372036854775808 ≤ a) (a2 : a ≤ 9223372036854775807) : Fits (doF op a b).1 := by
  have z : Fits 0 := by unfold Fits; decide
  rcases op_cases op with h | h | h | h | h | h | h | h | h | h | h | h
  · subst h; exact ovf_fits _
  · subst h; exact ovf_fits _
  · subst h; exact ovf_fits _
  · subst h; rw [do4]; unfold divF; split
    · exact z
    · exact ovf_fits _
  · subst h; rw [do5]; unfold remF; split
    · exact z
    · split
      · exact z
      · exact tmod_range a1 a2
  · subst h; exact bit_fits _
  · subst h; exact bit_fits _
  · subst h; exact bit_fits _
  · subst h; exact bit_fits _
  · subst h; exact bit_fits _
  · subst h; exact bit_fits _
  · rw [do_not _ _ h]; exact z
theorem drop_cons (zs : List Int) (k : Nat) (h : k < zs.length) : zs.drop k = zs.getD k 0 :: zs.drop (k + 1) := by
  rw [List.drop_eq_getElem_cons h, List.getD_eq_getElem?_getD, List.getElem?_eq_getElem h]; rfl
theorem go_ok (op n : Int) (zs : List Int) (k : Nat) (h : k < zs.length) (e : (doF op n (zs.getD k 0)).2 = 0) :
    foldGo op n (zs.drop k) = foldGo op (doF op n (zs.getD k 0)).1 (zs.drop (k + 1)) := by
  rw [drop_cons zs k h]
  simp only [foldGo, e, if_true]
theorem go_err (op n : Int) (zs : List Int) (k : Nat) (h : k < zs.length) (e : ¬ (doF op n (zs.getD k 0)).2 = 0) :
    foldGo op n (zs.drop k) = (0, (doF op n (zs.getD k 0)).2) := by
  rw [drop_cons zs k h]
  simp only [foldGo, e, if_false]
theorem fold_start (op : Int) (zs : List Int) (h : 0 < zs.length) (hk : knownB op = true) : foldF op zs = foldGo op (zs.getD 0 0) (zs.drop 1) := by
  cases zs with
  | nil => simp at h
  | cons n r => simp [foldF, hk]
theorem fold_unknown (op : Int) (zs : List Int) (hk : knownB op = false) : foldF op zs = (0, 1) := by
  cases zs with
  | nil => rfl
  | cons n r => simp [foldF, hk]
theorem go_end (op n : Int) (zs : List Int) (k : Nat) (h : zs.length ≤ k) : foldGo op n (zs.drop k) = (n, 0) := by
  rw [List.drop_eq_nil_of_le h]; rfl

set_option maxHeartbeats 400000 in
theorem fold_none (op : Int) (a : Option Addr) (len cap : Nat) (w : World) (h : knownB op = false ∨ len = 0) :
    Calls Try.prog 21 #[.int .i64 op, .slice a len cap] w fun e w' => e = .returned (.tuple #[.int .i64 0, .int .i64 1]) ∧ w' = w := by
  cases hk : knownB op with
  | false =>
    have H : Hid (knownB op = false) := hk
    clear hk h
    go_enter Try.func21, Try.ntmps21
    go_wp2_with (go_at_call 13; refine (known_any _ _).mono ?_; rintro e w' ⟨rfl, rfl⟩; rw [H.out])
    go_ret2
    exact ⟨rfl, rfl⟩
  | true =>
    have H : Hid (knownB op = true) := hk
    have h0 : len = 0 := by rcases h with h | h; · rw [hk] at h; cases h
                            · exact h
    clear hk h
    subst h0
    go_enter Try.func21, Try.ntmps21
    go_wp2_with (go_at_call 13; refine (known_any _ _).mono ?_; rintro e w' ⟨rfl, rfl⟩; rw [H.out])
    go_ret2
    exact ⟨rfl, rfl⟩

set_option maxHeartbeats 1000000 in
theorem fold_some (op : Int) (b off len cap : Nat) (zs : List Int) (w : World) (hk : knownB op = true) (hl : 0 < len) (hc : len ≤ cap) (hm : cap ≤ maxLen) (hz : zs.length = len)
    (hcell : ∀ j, j < len → w.cell? ⟨b, off + j, none⟩ = some (.int .i64 (zs.getD j 0))) (hf : ∀ j, j < len → Fits (zs.getD j 0)) :
    Calls Try.prog 21 #[.int .i64 op, .slice (some ⟨b, off, none⟩) len cap] w fun e w' => e = .returned (.tuple #[.int .i64 (foldF op zs).1, .int .i64 (foldF op zs).2]) ∧ w' = w := by
  unfold maxLen at hm
  have H : Hid (knownB op = true) := hk
  have hs : Hid (foldF op zs = foldGo op (zs.getD 0 0) (zs.drop 1)) := fold_start op zs (by omega) hk
  have h0 : w.cell? ⟨b, off, none⟩ = some (.int .i64 (zs.getD 0 0)) := hcell 0 hl
  have hf0 := hf 0 hl
  obtain ⟨n0, hn0⟩ : ∃ n, n = zs.getD 0 0 := ⟨_, rfl⟩
  rw [← hn0] at hs h0 hf0
  have HC : Hid (∀ j, j < len → w.cell? ⟨b, off + j, none⟩ = some (.int .i64 (zs.getD j 0))) := hcell
  have HF : Hid (∀ j, j < len → Fits (zs.getD j 0)) := hf
  have HZ : Hid (zs.length = len) := hz
  have hne : ((len : Int) == 0) = false := by simp; omega
  have hp : (1 : Int) ≤ (len : Int) := by omega
  have hp' : 1 ≤ len := hl
  by_cases hcap : cap = 1
  · have hl1 : len = 1 := by omega
    subst hcap; subst hl1
    have hg' : Hid (foldF op zs = (n0, 0)) := hs.out.trans (go_end op n0 zs 1 (by omega))
    clear hk hcell hf hz hn0
    go_enter Try.func21, Try.ntmps21
    go_wp2_with (go_at_call 13; refine (known_any _ _).mono ?_; rintro e w' ⟨he, hw⟩; subst he; have hw := hw.symm; subst hw; rw [H.out])
    refine wp_loop_rounds 1 ?_
    rw [rounds_succ]
    go_wp2
    go_ret2
    exact ⟨ret2 hg'.out, rfl⟩
  clear hk hcell hf hz hn0
  go_enter Try.func21, Try.ntmps21
  go_wp2_with (go_at_call 13; refine (known_any _ _).mono ?_; rintro e w' ⟨he, hw⟩; subst he; have hw := hw.symm; subst hw; rw [H.out])
  go_loop [6, 24] (fun nv iv => ∃ (k : Nat) (n : Int), k < len ∧ Fits n ∧ nv = .int .i64 n ∧ iv = .int .i64 k ∧ Hid (foldGo op n0 (zs.drop 1) = foldGo op n (zs.drop (k + 1)))) (fun _ iv => len - (intOf iv).toNat)
  case atStart => exact ⟨0, n0, by omega, hf0, rfl, rfl, rfl⟩
  case round =>
    obtain ⟨k, n, hk, hfn, rfl, rfl, hg⟩ := hrel
    by_cases hlt : k + 1 < len
    · have hck : w.cell? ⟨b, off + 1 + k, none⟩ = some (.int .i64 (zs.getD (k + 1) 0)) := by
        have := HC.out (k + 1) hlt
        rw [show off + 1 + k = off + (k + 1) by omega]; exact this
      have hfk := HF.out (k + 1) hlt
      have hlen := HZ.out
      obtain ⟨x, hx⟩ : ∃ n, n = zs.getD (k + 1) 0 := ⟨_, rfl⟩
      rw [← hx] at hck hfk
      by_cases he : (doF op n x).2 = 0
      · have hg' : Hid (foldGo op n0 (zs.drop 1) = foldGo op (doF op n x).1 (zs.drop (k + 1 + 1))) := hg.out.trans (by rw [go_ok op n zs (k + 1) (by omega) (by rw [← hx]; exact he), ← hx])
        have hf' := do_fits op n x hfn.1 hfn.2
        have E : Hid ((doF op n x).2 = 0) := he
        clear he hx hlen hg
        go_wp2_with (go_at_call 10; refine (do_any _ _ _ _ hfn.1 hfn.2 hfk.1 hfk.2).mono ?_; rintro e w' ⟨he, hw⟩; subst he; have hw := hw.symm; subst hw; rw [E.out])
        go_round
        case rel => exact ⟨k + 1, _, by omega, hf', rfl, by go_num, hg'⟩
        case measure => simp [intOf]; omega
      · have hg' : Hid (foldF op zs = (0, (doF op n x).2)) := hs.out.trans (hg.out.trans (by rw [go_err op n zs (k + 1) (by omega) (by rw [← hx]; exact he), ← hx]))
        have E : ((doF op n x).2 != 0) = true := by simpa using he
        clear he hx hlen hg
        go_wp2_with (go_at_call 10; refine (do_any _ _ _ _ hfn.1 hfn.2 hfk.1 hfk.2).mono ?_; rintro e w' ⟨he, hw⟩; subst he; have hw := hw.symm; subst hw)
        go_ret2
        exact ⟨ret2 hg'.out, rfl⟩
    · have hg' : Hid (foldF op zs = (n, 0)) := hs.out.trans (hg.out.trans (go_end op n zs (k + 1) (by have := HZ.out; omega)))
      clear hg
      go_wp2
      go_ret2
      exact ⟨ret2 hg'.out, rfl⟩

set_option maxHeartbeats 400000 in
theorem rfold_none (op : Int) (a : Option Addr) (len cap : Nat) (w : World) (h : knownB op = false ∨ len = 0) :
    Calls Try.prog 22 #[.int .i64 op, .slice a len cap] w fun e w' => e = .returned (.tuple #[.int .i64 0, .int .i64 1]) ∧ w' = w := by
  cases hk : knownB op with
  | false =>
    have H : Hid (knownB op = false) := hk
    clear hk h
    go_enter Try.func22, Try.ntmps22
    go_wp2_with (go_at_call 14; refine (rknown_any _ _).mono ?_; rintro e w' ⟨rfl, rfl⟩; rw [H.out])
    go_ret2
    exact ⟨rfl, rfl⟩
  | true =>
    have H : Hid (knownB op = true) := hk
    have h0 : len = 0 := by rcases h with h | h; · rw [hk] at h; cases h
                            · exact h
    clear hk h
    subst h0
    go_enter Try.func22, Try.ntmps22
    go_wp2_with (go_at_call 14; refine (rknown_any _ _).mono ?_; rintro e w' ⟨rfl, rfl⟩; rw [H.out])
    go_ret2
    exact ⟨rfl, rfl⟩

set_option maxHeartbeats 1000000 in
theorem rfold_some (op : Int) (b off len cap : Nat) (zs : List Int) (w : World) (hk : knownB op = true) (hl : 0 < len) (hc : len ≤ cap) (hm : cap ≤ maxLen) (hz : zs.length = len)
    (hcell : ∀ j, j < len → w.cell? ⟨b, off + j, none⟩ = some (.int .i64 (zs.getD j 0))) (hf : ∀ j, j < len → Fits (zs.getD j 0)) :
    Calls Try.prog 22 #[.int .i64 op, .slice (some ⟨b, off, none⟩) len cap] w fun e w' => e = .returned (.tuple #[.int .i64 (foldF op zs).1, .int .i64 (foldF op zs).2]) ∧ w' = w := by
  unfold maxLen at hm
  have H : Hid (knownB op = true) := hk
  have hs : Hid (foldF op zs = foldGo op (zs.getD 0 0) (zs.drop 1)) := fold_start op zs (by omega) hk
  have h0 : w.cell? ⟨b, off, none⟩ = some (.int .i64 (zs.getD 0 0)) := hcell 0 hl
  have hf0 := hf 0 hl
  obtain ⟨n0, hn0⟩ : ∃ n, n = zs.getD 0 0 := ⟨_, rfl⟩
  rw [← hn0] at hs h0 hf0
  have HC : Hid (∀ j, j < len → w.cell? ⟨b, off + j, none⟩ = some (.int .i64 (zs.getD j 0))) := hcell
  have HF : Hid (∀ j, j < len → Fits (zs.getD j 0)) := hf
  have HZ : Hid (zs.length = len) := hz
  have hne : ((len : Int) == 0) = false := by simp; omega
  have hp : (1 : Int) ≤ (len : Int) := by omega
  have hp' : 1 ≤ len := hl
  clear hk hcell hf hz hn0
  go_enter Try.func22, Try.ntmps22
  go_wp2_with (go_at_call 14; refine (rknown_any _ _).mono ?_; rintro e w' ⟨he, hw⟩; subst he; have hw := hw.symm; subst hw; rw [H.out])
  go_loop [6, 7] (fun nv iv => ∃ (k : Nat) (n : Int), k < len ∧ Fits n ∧ nv = .int .i64 n ∧ iv = .int .i64 (k + 1) ∧ Hid (foldGo op n0 (zs.drop 1) = foldGo op n (zs.drop (k + 1)))) (fun _ iv => len - (intOf iv).toNat)
  case atStart => exact ⟨0, n0, by omega, hf0, rfl, rfl, rfl⟩
  case round =>
    obtain ⟨k, n, hk, hfn, rfl, rfl, hg⟩ := hrel
    by_cases hlt : k + 1 < len
    · have hck : w.cell? ⟨b, off + (k + 1), none⟩ = some (.int .i64 (zs.getD (k + 1) 0)) := by
        have := HC.out (k + 1) hlt
        rw [show off + (k + 1) = off + (k + 1) by omega]; exact this
      have hfk := HF.out (k + 1) hlt
      have hlen := HZ.out
      obtain ⟨x, hx⟩ : ∃ n, n = zs.getD (k + 1) 0 := ⟨_, rfl⟩
      rw [← hx] at hck hfk
      by_cases he : (doF op n x).2 = 0
      · have hg' : Hid (foldGo op n0 (zs.drop 1) = foldGo op (doF op n x).1 (zs.drop (k + 1 + 1))) := hg.out.trans (by rw [go_ok op n zs (k + 1) (by omega) (by rw [← hx]; exact he), ← hx])
        have hf' := do_fits op n x hfn.1 hfn.2
        have E : Hid ((doF op n x).2 = 0) := he
        clear he hx hlen hg
        go_wp2_with (go_at_call 11; refine (rdo_any _ _ _ _ hfn.1 hfn.2 hfk.1 hfk.2).mono ?_; rintro e w' ⟨he, hw⟩; subst he; have hw := hw.symm; subst hw; rw [E.out])
        go_round
        case rel => exact ⟨k + 1, _, by omega, hf', rfl, by go_num, hg'⟩
        case measure => simp [intOf]; omega
      · have hg' : Hid (foldF op zs = (0, (doF op n x).2)) := hs.out.trans (hg.out.trans (by rw [go_err op n zs (k + 1) (by omega) (by rw [← hx]; exact he), ← hx]))
        have E : ((doF op n x).2 != 0) = true := by simpa using he
        clear he hx hlen hg
        go_wp2_with (go_at_call 11; refine (rdo_any _ _ _ _ hfn.1 hfn.2 hfk.1 hfk.2).mono ?_; rintro e w' ⟨he, hw⟩; subst he; have hw := hw.symm; subst hw)
        go_ret2
        exact ⟨ret2 hg'.out, rfl⟩
    · have hg' : Hid (foldF op zs = (n, 0)) := hs.out.trans (hg.out.trans (go_end op n zs (k + 1) (by have := HZ.out; omega)))
      clear hg
      go_wp2
      go_ret2
      exact ⟨ret2 hg'.out, rfl⟩

/-- Fold of a row that is not empty, known operation or not -/
theorem fold_row (op : Int) (b off len cap : Nat) (zs : List Int) (w : World) (hl : 0 < len) (hc : len ≤ cap) (hm : cap ≤ maxLen) (hz : zs.length = len)
    (hcell : ∀ j, j < len → w.cell? ⟨b, off + j, none⟩ = some (.int .i64 (zs.getD j 0))) (hf : ∀ j, j < len → Fits (zs.getD j 0)) :
    Calls Try.prog 21 #[.int .i64 op, .slice (some ⟨b, off, none⟩) len cap] w fun e w' => e = .returned (.tuple #[.int .i64 (foldF op zs).1, .int .i64 (foldF op zs).2]) ∧ w' = w := by
  cases hk : knownB op with
  | true => exact fold_some op b off len cap zs w hk hl hc hm hz hcell hf
  | false => rw [fold_unknown op zs hk]; exact fold_none op _ len cap w (.inl hk)
theorem rfold_row (op : Int) (b off len cap : Nat) (zs : List Int) (w : World) (hl : 0 < len) (hc : len ≤ cap) (hm : cap ≤ maxLen) (hz : zs.length = len)
    (hcell : ∀ j, j < len → w.cell? ⟨b, off + j, none⟩ = some (.int .i64 (zs.getD j 0))) (hf : ∀ j, j < len → Fits (zs.getD j 0)) :
    Calls Try.prog 22 #[.int .i64 op, .slice (some ⟨b, off, none⟩) len cap] w fun e w' => e = .returned (.tuple #[.int .i64 (foldF op zs).1, .int .i64 (foldF op zs).2]) ∧ w' = w := by
  cases hk : knownB op with
  | true => exact rfold_some op b off len cap zs w hk hl hc hm hz hcell hf
  | false => rw [fold_unknown op zs hk]; exact rfold_none op _ len cap w (.inl hk)
end Calc
end Go.Proofs.Ytpfcoicomgpaoaa
