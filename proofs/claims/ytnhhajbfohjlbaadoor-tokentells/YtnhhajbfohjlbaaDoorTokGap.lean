/- gap of package token: a contract of the call, over the turned program. -/
import Derived.Test.YtnhhajbfohjlbaaDoorTokRun
namespace Go.Proofs.YtnhhajbfohjlbaaDoor.Token
open Go.RowKit Go.Proofs.YtnhhajbfohjlbaaDoor.Colour
set_option linter.unusedVariables false
set_option linter.unusedSimpArgs false

/-- where blanks and comments end -/
def gapF (l : List UInt8) (i : Nat) : Nat := l.length - (gapL false (l.drop i)).length
theorem gapF_drop {l : List UInt8} {i : Nat} (h : i ≤ l.length) : l.drop (gapF l i) = gapL false (l.drop i) := by
  have h1 := gap_drop false (l.drop i)
  have h2 := gap_le false (l.drop i)
  rw [List.length_drop, List.drop_drop] at h1
  rw [List.length_drop] at h2
  unfold gapF
  rw [show l.length - (gapL false (l.drop i)).length = i + (l.length - i - (gapL false (l.drop i)).length) by omega]
  exact h1.symm
theorem gapF_le {l : List UInt8} {i : Nat} (h : i ≤ l.length) : i ≤ gapF l i ∧ gapF l i ≤ l.length := by
  have h2 := gap_le false (l.drop i)
  rw [List.length_drop] at h2
  unfold gapF
  omega
theorem gapF_is {l : List UInt8} {i k : Nat} (hk : k ≤ l.length) (h : gapL false (l.drop i) = l.drop k) : gapF l i = k := by
  unfold gapF; rw [h, List.length_drop]; omega
theorem gap_blanks : ∀ (r : List UInt8), gapL false r = gapL false (r.drop (runL blk8 r))
  | [] => rfl
  | c :: r => by
    unfold runL
    cases h : blk8 c with
    | false => rw [List.takeWhile_cons, if_neg (by rw [h]; decide)]; rfl
    | true =>
      rw [List.takeWhile_cons, if_pos h, List.length_cons, List.drop_succ_cons]
      exact (show gapL false (c :: r) = gapL false r by rw [gapL, if_pos h]).trans (gap_blanks r)
theorem gap_noted : ∀ (r : List UInt8), gapL true r = gapL false (r.drop (runL note8 r))
  | [] => rfl
  | c :: r => by
    unfold runL
    by_cases h : c.toNat = 10
    · have hn : note8 c = false := by unfold note8; simp [h]
      have hb : blk8 c = true := by unfold blk8; simp [h]
      rw [List.takeWhile_cons, if_neg (by rw [hn]; decide), List.length_nil, List.drop_zero, gapL.eq_3, if_pos h, gapL.eq_2, if_pos hb]
    · have hn : note8 c = true := by unfold note8; simp [h]
      rw [List.takeWhile_cons, if_pos hn, List.length_cons, List.drop_succ_cons, gapL, if_neg h]
      exact gap_noted r
theorem gap_run {l : List UInt8} {i : Nat} : gapL false (l.drop i) = gapL false (l.drop (runF blk8 l i)) := by
  unfold runF; rw [← List.drop_drop]; exact gap_blanks _
theorem gap_hash {l : List UInt8} {i : Nat} (h : onB hash8 l i = true) : gapL false (l.drop i) = gapL false (l.drop (runF note8 l i)) ∧ i < runF note8 l i := by
  unfold onB at h
  simp only [Bool.and_eq_true, decide_eq_true_eq] at h
  have h35 : l[i]'h.1 = 35 := by
    have h2 := h.2
    rw [List.getD_eq_getElem?_getD, List.getElem?_eq_getElem h.1] at h2
    unfold hash8 at h2
    exact UInt8.toNat_inj.1 (by simpa using h2)
  unfold runF
  rw [← List.drop_drop, List.drop_eq_getElem_cons h.1, h35]
  have hn : note8 35 = true := by decide
  unfold runL
  rw [List.takeWhile_cons, if_pos hn, List.length_cons, List.drop_succ_cons]
  refine ⟨?_, by omega⟩
  rw [gapL, if_neg (by decide), if_pos (by decide)]
  exact gap_noted _
theorem on_end {p : UInt8 → Bool} {l : List UInt8} {i : Nat} : onB p l (runF p l i) = false := by
  unfold runF onB
  have h := run_next (p := p) (r := l.drop i)
  rw [List.drop_drop] at h
  generalize i + runL p (l.drop i) = k at *
  by_cases hk : k < l.length
  · rw [decide_eq_true hk, Bool.true_and]
    rcases h with h | h
    · rw [List.drop_eq_nil_iff] at h; omega
    · rw [List.drop_eq_getElem_cons hk] at h
      rw [List.getD_eq_getElem?_getD, List.getElem?_eq_getElem hk]; exact h
  · rw [decide_eq_false hk]; rfl
theorem gap_off {l : List UInt8} {k : Nat} (h1 : onB blk8 l k = false) (h2 : onB hash8 l k = false) : gapL false (l.drop k) = l.drop k := by
  by_cases hk : k < l.length
  · unfold onB at h1 h2
    rw [decide_eq_true hk, Bool.true_and, List.getD_eq_getElem?_getD, List.getElem?_eq_getElem hk] at h1 h2
    rw [List.drop_eq_getElem_cons hk]
    refine gap_self (r := l[k] :: _) h1 ?_
    show (l[k]).toNat ≠ 35
    unfold hash8 at h2
    simpa using h2
  · rw [List.drop_of_length_le (by omega)]; rfl

set_option maxHeartbeats 1000000 in
theorem gap_any (s : ByteArray) (i : Nat) (w : World) (hs : s.size ≤ 1000000) (hi : i ≤ s.size) :
    Calls Tryd.prog 19 #[.string s, .int .i64 i] w fun e w' => e = .returned (.int .i64 (gapF s.data.toList i)) ∧ w' = w := by
  have H0 : Hid (gapL false (s.data.toList.drop i) = gapL false (s.data.toList.drop (runF blk8 s.data.toList i)) ∧ onB blk8 s.data.toList (runF blk8 s.data.toList i) = false) := ⟨gap_run, on_end⟩
  have hl0 : runF blk8 s.data.toList i ≤ s.size := by have := runF_le (p := blk8) (l := s.data.toList) (i := i) (by rw [size_list]; exact hi); rwa [size_list] at this
  go_enter Tryd.func19, Tryd.ntmps19
  go_wp2_with (go_at_call 26; refine (run_blank _ _ _ hs hi).mono ?_; rintro e w' ⟨he, hw⟩; subst he; have hw := hw.symm; subst hw)
  go_loop [1] (fun v => ∃ k : Nat, k ≤ s.size ∧ v = .int .i64 k ∧ Hid (gapL false (s.data.toList.drop i) = gapL false (s.data.toList.drop k) ∧ onB blk8 s.data.toList k = false)) (fun v => s.size - (intOf v).toNat)
  case atStart => exact ⟨_, hl0, rfl, H0⟩
  case round =>
    obtain ⟨k, hk, rfl, hr⟩ := hrel
    clear H0 hl0
    cases ho : onB hash8 s.data.toList k with
    | true =>
      have HO : Hid (onB hash8 s.data.toList k = true) := ho
      obtain ⟨g1, g2⟩ := gap_hash ho
      obtain ⟨m, hm⟩ : ∃ m, m = runF note8 s.data.toList k := ⟨_, rfl⟩
      have hml : m ≤ s.size := by have := runF_le (p := note8) (l := s.data.toList) (i := k) (by rw [size_list]; exact hk); rw [size_list] at this; omega
      have HM : Hid (runF note8 s.data.toList k = m) := hm.symm
      rw [← hm] at g1 g2
      obtain ⟨q, hq⟩ : ∃ q, q = runF blk8 s.data.toList m := ⟨_, rfl⟩
      have hql : q ≤ s.size := by have := runF_le (p := blk8) (l := s.data.toList) (i := m) (by rw [size_list]; exact hml); rw [size_list] at this; omega
      have hmq : m ≤ q := by rw [hq]; exact runF_ge
      have HQ : Hid (runF blk8 s.data.toList m = q) := hq.symm
      have hr' : Hid (gapL false (s.data.toList.drop i) = gapL false (s.data.toList.drop q) ∧ onB blk8 s.data.toList q = false) := ⟨by rw [hr.out.1, g1, gap_run, hq], by rw [hq]; exact on_end⟩
      clear ho hr g1 hm hq
      go_wp2_with fail
      refine (on_hash _ _ _).mono ?_; rintro e w' ⟨he, hw⟩; subst he; have hw := hw.symm; subst hw; rw [HO.out]
      go_wp2_with fail
      refine (run_noted _ _ _ hs hk).mono ?_; rintro e w' ⟨he, hw⟩; subst he; have hw := hw.symm; subst hw; rw [HM.out]
      go_wp2_with fail
      refine (run_blank _ _ _ hs hml).mono ?_; rintro e w' ⟨he, hw⟩; subst he; have hw := hw.symm; subst hw; rw [HQ.out]
      go_wp2_with fail
      go_round
      case rel => exact ⟨q, hql, rfl, hr'⟩
      case measure => simp [intOf]; omega
    | false =>
      have HO : Hid (onB hash8 s.data.toList k = false) := ho
      have hr' : Hid (gapF s.data.toList i = k) := gapF_is (by rw [size_list]; exact hk) (hr.out.1.trans (gap_off hr.out.2 ho))
      clear ho hr
      go_wp2_with (go_at_call 36; refine (on_hash _ _ _).mono ?_; rintro e w' ⟨he, hw⟩; subst he; have hw := hw.symm; subst hw; rw [HO.out])
      go_ret
      exact ⟨by rw [hr'.out]; rfl, rfl⟩
end Go.Proofs.YtnhhajbfohjlbaaDoor.Token
