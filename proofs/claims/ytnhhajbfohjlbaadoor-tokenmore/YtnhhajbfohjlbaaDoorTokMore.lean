/- The ways through TokenMore, over the turned program. -/
import Derived.Test.YtnhhajbfohjlbaaDoorTokLaws
namespace Go.Proofs.YtnhhajbfohjlbaaDoor.Token
open Go.RowKit Go.Proofs.YtnhhajbfohjlbaaDoor.Colour Go.Proofs.YtnhhajbfohjlbaaDoor.Frame
set_option linter.unusedVariables false
set_option linter.unusedSimpArgs false

set_option maxRecDepth 100000 in
set_option maxHeartbeats 4000000 in
theorem more_1 (s t : ByteArray) (w : World) (hF : Fx w) (h : 2048 < s.size ∨ 2048 < t.size) :
    Calls Tryd.prog 6 #[.string s, .string t] w fun e w' => e = .returned (.bool true) ∧ Below w.heap.size w w' := by
  have HF : Hid (Fx w) := hF
  clear hF
  by_cases h1 : 2048 < s.size
  · have h' : (2048 : Int) < s.size := by omega
    go_enter Tryd.func6, Tryd.ntmps6
    go_wp2_with (go_at_call 8; refine (small_any _ HF.out).mono ?_; rintro e w1 ⟨he, b1⟩; subst he)
    go_ret
    exact ⟨rfl, b1⟩
  · have h1' : ¬ (2048 : Int) < s.size := by omega
    have h' : (2048 : Int) < t.size := by omega
    go_enter Tryd.func6, Tryd.ntmps6
    go_wp2_with (go_at_call 8; refine (small_any _ HF.out).mono ?_; rintro e w1 ⟨he, b1⟩; subst he)
    go_ret
    exact ⟨rfl, b1⟩

/-- both texts, with a line feed between -/
theorem cat_list (s t : ByteArray) : (s ++ (⟨#[10]⟩ : ByteArray) ++ t).data.toList = s.data.toList ++ 10 :: t.data.toList := by simp
theorem cat_size (s t : ByteArray) : (s ++ (⟨#[10]⟩ : ByteArray) ++ t).size = s.size + 1 + t.size := by simp [ByteArray.size_append]; rfl

set_option maxRecDepth 100000 in
set_option maxHeartbeats 8000000 in
theorem more_2 (s t : ByteArray) (w : World) (hF : Fx w) (h1 : ¬ 2048 < s.size) (h2 : ¬ 2048 < t.size) (hE : (lexF s.data.toList).2.2 ≠ 0) :
    Calls Tryd.prog 6 #[.string s, .string t] w fun e w' => e = .returned (.bool true) ∧ Below w.heap.size w w' := by
  have HF : Hid (Fx w) := hF
  have h1' : ¬ (2048 : Int) < s.size := by omega
  have h2' : ¬ (2048 : Int) < t.size := by omega
  have hs6 : s.size ≤ 1000000 := by omega
  have ht6 : t.size ≤ 1000000 := by omega
  have hc6 : (s ++ (⟨#[10]⟩ : ByteArray) ++ t).size ≤ 1000000 := by rw [cat_size]; omega
  have hM := lexF_more (s := s.data.toList) (t := t.data.toList) (by rw [size_list]; omega) (by rw [size_list]; omega)
  rw [if_neg hE, ← cat_list] at hM
  generalize hx : lexF s.data.toList = x at *
  obtain ⟨l, at_, e⟩ := x
  simp only at hE
  have HX : Hid (lexF s.data.toList = (l, at_, e)) := hx
  have HM : Hid (lexF (s ++ (⟨#[10]⟩ : ByteArray) ++ t).data.toList = (l, at_, e)) := hM
  have hE' : (e != 0) = true := by simpa using hE
  clear hF hx hM hE
  go_enter Tryd.func6, Tryd.ntmps6
  go_wp2_with fail
  refine (small_any _ HF.out).mono ?_
  rintro e1 w1 ⟨he, b1⟩
  subst he
  go_wp2_with fail
  refine (lex_is _ hs6 (HF.out.below b1) HX.out).mono ?_
  rintro e2 w2 ⟨a, c, he, t2, b2⟩
  replace he : e2 = .returned (.tuple #[.slice a l.length c, .int .i64 at_, .int .i64 e]) := he
  subst he
  go_wp2_with fail
  refine (lex_any _ _ ht6 (HF.out.below (then_ b1 b2))).mono ?_
  rintro e3 w3 ⟨a3, c3, he, t3, b3⟩
  subst he
  go_wp2_with fail
  refine (lex_is _ hc6 (HF.out.below (then_ (then_ b1 b2) b3)) HM.out).mono ?_
  rintro e4 w4 ⟨a4, c4, he, t4, b4⟩
  replace he : e4 = .returned (.tuple #[.slice a4 l.length c4, .int .i64 at_, .int .i64 e]) := he
  subst he
  go_wp2
  go_ret
  exact ⟨rfl, then_ (then_ (then_ b1 b2) b3) b4⟩

set_option maxRecDepth 100000 in
set_option maxHeartbeats 8000000 in
theorem more_3 (s t : ByteArray) (w : World) (hF : Fx w) (h1 : ¬ 2048 < s.size) (h2 : ¬ 2048 < t.size) (hE : (lexF s.data.toList).2.2 = 0) (hG : (lexF t.data.toList).2.2 ≠ 0) :
    Calls Tryd.prog 6 #[.string s, .string t] w fun e w' => e = .returned (.bool true) ∧ Below w.heap.size w w' := by
  have HF : Hid (Fx w) := hF
  have h1' : ¬ (2048 : Int) < s.size := by omega
  have h2' : ¬ (2048 : Int) < t.size := by omega
  have hs6 : s.size ≤ 1000000 := by omega
  have ht6 : t.size ≤ 1000000 := by omega
  have hc6 : (s ++ (⟨#[10]⟩ : ByteArray) ++ t).size ≤ 1000000 := by rw [cat_size]; omega
  have hM := lexF_more (s := s.data.toList) (t := t.data.toList) (by rw [size_list]; omega) (by rw [size_list]; omega)
  obtain ⟨p1, p2, _⟩ := lexF_parts (l := s.data.toList) (by rw [size_list]; omega)
  obtain ⟨q1, q2, q3, _⟩ := lexF_parts (l := t.data.toList) (by rw [size_list]; omega)
  rw [if_pos hE, ← cat_list, size_list] at hM
  have p3 := p2 hE
  obtain ⟨r1, r2⟩ := q3 hG
  rw [size_list] at p3 r1
  generalize hx : lexF s.data.toList = x at *
  generalize hy : lexF t.data.toList = y at *
  obtain ⟨l, at_, e⟩ := x
  obtain ⟨m, k, f⟩ := y
  simp only at hE hG p3 r1 r2
  subst hE p3 r2
  have hM2 : lexF (s ++ (⟨#[10]⟩ : ByteArray) ++ t).data.toList = ([], k + (s.size + 1), f) := by rw [hM]; unfold before shift; simp [hG]
  obtain ⟨j, hj⟩ : ∃ j, j = k + (s.size + 1) := ⟨_, rfl⟩
  rw [← hj] at hM2
  have HX : Hid (lexF s.data.toList = (l, s.size, 0)) := hx
  have HY : Hid (lexF t.data.toList = ([], k, f)) := hy
  have HM : Hid (lexF (s ++ (⟨#[10]⟩ : ByteArray) ++ t).data.toList = ([], j, f)) := hM2
  have hG' : (f != 0) = true := by simpa using hG
  have hj' : ((j : Int) == (s.size : Int) + 1 + (k : Int)) = true := by simp; omega
  clear hF hx hy hM hM2 hG p1 p2 q1 q2 q3 hj
  go_enter Tryd.func6, Tryd.ntmps6
  go_wp2_with fail
  refine (small_any _ HF.out).mono ?_
  rintro e1 w1 ⟨he, b1⟩
  subst he
  go_wp2_with fail
  refine (lex_is _ hs6 (HF.out.below b1) HX.out).mono ?_
  rintro e2 w2 ⟨a, c, he, t2, b2⟩
  replace he : e2 = .returned (.tuple #[.slice a l.length c, .int .i64 s.size, .int .i64 0]) := he
  skip
  subst he
  go_wp2_with fail
  refine (lex_is _ ht6 (HF.out.below (then_ b1 b2)) HY.out).mono ?_
  rintro e3 w3 ⟨a3, c3, he, t3, b3⟩
  replace he : e3 = .returned (.tuple #[.slice a3 0 c3, .int .i64 k, .int .i64 f]) := he
  skip
  subst he
  go_wp2_with fail
  refine (lex_is _ hc6 (HF.out.below (then_ (then_ b1 b2) b3)) HM.out).mono ?_
  rintro e4 w4 ⟨a4, c4, he, t4, b4⟩
  replace he : e4 = .returned (.tuple #[.slice a4 0 c4, .int .i64 j, .int .i64 f]) := he
  skip
  subst he
  go_wp2
  go_ret
  exact ⟨rfl, then_ (then_ (then_ b1 b2) b3) b4⟩

def sh (d : Nat) (t : Tok) : Tok := ⟨t.kind, t.text, t.at_ + d⟩
theorem shift_is (d : Nat) (m : List Tok) (a : Nat) (e : Int) : shift d (m, a, e) = (m.map (sh d), a + d, e) := rfl
theorem getD_left {l m : List Tok} {k : Nat} (h : k < l.length) : (l ++ m).getD k tk0 = l.getD k tk0 := by
  rw [List.getD_eq_getElem?_getD, List.getElem?_append_left h, List.getD_eq_getElem?_getD]
theorem getD_right {l m : List Tok} {d j : Nat} (h : j < m.length) : (l ++ m.map (sh d)).getD (l.length + j) tk0 = sh d (m.getD j tk0) := by
  rw [List.getD_eq_getElem?_getD, List.getElem?_append_right (by omega), Nat.add_sub_cancel_left, List.getElem?_map, List.getElem?_eq_getElem h, List.getD_eq_getElem?_getD, List.getElem?_eq_getElem h]; rfl

set_option maxRecDepth 100000 in
set_option maxHeartbeats 8000000 in
theorem more_4 (s t : ByteArray) (w : World) (hF : Fx w) (h1 : ¬ 2048 < s.size) (h2 : ¬ 2048 < t.size) (hE : (lexF s.data.toList).2.2 = 0) (hG : (lexF t.data.toList).2.2 = 0) :
    Calls Tryd.prog 6 #[.string s, .string t] w fun e w' => e = .returned (.bool true) ∧ Below w.heap.size w w' := by
  have HF : Hid (Fx w) := hF
  have h1' : ¬ (2048 : Int) < s.size := by omega
  have h2' : ¬ (2048 : Int) < t.size := by omega
  have hs6 : s.size ≤ 1000000 := by omega
  have ht6 : t.size ≤ 1000000 := by omega
  have hc6 : (s ++ (⟨#[10]⟩ : ByteArray) ++ t).size ≤ 1000000 := by rw [cat_size]; omega
  have hM := lexF_more (s := s.data.toList) (t := t.data.toList) (by rw [size_list]; omega) (by rw [size_list]; omega)
  obtain ⟨p1, p2, _⟩ := lexF_parts (l := s.data.toList) (by rw [size_list]; omega)
  obtain ⟨q1, q2, q3, _⟩ := lexF_parts (l := t.data.toList) (by rw [size_list]; omega)
  rw [if_pos hE, ← cat_list, size_list] at hM
  have p3 := p2 hE
  have r1 := q2 hG
  have hpl := lexF_places (l := t.data.toList) (by rw [size_list]; omega)
  have hat0 : ∀ j, j < (lexF t.data.toList).1.length → ((lexF t.data.toList).1.getD j tk0).at_ ≤ t.size := by
    have : ∀ (l : List Tok) (lo : Nat), Places t.data.toList lo l → ∀ j, j < l.length → (l.getD j tk0).at_ ≤ t.size := by
      intro l
      induction l with
      | nil => intro lo _ j hj; cases hj
      | cons u l ih =>
        intro lo hp j hj
        cases j with
        | zero => have := hp.1.2.1; rw [size_list] at this; show u.at_ ≤ t.size; omega
        | succ j => exact ih _ hp.2 j (by simpa using hj)
    exact this _ 0 hpl
  rw [size_list] at p3 r1 p1 q1
  generalize hx : lexF s.data.toList = x at *
  generalize hy : lexF t.data.toList = y at *
  obtain ⟨l, at_, e⟩ := x
  obtain ⟨m, k0, f⟩ := y
  simp only at hE hG p3 r1 p1 q1 hat0
  subst hE p3 hG r1
  have hM2 : lexF (s ++ (⟨#[10]⟩ : ByteArray) ++ t).data.toList = (l ++ m.map (sh (s.size + 1)), t.size + (s.size + 1), 0) := by rw [hM, shift_is]; unfold before; simp
  obtain ⟨z, hz⟩ : ∃ z, z = l ++ m.map (sh (s.size + 1)) := ⟨_, rfl⟩
  rw [← hz] at hM2
  have HX : Hid (lexF s.data.toList = (l, s.size, 0)) := hx
  have HY : Hid (lexF t.data.toList = (m, t.size, 0)) := hy
  have HM : Hid (lexF (s ++ (⟨#[10]⟩ : ByteArray) ++ t).data.toList = (z, t.size + (s.size + 1), 0)) := hM2
  have HZ : Hid (z = l ++ m.map (sh (s.size + 1))) := hz
  obtain ⟨n1, hn1⟩ : ∃ n1, n1 = l.length := ⟨_, rfl⟩
  obtain ⟨n2, hn2⟩ : ∃ n2, n2 = m.length := ⟨_, rfl⟩
  obtain ⟨n, hn⟩ : ∃ n, n = n1 + n2 := ⟨_, rfl⟩
  have HN1 : Hid (n1 = l.length) := hn1
  have HN2 : Hid (n2 = m.length) := hn2
  have HN : Hid (n = z.length) := (show n = z.length by rw [hz, List.length_append, List.length_map]; omega)
  have HA : Hid (∀ j, j < m.length → (m.getD j tk0).at_ ≤ t.size) := hat0
  have hl1 : n1 ≤ 2048 := by omega
  have hl2 : n2 ≤ 2048 := by omega
  have hne' : ((n : Int) != (n1 : Int) + (n2 : Int)) = false := by simp; omega
  clear hF hx hy hM hM2 p1 p2 q1 q2 q3 hz hpl hat0 hn1 hn2
  go_enter Tryd.func6, Tryd.ntmps6
  go_wp2_with fail
  refine (small_any _ HF.out).mono ?_
  rintro e1 w1 ⟨he, b1⟩
  subst he
  go_wp2_with fail
  refine (lex_is _ hs6 (HF.out.below b1) HX.out).mono ?_
  rintro e2 w2 ⟨a, c, he, t2, b2⟩
  replace he : e2 = .returned (.tuple #[.slice a l.length c, .int .i64 s.size, .int .i64 0]) := he
  rw [← HN1.out] at he
  subst he
  go_wp2_with fail
  refine (lex_is _ ht6 (HF.out.below (then_ b1 b2)) HY.out).mono ?_
  rintro e3 w3 ⟨a3, c3, he, t3, b3⟩
  replace he : e3 = .returned (.tuple #[.slice a3 m.length c3, .int .i64 t.size, .int .i64 0]) := he
  rw [← HN2.out] at he
  subst he
  go_wp2_with fail
  refine (lex_is _ hc6 (HF.out.below (then_ (then_ b1 b2) b3)) HM.out).mono ?_
  rintro e4 w4 ⟨a4, c4, he, t4, b4⟩
  replace he : e4 = .returned (.tuple #[.slice a4 z.length c4, .int .i64 (t.size + (s.size + 1) : Nat), .int .i64 0]) := he
  rw [← HN.out] at he
  subst he
  have B4 : Hid (Below w.heap.size w w4) := then_ (then_ (then_ b1 b2) b3) b4
  have TA : Hid (Toks w4 a l) := (t2.below b3).below b4
  have TB : Hid (Toks w4 a3 m) := t3.below b4
  have TC : Hid (Toks w4 a4 z) := t4
  clear b1 b2 b3 b4 t2 t3 t4
  go_wp2_with fail
  go_loopw [15] (fun i wr => ∃ k : Nat, k ≤ n ∧ i = .int .i64 k ∧ Hid (Below w4.heap.size w4 wr)) (fun i _ => n - (intOf i).toNat)
  case atStart => exact ⟨0, by omega, rfl, Below.refl _ _⟩
  case round =>
    obtain ⟨k, hk, rfl, hB⟩ := hrel
    by_cases hlt : k < n
    · have hlt' : (k : Int) < n := by omega
      obtain ⟨b, off, ha, hbl, hat⟩ := (TC.out.below hB.out).row (k := k) (by rw [← HN.out]; exact hlt)
      subst ha
      obtain ⟨c0, c1, c2⟩ := hat k (by rw [← HN.out]; exact hlt)
      clear hat
      by_cases hk1 : k < n1
      · have hk1' : (k : Int) < n1 := by omega
        obtain ⟨b', off', ha', hbl', hat'⟩ := (TA.out.below hB.out).row (k := k) (by rw [← HN1.out]; exact hk1)
        subst ha'
        obtain ⟨d0, d1, d2⟩ := hat' k (by rw [← HN1.out]; exact hk1)
        rw [HZ.out, getD_left (by rw [← HN1.out]; exact hk1)] at c0 c1 c2
        generalize l.getD k tk0 = u at *
        clear hat'
        have hbx : Hid (Below w4.heap.size w4 (wr.alloc (.cells #[.int .i64 u.kind, .string (str u.text), .int .i64 u.at_] 33))) := hB.out.alloc hB.out.size _
        go_wp2
        go_quiet (fail)
        go_wp2
        go_roundw
        case rel => exact ⟨k + 1, by omega, by go_num, dn' hbx.out _⟩
        case measure => simp [intOf]; omega
      · have hk1' : ¬ (k : Int) < n1 := by omega
        obtain ⟨j, rfl⟩ : ∃ j, k = n1 + j := ⟨k - n1, by omega⟩
        have hj : j < n2 := by omega
        have hj' : (j : Int) < n2 := by omega
        have hsub : ((n1 + j : Nat) : Int) - (n1 : Int) = (j : Int) := by omega
        obtain ⟨b', off', ha', hbl', hat'⟩ := (TB.out.below hB.out).row (k := j) (by rw [← HN2.out]; exact hj)
        subst ha'
        obtain ⟨d0, d1, d2⟩ := hat' j (by rw [← HN2.out]; exact hj)
        rw [HZ.out, HN1.out, getD_right (by rw [← HN2.out]; exact hj), ← HN1.out] at c0 c1 c2
        have hau := HA.out j (by rw [← HN2.out]; exact hj)
        generalize m.getD j tk0 = u at *
        unfold sh at c0 c1 c2
        simp only at c0 c1 c2
        clear hat'
        have hat2 : ((u.at_ : Int) + ((s.size : Int) + 1) != (u.at_ : Int) + (s.size : Int) + 1) = false := by simp; omega
        go_wp2
        go_roundw
        case rel => exact ⟨n1 + j + 1, by omega, by go_num, (hB.out.alloc hB.out.size _).alloc (by have := hB.out.size; simp; omega) _⟩
        case measure => simp [intOf]; omega
    · have hlt' : ¬ (k : Int) < n := by omega
      go_wp2
      go_ret
      exact ⟨rfl, then_ B4.out hB.out⟩

end Go.Proofs.YtnhhajbfohjlbaaDoor.Token
