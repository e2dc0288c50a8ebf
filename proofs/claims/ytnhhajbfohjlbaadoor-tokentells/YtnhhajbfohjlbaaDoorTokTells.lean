/- The ways through TokenTells, over the turned program. -/
import Derived.Test.YtnhhajbfohjlbaaDoorTokRef4
namespace Go.Proofs.YtnhhajbfohjlbaaDoor.Token
open Go.RowKit Go.Proofs.YtnhhajbfohjlbaaDoor.Colour Go.Proofs.YtnhhajbfohjlbaaDoor.Frame
set_option linter.unusedVariables false
set_option linter.unusedSimpArgs false

set_option maxRecDepth 100000 in
set_option maxHeartbeats 4000000 in
theorem tells_1 (s : ByteArray) (w : World) (hF : Fx w) (h : 4096 < s.size) :
    Calls Tryd.prog 3 #[.string s] w fun e w' => e = .returned (.bool true) ∧ Below w.heap.size w w' := by
  have HF : Hid (Fx w) := hF
  have h' : (4096 : Int) < s.size := by omega
  clear hF
  go_enter Tryd.func3, Tryd.ntmps3
  go_wp2_with (go_at_call 8; refine (small_any _ HF.out).mono ?_; rintro e w1 ⟨he, b1⟩; subst he)
  go_ret
  exact ⟨rfl, b1⟩

theorem r_lex_is {s : ByteArray} {x : Lexed} (w : World) (hs : s.size ≤ 1000000) (h : lexF s.data.toList = x) : Calls Tryd.prog 10 #[.string s] w (LexPost x w) := h ▸ r_lex s w hs

set_option maxRecDepth 100000 in
set_option maxHeartbeats 4000000 in
theorem tells_2 (s : ByteArray) (w : World) (hF : Fx w) (h : ¬ 4096 < s.size) :
    Calls Tryd.prog 3 #[.string s] w fun e w' => e = .returned (.bool true) ∧ Below w.heap.size w w' := by
  have HF : Hid (Fx w) := hF
  have h' : ¬ (4096 : Int) < s.size := by omega
  have hs6 : s.size ≤ 1000000 := by omega
  obtain ⟨p1, _, _, p4, _⟩ := lexF_parts (l := s.data.toList) (by rw [size_list]; omega)
  rw [size_list] at p1 p4
  generalize hx : lexF s.data.toList = x at *
  obtain ⟨l, at0, e0⟩ := x
  simp only at p1 p4
  have HX : Hid (lexF s.data.toList = (l, at0, e0)) := hx
  have HJ : Hid ((joinL l).length ≤ 1000000) := (show _ ≤ _ by omega)
  obtain ⟨n, hn⟩ : ∃ n, n = l.length := ⟨_, rfl⟩
  have HN : Hid (n = l.length) := hn
  have hn6 : n ≤ 1000000 := by omega
  obtain ⟨nv, nb, hnr⟩ : ∃ (nv : Int) (nb : Bool), numR s.data.toList = .returned (.tuple #[.int .i64 nv, .bool nb]) := ⟨_, _, rfl⟩
  have HNR : Hid (numR s.data.toList = .returned (.tuple #[.int .i64 nv, .bool nb])) := hnr
  obtain ⟨wb, hwb⟩ : ∃ wb, wordB s.data.toList = wb := ⟨_, rfl⟩
  have HW : Hid (wordB s.data.toList = wb) := hwb
  obtain ⟨J, hJ⟩ : ∃ J, J = str (joinL l) := ⟨_, rfl⟩
  have HJS : Hid (str (joinL l) = J) := hJ.symm
  clear hF hx p1 p4 hn hnr hwb hJ
  go_enter Tryd.func3, Tryd.ntmps3
  go_wp2_with fail
  refine (small_any _ HF.out).mono ?_
  rintro e w1 ⟨he, b1⟩
  subst he
  go_wp2_with fail
  refine (lex_is _ hs6 (HF.out.below b1) HX.out).mono ?_
  rintro e w2 ⟨a, c, he, t2, b2⟩
  replace he : e = .returned (.tuple #[.slice a l.length c, .int .i64 at0, .int .i64 e0]) := he
  rw [← HN.out] at he
  subst he
  go_wp2_with fail
  refine (r_lex_is _ hs6 HX.out).mono ?_
  rintro e w3 ⟨a', c', he, t3, b3⟩
  replace he : e = .returned (.tuple #[.slice a' l.length c', .int .i64 at0, .int .i64 e0]) := he
  rw [← HN.out] at he
  subst he
  have B3 : Hid (Below w.heap.size w w3) := then_ (then_ b1 b2) b3
  have T3 : Hid (Toks w3 a l) := t2.below b3
  have U3 : Hid (Toks w3 a' l) := t3
  clear b1 b2 b3 t2 t3
  go_wp2_with fail
  refine (number_any _ _ hs6 (HF.out.below B3.out)).mono ?_
  rintro e w4 ⟨he, b4⟩
  replace he := he.trans HNR.out
  subst he
  go_wp2_with fail
  refine (r_number _ _ hs6).mono ?_
  rintro e w' ⟨he, hw⟩
  replace he := he.trans HNR.out
  subst he
  have hw := hw.symm
  subst hw
  have B4 : Hid (Below w.heap.size w w4) := then_ B3.out b4
  have T4 : Hid (Toks w4 a l) := T3.out.below b4
  have U4 : Hid (Toks w4 a' l) := U3.out.below b4
  clear b4 T3 U3 B3
  have CT : Hid (Calls Tryd.prog 13 #[.slice a n c, .slice a' n c'] w4 fun e w' => e = .returned (.bool true) ∧ Below w4.heap.size w4 w') := (show Calls Tryd.prog 13 #[.slice a n c, .slice a' n c'] w4 _ by
    have := r_tokens a a' c c' l w4 T4.out U4.out (by rw [← HN.out]; exact hn6)
    rw [← HN.out] at this; exact this)
  go_wp2_with fail
  refine CT.out.mono ?_
  rintro e w5 ⟨he, b5⟩
  subst he
  have B5 : Hid (Below w.heap.size w w5) := then_ B4.out b5
  have T5 : Hid (Toks w5 a l) := T4.out.below b5
  have U5 : Hid (Toks w5 a' l) := U4.out.below b5
  clear b5 T4 U4 B4 CT
  go_wp2_with fail
  refine (word_any _ _).mono ?_
  rintro e w' ⟨he, hw⟩
  rw [HW.out] at he
  subst he
  have hw := hw.symm
  subst hw
  go_wp2_with fail
  refine (r_word _ _).mono ?_
  rintro e w6 ⟨he, b6⟩
  rw [HW.out] at he
  subst he
  have B6 : Hid (Below w.heap.size w w6) := then_ B5.out b6
  have T6 : Hid (Toks w6 a l) := T5.out.below b6
  have U6 : Hid (Toks w6 a' l) := U5.out.below b6
  clear b6 T5 U5 B5
  have CJ : Hid (Calls Tryd.prog 16 #[.slice a n c] w6 fun e w' => e = .returned (.string J) ∧ Below w6.heap.size w6 w') := (show Calls Tryd.prog 16 #[.slice a n c] w6 _ by
    have := join_any a c l w6 T6.out (by rw [← HN.out]; exact hn6) HJ.out
    rw [← HN.out, HJS.out] at this; exact this)
  go_wp2_with fail
  refine CJ.out.mono ?_
  rintro e w7 ⟨he, b7⟩
  subst he
  have CR : Hid (Calls Tryd.prog 17 #[.slice a' n c'] w7 fun e w' => e = .returned (.string J) ∧ w' = w7) := (show Calls Tryd.prog 17 #[.slice a' n c'] w7 _ by
    have := r_join a' c' l w7 (U6.out.below b7) (by rw [← HN.out]; exact hn6) HJ.out
    rw [← HN.out, HJS.out] at this; exact this)
  go_wp2_with fail
  refine CR.out.mono ?_
  rintro e w' ⟨he, hw⟩
  subst he
  have hw := hw.symm
  subst hw
  go_wp2
  go_ret
  exact ⟨rfl, then_ B6.out b7⟩
end Go.Proofs.YtnhhajbfohjlbaaDoor.Token
