/- small of the laws of layer 5: a contract of the call, over the turned program. -/
import Derived.Test.YtnhhajbfohjlbaaDoorTokJoin
import Derived.Test.YtnhhajbfohjlbaaDoorTokWord
namespace Go.Proofs.YtnhhajbfohjlbaaDoor.Token
open Go.RowKit Go.Proofs.YtnhhajbfohjlbaaDoor.Colour Go.Proofs.YtnhhajbfohjlbaaDoor.Frame
set_option linter.unusedVariables false
set_option linter.unusedSimpArgs false

def lex1 : Lexed := ([⟨1, [97], 0⟩, ⟨3, [60, 61], 1⟩, ⟨2, [49], 3⟩, ⟨3, [46, 46], 4⟩, ⟨2, [50], 6⟩], 11, 0)
theorem lex1_is : lexF [97, 60, 61, 49, 46, 46, 50, 32, 35, 32, 120] = lex1 := by rfl
theorem lex2_is : lexF [97, 32, 48, 49] = ([], 2, 4) := by rfl
theorem lex3_is : lexF [97, 32, 36] = ([], 2, 4) := by rfl
theorem lex4_is : lexF [57, 57, 57, 57, 57, 57, 57, 57, 57, 57, 57, 57, 57, 57, 57, 57, 57, 57, 57, 57] = ([], 0, 6) := by rfl
theorem num1_is : numR [52, 50] = .returned (.tuple #[.int .i64 42, .bool true]) := by rfl
theorem join1_is : joinL lex1.1 = [97, 32, 60, 61, 32, 49, 32, 46, 46, 32, 50] := by rfl
theorem lex_is {s : ByteArray} {x : Lexed} (w : World) (hs : s.size ≤ 1000000) (hF : Fx w) (h : lexF s.data.toList = x) : Calls Tryd.prog 9 #[.string s] w (LexPost x w) := h ▸ lex_any s w hs hF
theorem fst {a b c : World} (h : Below a.heap.size a b) (k : Below b.heap.size b c) : Below a.heap.size a c := then_ h k

set_option maxRecDepth 100000 in
set_option maxHeartbeats 4000000 in
theorem small_any (w : World) (hF : Fx w) : Calls Tryd.prog 8 #[] w fun e w' => e = .returned (.bool true) ∧ Below w.heap.size w w' := by
  have HF : Hid (Fx w) := hF
  clear hF
  go_enter Tryd.func8, Tryd.ntmps8
  go_wp2_with fail
  refine (lex_is w (by decide) HF.out lex1_is).mono ?_
  rintro e w1 ⟨a1, k1, he, t1, b1⟩
  replace he : e = .returned (.tuple #[.slice a1 5 k1, .int .i64 11, .int .i64 0]) := he
  subst he
  have T1 : Hid (Toks w1 a1 lex1.1) := t1
  have B1 : Hid (Below w.heap.size w w1) := b1
  clear t1 b1
  go_wp2_with fail
  refine (lex_is w1 (by decide) (HF.out.below B1.out) lex2_is).mono ?_
  rintro e w2 ⟨a2, k2, he, _, b2⟩
  replace he : e = .returned (.tuple #[.slice a2 0 k2, .int .i64 2, .int .i64 4]) := he
  subst he
  have B2 : Hid (Below w.heap.size w w2) := then_ B1.out b2
  have T2 : Hid (Toks w2 a1 lex1.1) := T1.out.below b2
  clear b2 T1 B1
  go_wp2_with fail
  refine (lex_is w2 (by decide) (HF.out.below B2.out) lex3_is).mono ?_
  rintro e w3 ⟨a3, k3, he, _, b3⟩
  replace he : e = .returned (.tuple #[.slice a3 0 k3, .int .i64 2, .int .i64 4]) := he
  subst he
  have B3 : Hid (Below w.heap.size w w3) := then_ B2.out b3
  have T3 : Hid (Toks w3 a1 lex1.1) := T2.out.below b3
  clear b3 T2 B2
  go_wp2_with fail
  refine (lex_is w3 (by decide) (HF.out.below B3.out) lex4_is).mono ?_
  rintro e w4 ⟨a4, k4, he, _, b4⟩
  replace he : e = .returned (.tuple #[.slice a4 0 k4, .int .i64 0, .int .i64 6]) := he
  subst he
  have B4 : Hid (Below w.heap.size w w4) := then_ B3.out b4
  have T4 : Hid (Toks w4 a1 lex1.1) := T3.out.below b4
  clear b4 T3 B3
  go_wp2_with fail
  refine (number_any _ w4 (by decide) (HF.out.below B4.out)).mono ?_
  rintro e w5 ⟨he, b5⟩
  replace he : e = .returned (.tuple #[.int .i64 42, .bool true]) := he.trans num1_is
  subst he
  have B5 : Hid (Below w.heap.size w w5) := then_ B4.out b5
  have T5 : Hid (Toks w5 a1 lex1.1) := T4.out.below b5
  clear b5 T4 B4
  obtain ⟨b, off, ha, hbl, hat⟩ := T5.out.row (k := 0) (by decide)
  subst ha
  have q10 : w5.cell? ⟨b, off + 3, none⟩ = some (.int .i64 3) := (hat 1 (by decide)).1
  have q11 : w5.cell? ⟨b, off + 4, none⟩ = some (.string ⟨#[60, 61]⟩) := (hat 1 (by decide)).2.1
  have q12 : w5.cell? ⟨b, off + 5, none⟩ = some (.int .i64 1) := (hat 1 (by decide)).2.2
  have q31 : w5.cell? ⟨b, off + 10, none⟩ = some (.string ⟨#[46, 46]⟩) := (hat 3 (by decide)).2.1
  have J : Hid (∀ c, Calls Tryd.prog 16 #[.slice (some ⟨b, off, none⟩) 5 c] w5 fun e w' => e = .returned (.string ⟨#[97, 32, 60, 61, 32, 49, 32, 46, 46, 32, 50]⟩) ∧ Below w5.heap.size w5 w') := fun c => join_any _ c lex1.1 w5 T5.out (by decide) (by decide)
  have HW1 : Hid (wordB [120, 111, 114] = true) := (show wordB [120, 111, 114] = true by decide)
  have HW2 : Hid (wordB [120] = false) := (show wordB [120] = false by decide)
  clear hat
  go_wp2_with fail
  refine (word_any _ _).mono ?_; rintro e w' ⟨he, hw⟩; replace he : e = .returned (.bool true) := he; subst he; have hw := hw.symm; subst hw
  go_wp2_with fail
  refine (word_any _ _).mono ?_; rintro e w' ⟨he, hw⟩; replace he : e = .returned (.bool false) := he; subst he; have hw := hw.symm; subst hw
  go_wp2_with (go_at_call 16; refine (J.out _).mono ?_; rintro e w6 ⟨he, b6⟩; subst he)
  go_ret
  exact ⟨rfl, then_ B5.out b6⟩
end Go.Proofs.YtnhhajbfohjlbaaDoor.Token
