/- Word of package token: a contract of the call, over the turned program. -/
import Derived.Test.YtgdkomkflfodaaaGreatTokRun
namespace Go.Proofs.YtgdkomkflfodaaaGreat.Token
open Go.RowKit Go.Proofs.YtgdkomkflfodaaaGreat.Colour
set_option linter.unusedVariables false
set_option linter.unusedSimpArgs false
theorem list_ne {s : ByteArray} {l : List UInt8} (h : s.data.toList ≠ l) : (s.toList == l) = false := by
  rw [Go.ByteArray.toList_eq]; exact beq_eq_false_iff_ne.2 h
theorem list_is {s : ByteArray} {l : List UInt8} (h : s.data.toList = l) : (s.toList == l) = true := by
  rw [Go.ByteArray.toList_eq, h]; exact beq_self_eq_true l
theorem word_ne {s : ByteArray} (h : wordB s.data.toList = false) {l : List UInt8} (hl : l ∈ wordsL) : s.data.toList ≠ l := fun e => by
  have := of_decide_eq_false h; rw [e] at this; exact this hl

set_option maxHeartbeats 2000000 in
theorem word_no (s : ByteArray) (w : World) (hs : wordB s.data.toList = false) : Calls Tryz.prog 19 #[.string s] w fun e w' => e = .returned (.bool false) ∧ w' = w := by
  have h0 : (s.toList == [99, 111, 108, 111, 117, 114]) = false := list_ne (word_ne hs (by decide))
  have h1 : (s.toList == [112, 108, 97, 99, 101]) = false := list_ne (word_ne hs (by decide))
  have h2 : (s.toList == [116, 97, 115, 107]) = false := list_ne (word_ne hs (by decide))
  have h3 : (s.toList == [118, 97, 114]) = false := list_ne (word_ne hs (by decide))
  have h4 : (s.toList == [119, 104, 101, 110]) = false := list_ne (word_ne hs (by decide))
  have h5 : (s.toList == [106, 111, 105, 110]) = false := list_ne (word_ne hs (by decide))
  have h6 : (s.toList == [115, 112, 108, 105, 116]) = false := list_ne (word_ne hs (by decide))
  have h7 : (s.toList == [105, 110]) = false := list_ne (word_ne hs (by decide))
  have h8 : (s.toList == [111, 117, 116]) = false := list_ne (word_ne hs (by decide))
  have h9 : (s.toList == [99, 97, 110, 99, 101, 108]) = false := list_ne (word_ne hs (by decide))
  have h10 : (s.toList == [97, 102, 116, 101, 114]) = false := list_ne (word_ne hs (by decide))
  have h11 : (s.toList == [109, 97, 110, 121]) = false := list_ne (word_ne hs (by decide))
  have h12 : (s.toList == [102, 114, 111, 109]) = false := list_ne (word_ne hs (by decide))
  have h13 : (s.toList == [116, 111]) = false := list_ne (word_ne hs (by decide))
  have h14 : (s.toList == [105, 110, 116]) = false := list_ne (word_ne hs (by decide))
  have h15 : (s.toList == [101, 110, 117, 109]) = false := list_ne (word_ne hs (by decide))
  have h16 : (s.toList == [112, 97, 105, 114]) = false := list_ne (word_ne hs (by decide))
  have h17 : (s.toList == [97, 110, 100]) = false := list_ne (word_ne hs (by decide))
  have h18 : (s.toList == [120, 111, 114]) = false := list_ne (word_ne hs (by decide))
  have h19 : (s.toList == [111, 114]) = false := list_ne (word_ne hs (by decide))
  have h20 : (s.toList == [105, 102]) = false := list_ne (word_ne hs (by decide))
  clear hs
  go_enter Tryz.func19, Tryz.ntmps19
  go_wp2
  go_ret
  exact ⟨rfl, rfl⟩

set_option maxHeartbeats 2000000 in
theorem word_0 (s : ByteArray) (w : World) (hs : s.data.toList = [99, 111, 108, 111, 117, 114]) : Calls Tryz.prog 19 #[.string s] w fun e w' => e = .returned (.bool true) ∧ w' = w := by
  have h0 : (s.toList == [99, 111, 108, 111, 117, 114]) = true := list_is hs
  have h1 : (s.toList == [112, 108, 97, 99, 101]) = false := list_ne (by rw [hs]; decide)
  have h2 : (s.toList == [116, 97, 115, 107]) = false := list_ne (by rw [hs]; decide)
  have h3 : (s.toList == [118, 97, 114]) = false := list_ne (by rw [hs]; decide)
  have h4 : (s.toList == [119, 104, 101, 110]) = false := list_ne (by rw [hs]; decide)
  have h5 : (s.toList == [106, 111, 105, 110]) = false := list_ne (by rw [hs]; decide)
  have h6 : (s.toList == [115, 112, 108, 105, 116]) = false := list_ne (by rw [hs]; decide)
  have h7 : (s.toList == [105, 110]) = false := list_ne (by rw [hs]; decide)
  have h8 : (s.toList == [111, 117, 116]) = false := list_ne (by rw [hs]; decide)
  have h9 : (s.toList == [99, 97, 110, 99, 101, 108]) = false := list_ne (by rw [hs]; decide)
  have h10 : (s.toList == [97, 102, 116, 101, 114]) = false := list_ne (by rw [hs]; decide)
  have h11 : (s.toList == [109, 97, 110, 121]) = false := list_ne (by rw [hs]; decide)
  have h12 : (s.toList == [102, 114, 111, 109]) = false := list_ne (by rw [hs]; decide)
  have h13 : (s.toList == [116, 111]) = false := list_ne (by rw [hs]; decide)
  have h14 : (s.toList == [105, 110, 116]) = false := list_ne (by rw [hs]; decide)
  have h15 : (s.toList == [101, 110, 117, 109]) = false := list_ne (by rw [hs]; decide)
  have h16 : (s.toList == [112, 97, 105, 114]) = false := list_ne (by rw [hs]; decide)
  have h17 : (s.toList == [97, 110, 100]) = false := list_ne (by rw [hs]; decide)
  have h18 : (s.toList == [120, 111, 114]) = false := list_ne (by rw [hs]; decide)
  have h19 : (s.toList == [111, 114]) = false := list_ne (by rw [hs]; decide)
  have h20 : (s.toList == [105, 102]) = false := list_ne (by rw [hs]; decide)
  clear hs
  go_enter Tryz.func19, Tryz.ntmps19
  go_wp2
  go_ret
  exact ⟨rfl, rfl⟩

set_option maxHeartbeats 2000000 in
theorem word_1 (s : ByteArray) (w : World) (hs : s.data.toList = [112, 108, 97, 99, 101]) : Calls Tryz.prog 19 #[.string s] w fun e w' => e = .returned (.bool true) ∧ w' = w := by
  have h0 : (s.toList == [99, 111, 108, 111, 117, 114]) = false := list_ne (by rw [hs]; decide)
  have h1 : (s.toList == [112, 108, 97, 99, 101]) = true := list_is hs
  have h2 : (s.toList == [116, 97, 115, 107]) = false := list_ne (by rw [hs]; decide)
  have h3 : (s.toList == [118, 97, 114]) = false := list_ne (by rw [hs]; decide)
  have h4 : (s.toList == [119, 104, 101, 110]) = false := list_ne (by rw [hs]; decide)
  have h5 : (s.toList == [106, 111, 105, 110]) = false := list_ne (by rw [hs]; decide)
  have h6 : (s.toList == [115, 112, 108, 105, 116]) = false := list_ne (by rw [hs]; decide)
  have h7 : (s.toList == [105, 110]) = false := list_ne (by rw [hs]; decide)
  have h8 : (s.toList == [111, 117, 116]) = false := list_ne (by rw [hs]; decide)
  have h9 : (s.toList == [99, 97, 110, 99, 101, 108]) = false := list_ne (by rw [hs]; decide)
  have h10 : (s.toList == [97, 102, 116, 101, 114]) = false := list_ne (by rw [hs]; decide)
  have h11 : (s.toList == [109, 97, 110, 121]) = false := list_ne (by rw [hs]; decide)
  have h12 : (s.toList == [102, 114, 111, 109]) = false := list_ne (by rw [hs]; decide)
  have h13 : (s.toList == [116, 111]) = false := list_ne (by rw [hs]; decide)
  have h14 : (s.toList == [105, 110, 116]) = false := list_ne (by rw [hs]; decide)
  have h15 : (s.toList == [101, 110, 117, 109]) = false := list_ne (by rw [hs]; decide)
  have h16 : (s.toList == [112, 97, 105, 114]) = false := list_ne (by rw [hs]; decide)
  have h17 : (s.toList == [97, 110, 100]) = false := list_ne (by rw [hs]; decide)
  have h18 : (s.toList == [120, 111, 114]) = false := list_ne (by rw [hs]; decide)
  have h19 : (s.toList == [111, 114]) = false := list_ne (by rw [hs]; decide)
  have h20 : (s.toList == [105, 102]) = false := list_ne (by rw [hs]; decide)
  clear hs
  go_enter Tryz.func19, Tryz.ntmps19
  go_wp2
  go_ret
  exact ⟨rfl, rfl⟩

set_option maxHeartbeats 2000000 in
theorem word_2 (s : ByteArray) (w : World) (hs : s.data.toList = [116, 97, 115, 107]) : Calls Tryz.prog 19 #[.string s] w fun e w' => e = .returned (.bool true) ∧ w' = w := by
  have h0 : (s.toList == [99, 111, 108, 111, 117, 114]) = false := list_ne (by rw [hs]; decide)
  have h1 : (s.toList == [112, 108, 97, 99, 101]) = false := list_ne (by rw [hs]; decide)
  have h2 : (s.toList == [116, 97, 115, 107]) = true := list_is hs
  have h3 : (s.toList == [118, 97, 114]) = false := list_ne (by rw [hs]; decide)
  have h4 : (s.toList == [119, 104, 101, 110]) = false := list_ne (by rw [hs]; decide)
  have h5 : (s.toList == [106, 111, 105, 110]) = false := list_ne (by rw [hs]; decide)
  have h6 : (s.toList == [115, 112, 108, 105, 116]) = false := list_ne (by rw [hs]; decide)
  have h7 : (s.toList == [105, 110]) = false := list_ne (by rw [hs]; decide)
  have h8 : (s.toList == [111, 117, 116]) = false := list_ne (by rw [hs]; decide)
  have h9 : (s.toList == [99, 97, 110, 99, 101, 108]) = false := list_ne (by rw [hs]; decide)
  have h10 : (s.toList == [97, 102, 116, 101, 114]) = false := list_ne (by rw [hs]; decide)
  have h11 : (s.toList == [109, 97, 110, 121]) = false := list_ne (by rw [hs]; decide)
  have h12 : (s.toList == [102, 114, 111, 109]) = false := list_ne (by rw [hs]; decide)
  have h13 : (s.toList == [116, 111]) = false := list_ne (by rw [hs]; decide)
  have h14 : (s.toList == [105, 110, 116]) = false := list_ne (by rw [hs]; decide)
  have h15 : (s.toList == [101, 110, 117, 109]) = false := list_ne (by rw [hs]; decide)
  have h16 : (s.toList == [112, 97, 105, 114]) = false := list_ne (by rw [hs]; decide)
  have h17 : (s.toList == [97, 110, 100]) = false := list_ne (by rw [hs]; decide)
  have h18 : (s.toList == [120, 111, 114]) = false := list_ne (by rw [hs]; decide)
  have h19 : (s.toList == [111, 114]) = false := list_ne (by rw [hs]; decide)
  have h20 : (s.toList == [105, 102]) = false := list_ne (by rw [hs]; decide)
  clear hs
  go_enter Tryz.func19, Tryz.ntmps19
  go_wp2
  go_ret
  exact ⟨rfl, rfl⟩

set_option maxHeartbeats 2000000 in
theorem word_3 (s : ByteArray) (w : World) (hs : s.data.toList = [118, 97, 114]) : Calls Tryz.prog 19 #[.string s] w fun e w' => e = .returned (.bool true) ∧ w' = w := by
  have h0 : (s.toList == [99, 111, 108, 111, 117, 114]) = false := list_ne (by rw [hs]; decide)
  have h1 : (s.toList == [112, 108, 97, 99, 101]) = false := list_ne (by rw [hs]; decide)
  have h2 : (s.toList == [116, 97, 115, 107]) = false := list_ne (by rw [hs]; decide)
  have h3 : (s.toList == [118, 97, 114]) = true := list_is hs
  have h4 : (s.toList == [119, 104, 101, 110]) = false := list_ne (by rw [hs]; decide)
  have h5 : (s.toList == [106, 111, 105, 110]) = false := list_ne (by rw [hs]; decide)
  have h6 : (s.toList == [115, 112, 108, 105, 116]) = false := list_ne (by rw [hs]; decide)
  have h7 : (s.toList == [105, 110]) = false := list_ne (by rw [hs]; decide)
  have h8 : (s.toList == [111, 117, 116]) = false := list_ne (by rw [hs]; decide)
  have h9 : (s.toList == [99, 97, 110, 99, 101, 108]) = false := list_ne (by rw [hs]; decide)
  have h10 : (s.toList == [97, 102, 116, 101, 114]) = false := list_ne (by rw [hs]; decide)
  have h11 : (s.toList == [109, 97, 110, 121]) = false := list_ne (by rw [hs]; decide)
  have h12 : (s.toList == [102, 114, 111, 109]) = false := list_ne (by rw [hs]; decide)
  have h13 : (s.toList == [116, 111]) = false := list_ne (by rw [hs]; decide)
  have h14 : (s.toList == [105, 110, 116]) = false := list_ne (by rw [hs]; decide)
  have h15 : (s.toList == [101, 110, 117, 109]) = false := list_ne (by rw [hs]; decide)
  have h16 : (s.toList == [112, 97, 105, 114]) = false := list_ne (by rw [hs]; decide)
  have h17 : (s.toList == [97, 110, 100]) = false := list_ne (by rw [hs]; decide)
  have h18 : (s.toList == [120, 111, 114]) = false := list_ne (by rw [hs]; decide)
  have h19 : (s.toList == [111, 114]) = false := list_ne (by rw [hs]; decide)
  have h20 : (s.toList == [105, 102]) = false := list_ne (by rw [hs]; decide)
  clear hs
  go_enter Tryz.func19, Tryz.ntmps19
  go_wp2
  go_ret
  exact ⟨rfl, rfl⟩

set_option maxHeartbeats 2000000 in
theorem word_4 (s : ByteArray) (w : World) (hs : s.data.toList = [119, 104, 101, 110]) : Calls Tryz.prog 19 #[.string s] w fun e w' => e = .returned (.bool true) ∧ w' = w := by
  have h0 : (s.toList == [99, 111, 108, 111, 117, 114]) = false := list_ne (by rw [hs]; decide)
  have h1 : (s.toList == [112, 108, 97, 99, 101]) = false := list_ne (by rw [hs]; decide)
  have h2 : (s.toList == [116, 97, 115, 107]) = false := list_ne (by rw [hs]; decide)
  have h3 : (s.toList == [118, 97, 114]) = false := list_ne (by rw [hs]; decide)
  have h4 : (s.toList == [119, 104, 101, 110]) = true := list_is hs
  have h5 : (s.toList == [106, 111, 105, 110]) = false := list_ne (by rw [hs]; decide)
  have h6 : (s.toList == [115, 112, 108, 105, 116]) = false := list_ne (by rw [hs]; decide)
  have h7 : (s.toList == [105, 110]) = false := list_ne (by rw [hs]; decide)
  have h8 : (s.toList == [111, 117, 116]) = false := list_ne (by rw [hs]; decide)
  have h9 : (s.toList == [99, 97, 110, 99, 101, 108]) = false := list_ne (by rw [hs]; decide)
  have h10 : (s.toList == [97, 102, 116, 101, 114]) = false := list_ne (by rw [hs]; decide)
  have h11 : (s.toList == [109, 97, 110, 121]) = false := list_ne (by rw [hs]; decide)
  have h12 : (s.toList == [102, 114, 111, 109]) = false := list_ne (by rw [hs]; decide)
  have h13 : (s.toList == [116, 111]) = false := list_ne (by rw [hs]; decide)
  have h14 : (s.toList == [105, 110, 116]) = false := list_ne (by rw [hs]; decide)
  have h15 : (s.toList == [101, 110, 117, 109]) = false := list_ne (by rw [hs]; decide)
  have h16 : (s.toList == [112, 97, 105, 114]) = false := list_ne (by rw [hs]; decide)
  have h17 : (s.toList == [97, 110, 100]) = false := list_ne (by rw [hs]; decide)
  have h18 : (s.toList == [120, 111, 114]) = false := list_ne (by rw [hs]; decide)
  have h19 : (s.toList == [111, 114]) = false := list_ne (by rw [hs]; decide)
  have h20 : (s.toList == [105, 102]) = false := list_ne (by rw [hs]; decide)
  clear hs
  go_enter Tryz.func19, Tryz.ntmps19
  go_wp2
  go_ret
  exact ⟨rfl, rfl⟩

set_option maxHeartbeats 2000000 in
theorem word_5 (s : ByteArray) (w : World) (hs : s.data.toList = [106, 111, 105, 110]) : Calls Tryz.prog 19 #[.string s] w fun e w' => e = .returned (.bool true) ∧ w' = w := by
  have h0 : (s.toList == [99, 111, 108, 111, 117, 114]) = false := list_ne (by rw [hs]; decide)
  have h1 : (s.toList == [112, 108, 97, 99, 101]) = false := list_ne (by rw [hs]; decide)
  have h2 : (s.toList == [116, 97, 115, 107]) = false := list_ne (by rw [hs]; decide)
  have h3 : (s.toList == [118, 97, 114]) = false := list_ne (by rw [hs]; decide)
  have h4 : (s.toList == [119, 104, 101, 110]) = false := list_ne (by rw [hs]; decide)
  have h5 : (s.toList == [106, 111, 105, 110]) = true := list_is hs
  have h6 : (s.toList == [115, 112, 108, 105, 116]) = false := list_ne (by rw [hs]; decide)
  have h7 : (s.toList == [105, 110]) = false := list_ne (by rw [hs]; decide)
  have h8 : (s.toList == [111, 117, 116]) = false := list_ne (by rw [hs]; decide)
  have h9 : (s.toList == [99, 97, 110, 99, 101, 108]) = false := list_ne (by rw [hs]; decide)
  have h10 : (s.toList == [97, 102, 116, 101, 114]) = false := list_ne (by rw [hs]; decide)
  have h11 : (s.toList == [109, 97, 110, 121]) = false := list_ne (by rw [hs]; decide)
  have h12 : (s.toList == [102, 114, 111, 109]) = false := list_ne (by rw [hs]; decide)
  have h13 : (s.toList == [116, 111]) = false := list_ne (by rw [hs]; decide)
  have h14 : (s.toList == [105, 110, 116]) = false := list_ne (by rw [hs]; decide)
  have h15 : (s.toList == [101, 110, 117, 109]) = false := list_ne (by rw [hs]; decide)
  have h16 : (s.toList == [112, 97, 105, 114]) = false := list_ne (by rw [hs]; decide)
  have h17 : (s.toList == [97, 110, 100]) = false := list_ne (by rw [hs]; decide)
  have h18 : (s.toList == [120, 111, 114]) = false := list_ne (by rw [hs]; decide)
  have h19 : (s.toList == [111, 114]) = false := list_ne (by rw [hs]; decide)
  have h20 : (s.toList == [105, 102]) = false := list_ne (by rw [hs]; decide)
  clear hs
  go_enter Tryz.func19, Tryz.ntmps19
  go_wp2
  go_ret
  exact ⟨rfl, rfl⟩

set_option maxHeartbeats 2000000 in
theorem word_6 (s : ByteArray) (w : World) (hs : s.data.toList = [115, 112, 108, 105, 116]) : Calls Tryz.prog 19 #[.string s] w fun e w' => e = .returned (.bool true) ∧ w' = w := by
  have h0 : (s.toList == [99, 111, 108, 111, 117, 114]) = false := list_ne (by rw [hs]; decide)
  have h1 : (s.toList == [112, 108, 97, 99, 101]) = false := list_ne (by rw [hs]; decide)
  have h2 : (s.toList == [116, 97, 115, 107]) = false := list_ne (by rw [hs]; decide)
  have h3 : (s.toList == [118, 97, 114]) = false := list_ne (by rw [hs]; decide)
  have h4 : (s.toList == [119, 104, 101, 110]) = false := list_ne (by rw [hs]; decide)
  have h5 : (s.toList == [106, 111, 105, 110]) = false := list_ne (by rw [hs]; decide)
  have h6 : (s.toList == [115, 112, 108, 105, 116]) = true := list_is hs
  have h7 : (s.toList == [105, 110]) = false := list_ne (by rw [hs]; decide)
  have h8 : (s.toList == [111, 117, 116]) = false := list_ne (by rw [hs]; decide)
  have h9 : (s.toList == [99, 97, 110, 99, 101, 108]) = false := list_ne (by rw [hs]; decide)
  have h10 : (s.toList == [97, 102, 116, 101, 114]) = false := list_ne (by rw [hs]; decide)
  have h11 : (s.toList == [109, 97, 110, 121]) = false := list_ne (by rw [hs]; decide)
  have h12 : (s.toList == [102, 114, 111, 109]) = false := list_ne (by rw [hs]; decide)
  have h13 : (s.toList == [116, 111]) = false := list_ne (by rw [hs]; decide)
  have h14 : (s.toList == [105, 110, 116]) = false := list_ne (by rw [hs]; decide)
  have h15 : (s.toList == [101, 110, 117, 109]) = false := list_ne (by rw [hs]; decide)
  have h16 : (s.toList == [112, 97, 105, 114]) = false := list_ne (by rw [hs]; decide)
  have h17 : (s.toList == [97, 110, 100]) = false := list_ne (by rw [hs]; decide)
  have h18 : (s.toList == [120, 111, 114]) = false := list_ne (by rw [hs]; decide)
  have h19 : (s.toList == [111, 114]) = false := list_ne (by rw [hs]; decide)
  have h20 : (s.toList == [105, 102]) = false := list_ne (by rw [hs]; decide)
  clear hs
  go_enter Tryz.func19, Tryz.ntmps19
  go_wp2
  go_ret
  exact ⟨rfl, rfl⟩

set_option maxHeartbeats 2000000 in
theorem word_7 (s : ByteArray) (w : World) (hs : s.data.toList = [105, 110]) : Calls Tryz.prog 19 #[.string s] w fun e w' => e = .returned (.bool true) ∧ w' = w := by
  have h0 : (s.toList == [99, 111, 108, 111, 117, 114]) = false := list_ne (by rw [hs]; decide)
  have h1 : (s.toList == [112, 108, 97, 99, 101]) = false := list_ne (by rw [hs]; decide)
  have h2 : (s.toList == [116, 97, 115, 107]) = false := list_ne (by rw [hs]; decide)
  have h3 : (s.toList == [118, 97, 114]) = false := list_ne (by rw [hs]; decide)
  have h4 : (s.toList == [119, 104, 101, 110]) = false := list_ne (by rw [hs]; decide)
  have h5 : (s.toList == [106, 111, 105, 110]) = false := list_ne (by rw [hs]; decide)
  have h6 : (s.toList == [115, 112, 108, 105, 116]) = false := list_ne (by rw [hs]; decide)
  have h7 : (s.toList == [105, 110]) = true := list_is hs
  have h8 : (s.toList == [111, 117, 116]) = false := list_ne (by rw [hs]; decide)
  have h9 : (s.toList == [99, 97, 110, 99, 101, 108]) = false := list_ne (by rw [hs]; decide)
  have h10 : (s.toList == [97, 102, 116, 101, 114]) = false := list_ne (by rw [hs]; decide)
  have h11 : (s.toList == [109, 97, 110, 121]) = false := list_ne (by rw [hs]; decide)
  have h12 : (s.toList == [102, 114, 111, 109]) = false := list_ne (by rw [hs]; decide)
  have h13 : (s.toList == [116, 111]) = false := list_ne (by rw [hs]; decide)
  have h14 : (s.toList == [105, 110, 116]) = false := list_ne (by rw [hs]; decide)
  have h15 : (s.toList == [101, 110, 117, 109]) = false := list_ne (by rw [hs]; decide)
  have h16 : (s.toList == [112, 97, 105, 114]) = false := list_ne (by rw [hs]; decide)
  have h17 : (s.toList == [97, 110, 100]) = false := list_ne (by rw [hs]; decide)
  have h18 : (s.toList == [120, 111, 114]) = false := list_ne (by rw [hs]; decide)
  have h19 : (s.toList == [111, 114]) = false := list_ne (by rw [hs]; decide)
  have h20 : (s.toList == [105, 102]) = false := list_ne (by rw [hs]; decide)
  clear hs
  go_enter Tryz.func19, Tryz.ntmps19
  go_wp2
  go_ret
  exact ⟨rfl, rfl⟩

set_option maxHeartbeats 2000000 in
theorem word_8 (s : ByteArray) (w : World) (hs : s.data.toList = [111, 117, 116]) : Calls Tryz.prog 19 #[.string s] w fun e w' => e = .returned (.bool true) ∧ w' = w := by
  have h0 : (s.toList == [99, 111, 108, 111, 117, 114]) = false := list_ne (by rw [hs]; decide)
  have h1 : (s.toList == [112, 108, 97, 99, 101]) = false := list_ne (by rw [hs]; decide)
  have h2 : (s.toList == [116, 97, 115, 107]) = false := list_ne (by rw [hs]; decide)
  have h3 : (s.toList == [118, 97, 114]) = false := list_ne (by rw [hs]; decide)
  have h4 : (s.toList == [119, 104, 101, 110]) = false := list_ne (by rw [hs]; decide)
  have h5 : (s.toList == [106, 111, 105, 110]) = false := list_ne (by rw [hs]; decide)
  have h6 : (s.toList == [115, 112, 108, 105, 116]) = false := list_ne (by rw [hs]; decide)
  have h7 : (s.toList == [105, 110]) = false := list_ne (by rw [hs]; decide)
  have h8 : (s.toList == [111, 117, 116]) = true := list_is hs
  have h9 : (s.toList == [99, 97, 110, 99, 101, 108]) = false := list_ne (by rw [hs]; decide)
  have h10 : (s.toList == [97, 102, 116, 101, 114]) = false := list_ne (by rw [hs]; decide)
  have h11 : (s.toList == [109, 97, 110, 121]) = false := list_ne (by rw [hs]; decide)
  have h12 : (s.toList == [102, 114, 111, 109]) = false := list_ne (by rw [hs]; decide)
  have h13 : (s.toList == [116, 111]) = false := list_ne (by rw [hs]; decide)
  have h14 : (s.toList == [105, 110, 116]) = false := list_ne (by rw [hs]; decide)
  have h15 : (s.toList == [101, 110, 117, 109]) = false := list_ne (by rw [hs]; decide)
  have h16 : (s.toList == [112, 97, 105, 114]) = false := list_ne (by rw [hs]; decide)
  have h17 : (s.toList == [97, 110, 100]) = false := list_ne (by rw [hs]; decide)
  have h18 : (s.toList == [120, 111, 114]) = false := list_ne (by rw [hs]; decide)
  have h19 : (s.toList == [111, 114]) = false := list_ne (by rw [hs]; decide)
  have h20 : (s.toList == [105, 102]) = false := list_ne (by rw [hs]; decide)
  clear hs
  go_enter Tryz.func19, Tryz.ntmps19
  go_wp2
  go_ret
  exact ⟨rfl, rfl⟩

set_option maxHeartbeats 2000000 in
theorem word_9 (s : ByteArray) (w : World) (hs : s.data.toList = [99, 97, 110, 99, 101, 108]) : Calls Tryz.prog 19 #[.string s] w fun e w' => e = .returned (.bool true) ∧ w' = w := by
  have h0 : (s.toList == [99, 111, 108, 111, 117, 114]) = false := list_ne (by rw [hs]; decide)
  have h1 : (s.toList == [112, 108, 97, 99, 101]) = false := list_ne (by rw [hs]; decide)
  have h2 : (s.toList == [116, 97, 115, 107]) = false := list_ne (by rw [hs]; decide)
  have h3 : (s.toList == [118, 97, 114]) = false := list_ne (by rw [hs]; decide)
  have h4 : (s.toList == [119, 104, 101, 110]) = false := list_ne (by rw [hs]; decide)
  have h5 : (s.toList == [106, 111, 105, 110]) = false := list_ne (by rw [hs]; decide)
  have h6 : (s.toList == [115, 112, 108, 105, 116]) = false := list_ne (by rw [hs]; decide)
  have h7 : (s.toList == [105, 110]) = false := list_ne (by rw [hs]; decide)
  have h8 : (s.toList == [111, 117, 116]) = false := list_ne (by rw [hs]; decide)
  have h9 : (s.toList == [99, 97, 110, 99, 101, 108]) = true := list_is hs
  have h10 : (s.toList == [97, 102, 116, 101, 114]) = false := list_ne (by rw [hs]; decide)
  have h11 : (s.toList == [109, 97, 110, 121]) = false := list_ne (by rw [hs]; decide)
  have h12 : (s.toList == [102, 114, 111, 109]) = false := list_ne (by rw [hs]; decide)
  have h13 : (s.toList == [116, 111]) = false := list_ne (by rw [hs]; decide)
  have h14 : (s.toList == [105, 110, 116]) = false := list_ne (by rw [hs]; decide)
  have h15 : (s.toList == [101, 110, 117, 109]) = false := list_ne (by rw [hs]; decide)
  have h16 : (s.toList == [112, 97, 105, 114]) = false := list_ne (by rw [hs]; decide)
  have h17 : (s.toList == [97, 110, 100]) = false := list_ne (by rw [hs]; decide)
  have h18 : (s.toList == [120, 111, 114]) = false := list_ne (by rw [hs]; decide)
  have h19 : (s.toList == [111, 114]) = false := list_ne (by rw [hs]; decide)
  have h20 : (s.toList == [105, 102]) = false := list_ne (by rw [hs]; decide)
  clear hs
  go_enter Tryz.func19, Tryz.ntmps19
  go_wp2
  go_ret
  exact ⟨rfl, rfl⟩

set_option maxHeartbeats 2000000 in
theorem word_10 (s : ByteArray) (w : World) (hs : s.data.toList = [97, 102, 116, 101, 114]) : Calls Tryz.prog 19 #[.string s] w fun e w' => e = .returned (.bool true) ∧ w' = w := by
  have h0 : (s.toList == [99, 111, 108, 111, 117, 114]) = false := list_ne (by rw [hs]; decide)
  have h1 : (s.toList == [112, 108, 97, 99, 101]) = false := list_ne (by rw [hs]; decide)
  have h2 : (s.toList == [116, 97, 115, 107]) = false := list_ne (by rw [hs]; decide)
  have h3 : (s.toList == [118, 97, 114]) = false := list_ne (by rw [hs]; decide)
  have h4 : (s.toList == [119, 104, 101, 110]) = false := list_ne (by rw [hs]; decide)
  have h5 : (s.toList == [106, 111, 105, 110]) = false := list_ne (by rw [hs]; decide)
  have h6 : (s.toList == [115, 112, 108, 105, 116]) = false := list_ne (by rw [hs]; decide)
  have h7 : (s.toList == [105, 110]) = false := list_ne (by rw [hs]; decide)
  have h8 : (s.toList == [111, 117, 116]) = false := list_ne (by rw [hs]; decide)
  have h9 : (s.toList == [99, 97, 110, 99, 101, 108]) = false := list_ne (by rw [hs]; decide)
  have h10 : (s.toList == [97, 102, 116, 101, 114]) = true := list_is hs
  have h11 : (s.toList == [109, 97, 110, 121]) = false := list_ne (by rw [hs]; decide)
  have h12 : (s.toList == [102, 114, 111, 109]) = false := list_ne (by rw [hs]; decide)
  have h13 : (s.toList == [116, 111]) = false := list_ne (by rw [hs]; decide)
  have h14 : (s.toList == [105, 110, 116]) = false := list_ne (by rw [hs]; decide)
  have h15 : (s.toList == [101, 110, 117, 109]) = false := list_ne (by rw [hs]; decide)
  have h16 : (s.toList == [112, 97, 105, 114]) = false := list_ne (by rw [hs]; decide)
  have h17 : (s.toList == [97, 110, 100]) = false := list_ne (by rw [hs]; decide)
  have h18 : (s.toList == [120, 111, 114]) = false := list_ne (by rw [hs]; decide)
  have h19 : (s.toList == [111, 114]) = false := list_ne (by rw [hs]; decide)
  have h20 : (s.toList == [105, 102]) = false := list_ne (by rw [hs]; decide)
  clear hs
  go_enter Tryz.func19, Tryz.ntmps19
  go_wp2
  go_ret
  exact ⟨rfl, rfl⟩

set_option maxHeartbeats 2000000 in
theorem word_11 (s : ByteArray) (w : World) (hs : s.data.toList = [109, 97, 110, 121]) : Calls Tryz.prog 19 #[.string s] w fun e w' => e = .returned (.bool true) ∧ w' = w := by
  have h0 : (s.toList == [99, 111, 108, 111, 117, 114]) = false := list_ne (by rw [hs]; decide)
  have h1 : (s.toList == [112, 108, 97, 99, 101]) = false := list_ne (by rw [hs]; decide)
  have h2 : (s.toList == [116, 97, 115, 107]) = false := list_ne (by rw [hs]; decide)
  have h3 : (s.toList == [118, 97, 114]) = false := list_ne (by rw [hs]; decide)
  have h4 : (s.toList == [119, 104, 101, 110]) = false := list_ne (by rw [hs]; decide)
  have h5 : (s.toList == [106, 111, 105, 110]) = false := list_ne (by rw [hs]; decide)
  have h6 : (s.toList == [115, 112, 108, 105, 116]) = false := list_ne (by rw [hs]; decide)
  have h7 : (s.toList == [105, 110]) = false := list_ne (by rw [hs]; decide)
  have h8 : (s.toList == [111, 117, 116]) = false := list_ne (by rw [hs]; decide)
  have h9 : (s.toList == [99, 97, 110, 99, 101, 108]) = false := list_ne (by rw [hs]; decide)
  have h10 : (s.toList == [97, 102, 116, 101, 114]) = false := list_ne (by rw [hs]; decide)
  have h11 : (s.toList == [109, 97, 110, 121]) = true := list_is hs
  have h12 : (s.toList == [102, 114, 111, 109]) = false := list_ne (by rw [hs]; decide)
  have h13 : (s.toList == [116, 111]) = false := list_ne (by rw [hs]; decide)
  have h14 : (s.toList == [105, 110, 116]) = false := list_ne (by rw [hs]; decide)
  have h15 : (s.toList == [101, 110, 117, 109]) = false := list_ne (by rw [hs]; decide)
  have h16 : (s.toList == [112, 97, 105, 114]) = false := list_ne (by rw [hs]; decide)
  have h17 : (s.toList == [97, 110, 100]) = false := list_ne (by rw [hs]; decide)
  have h18 : (s.toList == [120, 111, 114]) = false := list_ne (by rw [hs]; decide)
  have h19 : (s.toList == [111, 114]) = false := list_ne (by rw [hs]; decide)
  have h20 : (s.toList == [105, 102]) = false := list_ne (by rw [hs]; decide)
  clear hs
  go_enter Tryz.func19, Tryz.ntmps19
  go_wp2
  go_ret
  exact ⟨rfl, rfl⟩

set_option maxHeartbeats 2000000 in
theorem word_12 (s : ByteArray) (w : World) (hs : s.data.toList = [102, 114, 111, 109]) : Calls Tryz.prog 19 #[.string s] w fun e w' => e = .returned (.bool true) ∧ w' = w := by
  have h0 : (s.toList == [99, 111, 108, 111, 117, 114]) = false := list_ne (by rw [hs]; decide)
  have h1 : (s.toList == [112, 108, 97, 99, 101]) = false := list_ne (by rw [hs]; decide)
  have h2 : (s.toList == [116, 97, 115, 107]) = false := list_ne (by rw [hs]; decide)
  have h3 : (s.toList == [118, 97, 114]) = false := list_ne (by rw [hs]; decide)
  have h4 : (s.toList == [119, 104, 101, 110]) = false := list_ne (by rw [hs]; decide)
  have h5 : (s.toList == [106, 111, 105, 110]) = false := list_ne (by rw [hs]; decide)
  have h6 : (s.toList == [115, 112, 108, 105, 116]) = false := list_ne (by rw [hs]; decide)
  have h7 : (s.toList == [105, 110]) = false := list_ne (by rw [hs]; decide)
  have h8 : (s.toList == [111, 117, 116]) = false := list_ne (by rw [hs]; decide)
  have h9 : (s.toList == [99, 97, 110, 99, 101, 108]) = false := list_ne (by rw [hs]; decide)
  have h10 : (s.toList == [97, 102, 116, 101, 114]) = false := list_ne (by rw [hs]; decide)
  have h11 : (s.toList == [109, 97, 110, 121]) = false := list_ne (by rw [hs]; decide)
  have h12 : (s.toList == [102, 114, 111, 109]) = true := list_is hs
  have h13 : (s.toList == [116, 111]) = false := list_ne (by rw [hs]; decide)
  have h14 : (s.toList == [105, 110, 116]) = false := list_ne (by rw [hs]; decide)
  have h15 : (s.toList == [101, 110, 117, 109]) = false := list_ne (by rw [hs]; decide)
  have h16 : (s.toList == [112, 97, 105, 114]) = false := list_ne (by rw [hs]; decide)
  have h17 : (s.toList == [97, 110, 100]) = false := list_ne (by rw [hs]; decide)
  have h18 : (s.toList == [120, 111, 114]) = false := list_ne (by rw [hs]; decide)
  have h19 : (s.toList == [111, 114]) = false := list_ne (by rw [hs]; decide)
  have h20 : (s.toList == [105, 102]) = false := list_ne (by rw [hs]; decide)
  clear hs
  go_enter Tryz.func19, Tryz.ntmps19
  go_wp2
  go_ret
  exact ⟨rfl, rfl⟩

set_option maxHeartbeats 2000000 in
theorem word_13 (s : ByteArray) (w : World) (hs : s.data.toList = [116, 111]) : Calls Tryz.prog 19 #[.string s] w fun e w' => e = .returned (.bool true) ∧ w' = w := by
  have h0 : (s.toList == [99, 111, 108, 111, 117, 114]) = false := list_ne (by rw [hs]; decide)
  have h1 : (s.toList == [112, 108, 97, 99, 101]) = false := list_ne (by rw [hs]; decide)
  have h2 : (s.toList == [116, 97, 115, 107]) = false := list_ne (by rw [hs]; decide)
  have h3 : (s.toList == [118, 97, 114]) = false := list_ne (by rw [hs]; decide)
  have h4 : (s.toList == [119, 104, 101, 110]) = false := list_ne (by rw [hs]; decide)
  have h5 : (s.toList == [106, 111, 105, 110]) = false := list_ne (by rw [hs]; decide)
  have h6 : (s.toList == [115, 112, 108, 105, 116]) = false := list_ne (by rw [hs]; decide)
  have h7 : (s.toList == [105, 110]) = false := list_ne (by rw [hs]; decide)
  have h8 : (s.toList == [111, 117, 116]) = false := list_ne (by rw [hs]; decide)
  have h9 : (s.toList == [99, 97, 110, 99, 101, 108]) = false := list_ne (by rw [hs]; decide)
  have h10 : (s.toList == [97, 102, 116, 101, 114]) = false := list_ne (by rw [hs]; decide)
  have h11 : (s.toList == [109, 97, 110, 121]) = false := list_ne (by rw [hs]; decide)
  have h12 : (s.toList == [102, 114, 111, 109]) = false := list_ne (by rw [hs]; decide)
  have h13 : (s.toList == [116, 111]) = true := list_is hs
  have h14 : (s.toList == [105, 110, 116]) = false := list_ne (by rw [hs]; decide)
  have h15 : (s.toList == [101, 110, 117, 109]) = false := list_ne (by rw [hs]; decide)
  have h16 : (s.toList == [112, 97, 105, 114]) = false := list_ne (by rw [hs]; decide)
  have h17 : (s.toList == [97, 110, 100]) = false := list_ne (by rw [hs]; decide)
  have h18 : (s.toList == [120, 111, 114]) = false := list_ne (by rw [hs]; decide)
  have h19 : (s.toList == [111, 114]) = false := list_ne (by rw [hs]; decide)
  have h20 : (s.toList == [105, 102]) = false := list_ne (by rw [hs]; decide)
  clear hs
  go_enter Tryz.func19, Tryz.ntmps19
  go_wp2
  go_ret
  exact ⟨rfl, rfl⟩

set_option maxHeartbeats 2000000 in
theorem word_14 (s : ByteArray) (w : World) (hs : s.data.toList = [105, 110, 116]) : Calls Tryz.prog 19 #[.string s] w fun e w' => e = .returned (.bool true) ∧ w' = w := by
  have h0 : (s.toList == [99, 111, 108, 111, 117, 114]) = false := list_ne (by rw [hs]; decide)
  have h1 : (s.toList == [112, 108, 97, 99, 101]) = false := list_ne (by rw [hs]; decide)
  have h2 : (s.toList == [116, 97, 115, 107]) = false := list_ne (by rw [hs]; decide)
  have h3 : (s.toList == [118, 97, 114]) = false := list_ne (by rw [hs]; decide)
  have h4 : (s.toList == [119, 104, 101, 110]) = false := list_ne (by rw [hs]; decide)
  have h5 : (s.toList == [106, 111, 105, 110]) = false := list_ne (by rw [hs]; decide)
  have h6 : (s.toList == [115, 112, 108, 105, 116]) = false := list_ne (by rw [hs]; decide)
  have h7 : (s.toList == [105, 110]) = false := list_ne (by rw [hs]; decide)
  have h8 : (s.toList == [111, 117, 116]) = false := list_ne (by rw [hs]; decide)
  have h9 : (s.toList == [99, 97, 110, 99, 101, 108]) = false := list_ne (by rw [hs]; decide)
  have h10 : (s.toList == [97, 102, 116, 101, 114]) = false := list_ne (by rw [hs]; decide)
  have h11 : (s.toList == [109, 97, 110, 121]) = false := list_ne (by rw [hs]; decide)
  have h12 : (s.toList == [102, 114, 111, 109]) = false := list_ne (by rw [hs]; decide)
  have h13 : (s.toList == [116, 111]) = false := list_ne (by rw [hs]; decide)
  have h14 : (s.toList == [105, 110, 116]) = true := list_is hs
  have h15 : (s.toList == [101, 110, 117, 109]) = false := list_ne (by rw [hs]; decide)
  have h16 : (s.toList == [112, 97, 105, 114]) = false := list_ne (by rw [hs]; decide)
  have h17 : (s.toList == [97, 110, 100]) = false := list_ne (by rw [hs]; decide)
  have h18 : (s.toList == [120, 111, 114]) = false := list_ne (by rw [hs]; decide)
  have h19 : (s.toList == [111, 114]) = false := list_ne (by rw [hs]; decide)
  have h20 : (s.toList == [105, 102]) = false := list_ne (by rw [hs]; decide)
  clear hs
  go_enter Tryz.func19, Tryz.ntmps19
  go_wp2
  go_ret
  exact ⟨rfl, rfl⟩

set_option maxHeartbeats 2000000 in
theorem word_15 (s : ByteArray) (w : World) (hs : s.data.toList = [101, 110, 117, 109]) : Calls Tryz.prog 19 #[.string s] w fun e w' => e = .returned (.bool true) ∧ w' = w := by
  have h0 : (s.toList == [99, 111, 108, 111, 117, 114]) = false := list_ne (by rw [hs]; decide)
  have h1 : (s.toList == [112, 108, 97, 99, 101]) = false := list_ne (by rw [hs]; decide)
  have h2 : (s.toList == [116, 97, 115, 107]) = false := list_ne (by rw [hs]; decide)
  have h3 : (s.toList == [118, 97, 114]) = false := list_ne (by rw [hs]; decide)
  have h4 : (s.toList == [119, 104, 101, 110]) = false := list_ne (by rw [hs]; decide)
  have h5 : (s.toList == [106, 111, 105, 110]) = false := list_ne (by rw [hs]; decide)
  have h6 : (s.toList == [115, 112, 108, 105, 116]) = false := list_ne (by rw [hs]; decide)
  have h7 : (s.toList == [105, 110]) = false := list_ne (by rw [hs]; decide)
  have h8 : (s.toList == [111, 117, 116]) = false := list_ne (by rw [hs]; decide)
  have h9 : (s.toList == [99, 97, 110, 99, 101, 108]) = false := list_ne (by rw [hs]; decide)
  have h10 : (s.toList == [97, 102, 116, 101, 114]) = false := list_ne (by rw [hs]; decide)
  have h11 : (s.toList == [109, 97, 110, 121]) = false := list_ne (by rw [hs]; decide)
  have h12 : (s.toList == [102, 114, 111, 109]) = false := list_ne (by rw [hs]; decide)
  have h13 : (s.toList == [116, 111]) = false := list_ne (by rw [hs]; decide)
  have h14 : (s.toList == [105, 110, 116]) = false := list_ne (by rw [hs]; decide)
  have h15 : (s.toList == [101, 110, 117, 109]) = true := list_is hs
  have h16 : (s.toList == [112, 97, 105, 114]) = false := list_ne (by rw [hs]; decide)
  have h17 : (s.toList == [97, 110, 100]) = false := list_ne (by rw [hs]; decide)
  have h18 : (s.toList == [120, 111, 114]) = false := list_ne (by rw [hs]; decide)
  have h19 : (s.toList == [111, 114]) = false := list_ne (by rw [hs]; decide)
  have h20 : (s.toList == [105, 102]) = false := list_ne (by rw [hs]; decide)
  clear hs
  go_enter Tryz.func19, Tryz.ntmps19
  go_wp2
  go_ret
  exact ⟨rfl, rfl⟩

set_option maxHeartbeats 2000000 in
theorem word_16 (s : ByteArray) (w : World) (hs : s.data.toList = [112, 97, 105, 114]) : Calls Tryz.prog 19 #[.string s] w fun e w' => e = .returned (.bool true) ∧ w' = w := by
  have h0 : (s.toList == [99, 111, 108, 111, 117, 114]) = false := list_ne (by rw [hs]; decide)
  have h1 : (s.toList == [112, 108, 97, 99, 101]) = false := list_ne (by rw [hs]; decide)
  have h2 : (s.toList == [116, 97, 115, 107]) = false := list_ne (by rw [hs]; decide)
  have h3 : (s.toList == [118, 97, 114]) = false := list_ne (by rw [hs]; decide)
  have h4 : (s.toList == [119, 104, 101, 110]) = false := list_ne (by rw [hs]; decide)
  have h5 : (s.toList == [106, 111, 105, 110]) = false := list_ne (by rw [hs]; decide)
  have h6 : (s.toList == [115, 112, 108, 105, 116]) = false := list_ne (by rw [hs]; decide)
  have h7 : (s.toList == [105, 110]) = false := list_ne (by rw [hs]; decide)
  have h8 : (s.toList == [111, 117, 116]) = false := list_ne (by rw [hs]; decide)
  have h9 : (s.toList == [99, 97, 110, 99, 101, 108]) = false := list_ne (by rw [hs]; decide)
  have h10 : (s.toList == [97, 102, 116, 101, 114]) = false := list_ne (by rw [hs]; decide)
  have h11 : (s.toList == [109, 97, 110, 121]) = false := list_ne (by rw [hs]; decide)
  have h12 : (s.toList == [102, 114, 111, 109]) = false := list_ne (by rw [hs]; decide)
  have h13 : (s.toList == [116, 111]) = false := list_ne (by rw [hs]; decide)
  have h14 : (s.toList == [105, 110, 116]) = false := list_ne (by rw [hs]; decide)
  have h15 : (s.toList == [101, 110, 117, 109]) = false := list_ne (by rw [hs]; decide)
  have h16 : (s.toList == [112, 97, 105, 114]) = true := list_is hs
  have h17 : (s.toList == [97, 110, 100]) = false := list_ne (by rw [hs]; decide)
  have h18 : (s.toList == [120, 111, 114]) = false := list_ne (by rw [hs]; decide)
  have h19 : (s.toList == [111, 114]) = false := list_ne (by rw [hs]; decide)
  have h20 : (s.toList == [105, 102]) = false := list_ne (by rw [hs]; decide)
  clear hs
  go_enter Tryz.func19, Tryz.ntmps19
  go_wp2
  go_ret
  exact ⟨rfl, rfl⟩

set_option maxHeartbeats 2000000 in
theorem word_17 (s : ByteArray) (w : World) (hs : s.data.toList = [97, 110, 100]) : Calls Tryz.prog 19 #[.string s] w fun e w' => e = .returned (.bool true) ∧ w' = w := by
  have h0 : (s.toList == [99, 111, 108, 111, 117, 114]) = false := list_ne (by rw [hs]; decide)
  have h1 : (s.toList == [112, 108, 97, 99, 101]) = false := list_ne (by rw [hs]; decide)
  have h2 : (s.toList == [116, 97, 115, 107]) = false := list_ne (by rw [hs]; decide)
  have h3 : (s.toList == [118, 97, 114]) = false := list_ne (by rw [hs]; decide)
  have h4 : (s.toList == [119, 104, 101, 110]) = false := list_ne (by rw [hs]; decide)
  have h5 : (s.toList == [106, 111, 105, 110]) = false := list_ne (by rw [hs]; decide)
  have h6 : (s.toList == [115, 112, 108, 105, 116]) = false := list_ne (by rw [hs]; decide)
  have h7 : (s.toList == [105, 110]) = false := list_ne (by rw [hs]; decide)
  have h8 : (s.toList == [111, 117, 116]) = false := list_ne (by rw [hs]; decide)
  have h9 : (s.toList == [99, 97, 110, 99, 101, 108]) = false := list_ne (by rw [hs]; decide)
  have h10 : (s.toList == [97, 102, 116, 101, 114]) = false := list_ne (by rw [hs]; decide)
  have h11 : (s.toList == [109, 97, 110, 121]) = false := list_ne (by rw [hs]; decide)
  have h12 : (s.toList == [102, 114, 111, 109]) = false := list_ne (by rw [hs]; decide)
  have h13 : (s.toList == [116, 111]) = false := list_ne (by rw [hs]; decide)
  have h14 : (s.toList == [105, 110, 116]) = false := list_ne (by rw [hs]; decide)
  have h15 : (s.toList == [101, 110, 117, 109]) = false := list_ne (by rw [hs]; decide)
  have h16 : (s.toList == [112, 97, 105, 114]) = false := list_ne (by rw [hs]; decide)
  have h17 : (s.toList == [97, 110, 100]) = true := list_is hs
  have h18 : (s.toList == [120, 111, 114]) = false := list_ne (by rw [hs]; decide)
  have h19 : (s.toList == [111, 114]) = false := list_ne (by rw [hs]; decide)
  have h20 : (s.toList == [105, 102]) = false := list_ne (by rw [hs]; decide)
  clear hs
  go_enter Tryz.func19, Tryz.ntmps19
  go_wp2
  go_ret
  exact ⟨rfl, rfl⟩

set_option maxHeartbeats 2000000 in
theorem word_18 (s : ByteArray) (w : World) (hs : s.data.toList = [120, 111, 114]) : Calls Tryz.prog 19 #[.string s] w fun e w' => e = .returned (.bool true) ∧ w' = w := by
  have h0 : (s.toList == [99, 111, 108, 111, 117, 114]) = false := list_ne (by rw [hs]; decide)
  have h1 : (s.toList == [112, 108, 97, 99, 101]) = false := list_ne (by rw [hs]; decide)
  have h2 : (s.toList == [116, 97, 115, 107]) = false := list_ne (by rw [hs]; decide)
  have h3 : (s.toList == [118, 97, 114]) = false := list_ne (by rw [hs]; decide)
  have h4 : (s.toList == [119, 104, 101, 110]) = false := list_ne (by rw [hs]; decide)
  have h5 : (s.toList == [106, 111, 105, 110]) = false := list_ne (by rw [hs]; decide)
  have h6 : (s.toList == [115, 112, 108, 105, 116]) = false := list_ne (by rw [hs]; decide)
  have h7 : (s.toList == [105, 110]) = false := list_ne (by rw [hs]; decide)
  have h8 : (s.toList == [111, 117, 116]) = false := list_ne (by rw [hs]; decide)
  have h9 : (s.toList == [99, 97, 110, 99, 101, 108]) = false := list_ne (by rw [hs]; decide)
  have h10 : (s.toList == [97, 102, 116, 101, 114]) = false := list_ne (by rw [hs]; decide)
  have h11 : (s.toList == [109, 97, 110, 121]) = false := list_ne (by rw [hs]; decide)
  have h12 : (s.toList == [102, 114, 111, 109]) = false := list_ne (by rw [hs]; decide)
  have h13 : (s.toList == [116, 111]) = false := list_ne (by rw [hs]; decide)
  have h14 : (s.toList == [105, 110, 116]) = false := list_ne (by rw [hs]; decide)
  have h15 : (s.toList == [101, 110, 117, 109]) = false := list_ne (by rw [hs]; decide)
  have h16 : (s.toList == [112, 97, 105, 114]) = false := list_ne (by rw [hs]; decide)
  have h17 : (s.toList == [97, 110, 100]) = false := list_ne (by rw [hs]; decide)
  have h18 : (s.toList == [120, 111, 114]) = true := list_is hs
  have h19 : (s.toList == [111, 114]) = false := list_ne (by rw [hs]; decide)
  have h20 : (s.toList == [105, 102]) = false := list_ne (by rw [hs]; decide)
  clear hs
  go_enter Tryz.func19, Tryz.ntmps19
  go_wp2
  go_ret
  exact ⟨rfl, rfl⟩

set_option maxHeartbeats 2000000 in
theorem word_19 (s : ByteArray) (w : World) (hs : s.data.toList = [111, 114]) : Calls Tryz.prog 19 #[.string s] w fun e w' => e = .returned (.bool true) ∧ w' = w := by
  have h0 : (s.toList == [99, 111, 108, 111, 117, 114]) = false := list_ne (by rw [hs]; decide)
  have h1 : (s.toList == [112, 108, 97, 99, 101]) = false := list_ne (by rw [hs]; decide)
  have h2 : (s.toList == [116, 97, 115, 107]) = false := list_ne (by rw [hs]; decide)
  have h3 : (s.toList == [118, 97, 114]) = false := list_ne (by rw [hs]; decide)
  have h4 : (s.toList == [119, 104, 101, 110]) = false := list_ne (by rw [hs]; decide)
  have h5 : (s.toList == [106, 111, 105, 110]) = false := list_ne (by rw [hs]; decide)
  have h6 : (s.toList == [115, 112, 108, 105, 116]) = false := list_ne (by rw [hs]; decide)
  have h7 : (s.toList == [105, 110]) = false := list_ne (by rw [hs]; decide)
  have h8 : (s.toList == [111, 117, 116]) = false := list_ne (by rw [hs]; decide)
  have h9 : (s.toList == [99, 97, 110, 99, 101, 108]) = false := list_ne (by rw [hs]; decide)
  have h10 : (s.toList == [97, 102, 116, 101, 114]) = false := list_ne (by rw [hs]; decide)
  have h11 : (s.toList == [109, 97, 110, 121]) = false := list_ne (by rw [hs]; decide)
  have h12 : (s.toList == [102, 114, 111, 109]) = false := list_ne (by rw [hs]; decide)
  have h13 : (s.toList == [116, 111]) = false := list_ne (by rw [hs]; decide)
  have h14 : (s.toList == [105, 110, 116]) = false := list_ne (by rw [hs]; decide)
  have h15 : (s.toList == [101, 110, 117, 109]) = false := list_ne (by rw [hs]; decide)
  have h16 : (s.toList == [112, 97, 105, 114]) = false := list_ne (by rw [hs]; decide)
  have h17 : (s.toList == [97, 110, 100]) = false := list_ne (by rw [hs]; decide)
  have h18 : (s.toList == [120, 111, 114]) = false := list_ne (by rw [hs]; decide)
  have h19 : (s.toList == [111, 114]) = true := list_is hs
  have h20 : (s.toList == [105, 102]) = false := list_ne (by rw [hs]; decide)
  clear hs
  go_enter Tryz.func19, Tryz.ntmps19
  go_wp2
  go_ret
  exact ⟨rfl, rfl⟩

set_option maxHeartbeats 2000000 in
theorem word_20 (s : ByteArray) (w : World) (hs : s.data.toList = [105, 102]) : Calls Tryz.prog 19 #[.string s] w fun e w' => e = .returned (.bool true) ∧ w' = w := by
  have h0 : (s.toList == [99, 111, 108, 111, 117, 114]) = false := list_ne (by rw [hs]; decide)
  have h1 : (s.toList == [112, 108, 97, 99, 101]) = false := list_ne (by rw [hs]; decide)
  have h2 : (s.toList == [116, 97, 115, 107]) = false := list_ne (by rw [hs]; decide)
  have h3 : (s.toList == [118, 97, 114]) = false := list_ne (by rw [hs]; decide)
  have h4 : (s.toList == [119, 104, 101, 110]) = false := list_ne (by rw [hs]; decide)
  have h5 : (s.toList == [106, 111, 105, 110]) = false := list_ne (by rw [hs]; decide)
  have h6 : (s.toList == [115, 112, 108, 105, 116]) = false := list_ne (by rw [hs]; decide)
  have h7 : (s.toList == [105, 110]) = false := list_ne (by rw [hs]; decide)
  have h8 : (s.toList == [111, 117, 116]) = false := list_ne (by rw [hs]; decide)
  have h9 : (s.toList == [99, 97, 110, 99, 101, 108]) = false := list_ne (by rw [hs]; decide)
  have h10 : (s.toList == [97, 102, 116, 101, 114]) = false := list_ne (by rw [hs]; decide)
  have h11 : (s.toList == [109, 97, 110, 121]) = false := list_ne (by rw [hs]; decide)
  have h12 : (s.toList == [102, 114, 111, 109]) = false := list_ne (by rw [hs]; decide)
  have h13 : (s.toList == [116, 111]) = false := list_ne (by rw [hs]; decide)
  have h14 : (s.toList == [105, 110, 116]) = false := list_ne (by rw [hs]; decide)
  have h15 : (s.toList == [101, 110, 117, 109]) = false := list_ne (by rw [hs]; decide)
  have h16 : (s.toList == [112, 97, 105, 114]) = false := list_ne (by rw [hs]; decide)
  have h17 : (s.toList == [97, 110, 100]) = false := list_ne (by rw [hs]; decide)
  have h18 : (s.toList == [120, 111, 114]) = false := list_ne (by rw [hs]; decide)
  have h19 : (s.toList == [111, 114]) = false := list_ne (by rw [hs]; decide)
  have h20 : (s.toList == [105, 102]) = true := list_is hs
  clear hs
  go_enter Tryz.func19, Tryz.ntmps19
  go_wp2
  go_ret
  exact ⟨rfl, rfl⟩

theorem word_any (s : ByteArray) (w : World) : Calls Tryz.prog 19 #[.string s] w fun e w' => e = .returned (.bool (wordB s.data.toList)) ∧ w' = w := by
  cases h : wordB s.data.toList with
  | false => exact word_no s w h
  | true =>
    have h := of_decide_eq_true h
    simp only [wordsL, List.mem_cons, List.not_mem_nil, or_false] at h
    rcases h with h | h | h | h | h | h | h | h | h | h | h | h | h | h | h | h | h | h | h | h | h
    · exact word_0 s w h
    · exact word_1 s w h
    · exact word_2 s w h
    · exact word_3 s w h
    · exact word_4 s w h
    · exact word_5 s w h
    · exact word_6 s w h
    · exact word_7 s w h
    · exact word_8 s w h
    · exact word_9 s w h
    · exact word_10 s w h
    · exact word_11 s w h
    · exact word_12 s w h
    · exact word_13 s w h
    · exact word_14 s w h
    · exact word_15 s w h
    · exact word_16 s w h
    · exact word_17 s w h
    · exact word_18 s w h
    · exact word_19 s w h
    · exact word_20 s w h
end Go.Proofs.YtgdkomkflfodaaaGreat.Token
