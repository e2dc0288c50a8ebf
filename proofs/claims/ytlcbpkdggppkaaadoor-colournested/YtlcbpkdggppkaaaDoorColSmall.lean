/- The small case that layer 2's statements begin with comes out right: a contract of the call, over the turned program. -/
import Derived.Test.YtlcbpkdggppkaaaDoorColSome
namespace Go.Proofs.YtlcbpkdggppkaaaDoor.Colour
open Go.RowKit Go.Proofs.YtlcbpkdggppkaaaDoor.Frame Go.Deep
set_option linter.unusedVariables false

theorem read3 (g G : Nat) : ReadIs (some ⟨g, 0, none⟩) 4 4 (someCols G) [3, 2, 6, 36] 0 ⟨#[51]⟩ 0 :=
  read_int _ 4 4 (someCols G) [3, 2, 6, 36] 0 ⟨#[51]⟩ 3 (by decide) (by decide) rfl (by decide) (by decide +kernel) (by decide) (by decide +kernel) (show (3 : Int) ≤ 3 by decide) (show (3 : Int) ≤ 3 + (3 - 1) by decide) (by decide) (by decide)
theorem read4 (g G : Nat) : ReadIs (some ⟨g, 0, none⟩) 4 4 (someCols G) [3, 2, 6, 36] 0 ⟨#[52]⟩ 1 :=
  read_int _ 4 4 (someCols G) [3, 2, 6, 36] 0 ⟨#[52]⟩ 4 (by decide) (by decide) rfl (by decide) (by decide +kernel) (by decide) (by decide +kernel) (show (3 : Int) ≤ 4 by decide) (show (4 : Int) ≤ 3 + (3 - 1) by decide) (by decide) (by decide)
theorem read5 (g G : Nat) : ReadIs (some ⟨g, 0, none⟩) 4 4 (someCols G) [3, 2, 6, 36] 0 ⟨#[53]⟩ 2 :=
  read_int _ 4 4 (someCols G) [3, 2, 6, 36] 0 ⟨#[53]⟩ 5 (by decide) (by decide) rfl (by decide) (by decide +kernel) (by decide) (by decide +kernel) (show (3 : Int) ≤ 5 by decide) (show (5 : Int) ≤ 3 + (3 - 1) by decide) (by decide) (by decide)
theorem readRed (g G : Nat) : ReadIs (some ⟨g, 0, none⟩) 4 4 (someCols G) [3, 2, 6, 36] 1 ⟨#[114, 101, 100]⟩ 0 :=
  read_enum _ 4 4 (someCols G) [3, 2, 6, 36] 1 ⟨#[114, 101, 100]⟩ 0 (by decide) rfl (show 0 < 2 by decide) (show 2 ≤ 1024 by decide) (show Lib.idxOfS [⟨#[114, 101, 100]⟩, ⟨#[98, 108, 117, 101]⟩] ⟨#[114, 101, 100]⟩ = ((0 : Nat) : Int) by decide +kernel)
theorem readBlue (g G : Nat) : ReadIs (some ⟨g, 0, none⟩) 4 4 (someCols G) [3, 2, 6, 36] 1 ⟨#[98, 108, 117, 101]⟩ 1 :=
  read_enum _ 4 4 (someCols G) [3, 2, 6, 36] 1 ⟨#[98, 108, 117, 101]⟩ 1 (by decide) rfl (show 0 < 2 by decide) (show 2 ≤ 1024 by decide) (show Lib.idxOfS [⟨#[114, 101, 100]⟩, ⟨#[98, 108, 117, 101]⟩] ⟨#[98, 108, 117, 101]⟩ = ((1 : Nat) : Int) by decide +kernel)
theorem readA (g G : Nat) : ReadIs (some ⟨g, 0, none⟩) 4 4 (someCols G) [3, 2, 6, 36] 2 ⟨#[40, 52, 44, 98, 108, 117, 101, 41]⟩ 3 :=
  read_pair _ 4 4 (someCols G) [3, 2, 6, 36] 2 ⟨#[40, 52, 44, 98, 108, 117, 101, 41]⟩ ⟨#[52]⟩ ⟨#[98, 108, 117, 101]⟩ 2 0 1 1 1 (by decide) (by decide) (by decide) rfl rfl rfl (by decide) (by decide) (by decide +kernel) (by decide +kernel) (by decide +kernel) (by decide) (by decide) (by decide +kernel) (by decide +kernel)
    (read4 g G) (readBlue g G) (by decide) (by decide) (by decide) (by decide) (by decide) (by decide)
theorem readB (g G : Nat) : ReadIs (some ⟨g, 0, none⟩) 4 4 (someCols G) [3, 2, 6, 36] 2 ⟨#[40, 51, 44, 114, 101, 100, 41]⟩ 0 :=
  read_pair _ 4 4 (someCols G) [3, 2, 6, 36] 2 ⟨#[40, 51, 44, 114, 101, 100, 41]⟩ ⟨#[51]⟩ ⟨#[114, 101, 100]⟩ 2 0 1 0 0 (by decide) (by decide) (by decide) rfl rfl rfl (by decide) (by decide) (by decide +kernel) (by decide +kernel) (by decide +kernel) (by decide) (by decide) (by decide +kernel) (by decide +kernel)
    (read3 g G) (readRed g G) (by decide) (by decide) (by decide) (by decide) (by decide) (by decide)
theorem readC (g G : Nat) : ReadIs (some ⟨g, 0, none⟩) 4 4 (someCols G) [3, 2, 6, 36] 2 ⟨#[40, 53, 44, 98, 108, 117, 101, 41]⟩ 5 :=
  read_pair _ 4 4 (someCols G) [3, 2, 6, 36] 2 ⟨#[40, 53, 44, 98, 108, 117, 101, 41]⟩ ⟨#[53]⟩ ⟨#[98, 108, 117, 101]⟩ 2 0 1 2 1 (by decide) (by decide) (by decide) rfl rfl rfl (by decide) (by decide) (by decide +kernel) (by decide +kernel) (by decide +kernel) (by decide) (by decide) (by decide +kernel) (by decide +kernel)
    (read5 g G) (readBlue g G) (by decide) (by decide) (by decide) (by decide) (by decide) (by decide)
theorem readD (g G : Nat) : ReadIs (some ⟨g, 0, none⟩) 4 4 (someCols G) [3, 2, 6, 36] 3 ⟨#[40, 40, 51, 44, 114, 101, 100, 41, 44, 40, 53, 44, 98, 108, 117, 101, 41, 41]⟩ 5 :=
  read_pair _ 4 4 (someCols G) [3, 2, 6, 36] 3 ⟨#[40, 40, 51, 44, 114, 101, 100, 41, 44, 40, 53, 44, 98, 108, 117, 101, 41, 41]⟩ ⟨#[40, 51, 44, 114, 101, 100, 41]⟩ ⟨#[40, 53, 44, 98, 108, 117, 101, 41]⟩ 8 2 2 0 5 (by decide) (by decide) (by decide) rfl rfl rfl (by decide) (by decide) (by decide +kernel) (by decide +kernel) (by decide +kernel) (by decide) (by decide) (by decide +kernel) (by decide +kernel)
    (readB g G) (readC g G) (by decide) (by decide) (by decide) (by decide) (by decide) (by decide)
theorem write4 (g G : Nat) : WriteIs (some ⟨g, 0, none⟩) 4 4 (someCols G) [3, 2, 6, 36] 0 1 [52] := by
  have h := write_int (some ⟨g, 0, none⟩) 4 4 (someCols G) [3, 2, 6, 36] 0 1 4 (by decide) rfl (by decide) (show (3 : Int) + 1 = 4 by decide)
  rw [show Lib.decDigits 4 = [52] by decide +kernel] at h
  exact h
theorem writeBlue (g G : Nat) : WriteIs (some ⟨g, 0, none⟩) 4 4 (someCols G) [3, 2, 6, 36] 1 1 [98, 108, 117, 101] :=
  write_enum _ 4 4 (someCols G) [3, 2, 6, 36] 1 1 ⟨#[98, 108, 117, 101]⟩ (by decide) rfl (show 1 < 2 by decide) rfl
theorem writeA (g G : Nat) : WriteIs (some ⟨g, 0, none⟩) 4 4 (someCols G) [3, 2, 6, 36] 2 3 [40, 52, 44, 98, 108, 117, 101, 41] :=
  write_pair _ 4 4 (someCols G) [3, 2, 6, 36] 2 3 0 1 [52] [98, 108, 117, 101] (by decide) (by decide) (by decide) rfl rfl rfl (by decide) (by decide) (by decide) (by decide) (write4 g G) (writeBlue g G)

theorem n1 : nameB ⟨#[97, 95, 49]⟩ = true := by decide +kernel
theorem n2 : nameB ⟨#[49, 97]⟩ = false := by decide +kernel

set_option maxRecDepth 100000 in
set_option maxHeartbeats 4000000 in
theorem small_any (w : World) :
    Calls Tryd.prog 4 #[] w fun e w' => e = .returned (.bool true) ∧ Below w.heap.size w w' := by
  go_enter Tryd.func4, Tryd.ntmps4
  go_wp2_with fail
  refine (some_any _).mono ?_
  rintro e w1 ⟨g, G, he, hc, hb1⟩
  subst he
  have HC : Hid (Cols w1 (some ⟨g, 0, none⟩) 4 (someCols G)) := hc
  clear hc
  go_wp2_with fail
  refine (read_top _ 4 4 (someCols G) _ 2 _ 3 _ HC.out (some_sizes G) (by decide) (readA g G)).mono ?_
  rintro e w2 ⟨he, hb2⟩
  subst he
  have K2 := hb2
  go_wp2_with fail
  refine (number_in _ 4 4 (someCols G) 0 2 5 _ (HC.out.below K2) (by decide) ?_ ?_ (by decide) (by decide)).mono ?_
  · rw [sizeF_in (some_sizes G) (by decide)]; decide
  · show (3 : Int) + 2 = 5; decide
  rintro e w3 ⟨he, hb3⟩
  subst he
  have K3 := then_ K2 hb3
  go_wp2_with fail
  refine (read_top _ 4 4 (someCols G) _ 3 _ 5 _ (HC.out.below K3) (some_sizes G) (by decide) (readD g G)).mono ?_
  rintro e w4 ⟨he, hb4⟩
  subst he
  have K4 := then_ K3 hb4
  go_wp2_with fail
  refine (parts_in _ 4 4 (someCols G) _ 3 2 5 _ (HC.out.below K4) (some_sizes G) (by decide) rfl rfl (by decide) (by decide)).mono ?_
  rintro e w5 ⟨he, hb5⟩
  subst he
  have K5 := then_ K4 hb5
  go_wp2_with fail
  refine (right_any _ 4 4 (someCols G) _ (HC.out.below K5)).mono ?_
  rintro e w6 ⟨he, hb6⟩
  subst he
  rw [some_sizes G]
  have K6 := then_ K5 hb6
  go_wp2_with fail
  refine (size_any _ 4 4 (someCols G) 2 _ (HC.out.below K6)).mono ?_
  rintro e w7 ⟨he, hb7⟩
  subst he
  rw [show sizeF (someCols G) 2 = 6 from sizeF_in (k := 2) (some_sizes G) (by decide)]
  have K7 := then_ K6 hb7
  go_wp2_with fail
  refine (text_top _ 4 4 (someCols G) _ 2 3 _ _ (HC.out.below K7) (some_sizes G) (by decide) (by decide) (writeA g G) (by decide)).mono ?_
  rintro e w8 ⟨he, hb8⟩
  subst he
  have K8 := then_ K7 hb8
  go_wp2_with (go_at_call 13; refine (name_any _ _).mono ?_; rintro e w' ⟨he, hw⟩; subst he; have hw := hw.symm; subst hw; first | rw [n1] | rw [n2])
  refine (text_none _ 4 4 (someCols G) _ 0 3 _ (HC.out.below K8) (some_sizes G) (by decide) (by decide)).mono ?_
  rintro e w9 ⟨he, hb9⟩
  subst he
  have K9 := then_ K8 hb9
  go_wp2
  go_ret
  exact ⟨rfl, then_ hb1 K9⟩
end Go.Proofs.YtlcbpkdggppkaaaDoor.Colour
