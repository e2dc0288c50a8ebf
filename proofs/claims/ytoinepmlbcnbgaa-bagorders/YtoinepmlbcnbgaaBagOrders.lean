/- BagOrders holds: for all bags a, b, c the law returns true, and leaves its arguments as they were. No condition. -/
import Derived.Test.YtoinepmlbcnbgaaBagOrders0
import Derived.Test.YtoinepmlbcnbgaaBagOrdersA
import Derived.Test.YtoinepmlbcnbgaaBagOrdersB
import Derived.Test.YtoinepmlbcnbgaaBagOrdersC
namespace Go.Proofs.Ytoinepmlbcnbgaa.bagOrders
open Go.ChangeShapes Go.WideShapes Go.ChangeAt Go.RowKit Go.Proofs.Ytoinepmlbcnbgaa.Frame Go.Proofs.Ytoinepmlbcnbgaa.Bag
set_option linter.unusedVariables false

theorem walk (a0 : Option Addr) (len0 cap0 : Nat) (xs : List Row) (a1 : Option Addr) (len1 cap1 : Nat) (ys : List Row) (a2 : Option Addr) (len2 cap2 : Nat) (zs : List Row) (w : World) (g0 : Bags w a0 len0 xs) (g1 : Bags w a1 len1 ys) (g2 : Bags w a2 len2 zs) :
    Calls Try.prog 6 #[.slice a0 len0 cap0, .slice a1 len1 cap1, .slice a2 len2 cap2] w fun e w' => e = .returned (.bool true) ∧ Below w.heap.size w w' := by
  by_cases l0 : 60 < len0
  · exact long0 a0 len0 cap0 xs a1 len1 cap1 ys a2 len2 cap2 zs w g0 g1 g2 l0
  by_cases l1 : 60 < len1
  · exact long1 a0 len0 cap0 xs a1 len1 cap1 ys a2 len2 cap2 zs w g0 g1 g2 l0 l1
  by_cases l2 : 60 < len2
  · exact long2 a0 len0 cap0 xs a1 len1 cap1 ys a2 len2 cap2 zs w g0 g1 g2 l0 l1 l2
  cases R0 : rightB xs with
  | false => exact wrong0 a0 len0 cap0 xs a1 len1 cap1 ys a2 len2 cap2 zs w g0 g1 g2 l0 l1 l2 R0
  | true =>
  cases R1 : rightB ys with
  | false => exact wrong1 a0 len0 cap0 xs a1 len1 cap1 ys a2 len2 cap2 zs w g0 g1 g2 l0 l1 l2 R0 R1
  | true =>
  cases R2 : rightB zs with
  | false => exact wrong2 a0 len0 cap0 xs a1 len1 cap1 ys a2 len2 cap2 zs w g0 g1 g2 l0 l1 l2 R0 R1 R2
  | true =>
  have X := rightB_iff.1 R0
  have Y := rightB_iff.1 R1
  have Z := rightB_iff.1 R2
  obtain ⟨n, hn⟩ : ∃ n, n = compareB xs ys := ⟨_, rfl⟩
  have nb : -1 ≤ n ∧ n ≤ 1 := hn ▸ compare_range X Y
  have N2 : compareB ys xs = -n := by rw [hn]; exact compare_turn X Y
  have N3 : sameB xs ys = (n == 0) := by rw [hn]; exact compare_same X Y
  have N6 : withinB xs ys = true → n ≤ 0 := by rw [hn]; exact compare_within X Y
  by_cases n0 : n < 0
  · obtain ⟨p, hp⟩ : ∃ p, p = compareB ys zs := ⟨_, rfl⟩
    by_cases p0 : p < 0
    · have q0 : compareB xs zs < 0 := compare_trans X Y Z (hn ▸ n0) (hp ▸ p0)
      cases F0 : fitsB xs zs <;> cases F1 : fitsB ys zs
      · exact wayC_ff a0 len0 cap0 xs a1 len1 cap1 ys a2 len2 cap2 zs w g0 g1 g2 l0 l1 l2 R0 R1 R2 X Y Z n nb hn.symm N2 N3 n0 p p0 hp.symm _ q0 rfl F0 F1
      · exact wayC_ft a0 len0 cap0 xs a1 len1 cap1 ys a2 len2 cap2 zs w g0 g1 g2 l0 l1 l2 R0 R1 R2 X Y Z n nb hn.symm N2 N3 n0 p p0 hp.symm _ q0 rfl F0 F1
      · exact wayC_tf a0 len0 cap0 xs a1 len1 cap1 ys a2 len2 cap2 zs w g0 g1 g2 l0 l1 l2 R0 R1 R2 X Y Z n nb hn.symm N2 N3 n0 p p0 hp.symm _ q0 rfl F0 F1
      · cases U : withinB xs ys
        · exact wayC_tt0 a0 len0 cap0 xs a1 len1 cap1 ys a2 len2 cap2 zs w g0 g1 g2 l0 l1 l2 R0 R1 R2 X Y Z n nb hn.symm N2 N3 n0 p p0 hp.symm _ q0 rfl F0 F1 U
        · exact wayC_tt1 a0 len0 cap0 xs a1 len1 cap1 ys a2 len2 cap2 zs w g0 g1 g2 l0 l1 l2 R0 R1 R2 X Y Z n nb hn.symm N2 N3 n0 p p0 hp.symm _ q0 rfl F0 F1 U (N6 U)
    · cases F0 : fitsB xs zs <;> cases F1 : fitsB ys zs
      · exact wayB_ff a0 len0 cap0 xs a1 len1 cap1 ys a2 len2 cap2 zs w g0 g1 g2 l0 l1 l2 R0 R1 R2 X Y Z n nb hn.symm N2 N3 n0 p p0 hp.symm F0 F1
      · exact wayB_ft a0 len0 cap0 xs a1 len1 cap1 ys a2 len2 cap2 zs w g0 g1 g2 l0 l1 l2 R0 R1 R2 X Y Z n nb hn.symm N2 N3 n0 p p0 hp.symm F0 F1
      · exact wayB_tf a0 len0 cap0 xs a1 len1 cap1 ys a2 len2 cap2 zs w g0 g1 g2 l0 l1 l2 R0 R1 R2 X Y Z n nb hn.symm N2 N3 n0 p p0 hp.symm F0 F1
      · cases U : withinB xs ys
        · exact wayB_tt0 a0 len0 cap0 xs a1 len1 cap1 ys a2 len2 cap2 zs w g0 g1 g2 l0 l1 l2 R0 R1 R2 X Y Z n nb hn.symm N2 N3 n0 p p0 hp.symm F0 F1 U
        · exact wayB_tt1 a0 len0 cap0 xs a1 len1 cap1 ys a2 len2 cap2 zs w g0 g1 g2 l0 l1 l2 R0 R1 R2 X Y Z n nb hn.symm N2 N3 n0 p p0 hp.symm F0 F1 U (N6 U)
  · cases F0 : fitsB xs zs <;> cases F1 : fitsB ys zs
    · exact wayA_ff a0 len0 cap0 xs a1 len1 cap1 ys a2 len2 cap2 zs w g0 g1 g2 l0 l1 l2 R0 R1 R2 X Y Z n nb hn.symm N2 N3 n0 F0 F1
    · exact wayA_ft a0 len0 cap0 xs a1 len1 cap1 ys a2 len2 cap2 zs w g0 g1 g2 l0 l1 l2 R0 R1 R2 X Y Z n nb hn.symm N2 N3 n0 F0 F1
    · exact wayA_tf a0 len0 cap0 xs a1 len1 cap1 ys a2 len2 cap2 zs w g0 g1 g2 l0 l1 l2 R0 R1 R2 X Y Z n nb hn.symm N2 N3 n0 F0 F1
    · cases U : withinB xs ys
      · exact wayA_tt0 a0 len0 cap0 xs a1 len1 cap1 ys a2 len2 cap2 zs w g0 g1 g2 l0 l1 l2 R0 R1 R2 X Y Z n nb hn.symm N2 N3 n0 F0 F1 U
      · exact wayA_tt1 a0 len0 cap0 xs a1 len1 cap1 ys a2 len2 cap2 zs w g0 g1 g2 l0 l1 l2 R0 R1 R2 X Y Z n nb hn.symm N2 N3 n0 F0 F1 U (N6 U)

set_option maxRecDepth 100000 in
theorem lifted (os : Os) (started : os.Started) (H : Type) (enc : TypeId × Value → H) :
    ReturnsInHanded {} Try.checked os 6 .any (Rows.bagOrdersSpec.pre6 enc Try.prog Try.f6 Rows.bagOrdersRow.domain false) (Rows.bagOrdersSpec.post enc Try.prog Try.f6 false true false false) := by
  refine returnsInHanded_of_change (C := Try.checked) Frame.own started (by kernel_rfl) Try.func6
    (ChangeSpec.witness6 (enc := enc) (C := Try.checked) false ⟨#[], #[.slice none 0 0, .slice none 0 0, .slice none 0 0], []⟩ 8 (by kernel_rfl) (by kernel_rfl) (by kernel_rfl) (by kernel_rfl)) ?_
  intro W base args ds gs before hval0 hW hcnd _
  have hval : ∀ (j : Nat) t v, Try.f6.params[j]? = some t → args[j]? = some v → Value.okWide Try.prog W .any base t v := hval0
  have hW' := hW
  obtain ⟨p, q, hA0, hV, rfl, hfz, hnd⟩ := hW
  have hA : DataW.TrodAll enc Try.prog W 0 (fun _ => true) true Try.f6.params.toList args.toList ds p := hA0
  rw [Try.params6] at hA hval
  obtain ⟨v0, vs0, d0, ds0, p0, q0, hargs, rfl, rfl, h0, r0⟩ := trodAll_cons hA
  obtain ⟨v1, vs1, d1, ds1, p1, q1, rfl, rfl, rfl, h1, r1⟩ := trodAll_cons r0
  obtain ⟨v2, vs2, d2, ds2, p2, q2, rfl, rfl, rfl, h2, r2⟩ := trodAll_cons r1
  obtain ⟨rfl, rfl, rfl⟩ := trodAll_nil r2
  obtain rfl : args = #[v0, v1, v2] := by cases args; simp_all
  obtain ⟨rfl, rfl⟩ := trodVars_none hV
  obtain ⟨a0, len0, cap0, rfl⟩ := okWide_slice Try.underlying23 (hval 0 23 v0 rfl rfl)
  have k0 := h0
  have lt0 : ∀ x ∈ p0, x.block < W.heap.size := by obtain ⟨m, hm⟩ := k0; exact DataW.trod_lt m _ _ _ hm
  obtain ⟨fu0, hf0⟩ := h0
  obtain ⟨z0, w0⟩ := Bag.open_bags hf0
  obtain ⟨a1, len1, cap1, rfl⟩ := okWide_slice Try.underlying23 (hval 1 23 v1 rfl rfl)
  have k1 := h1
  have lt1 : ∀ x ∈ p1, x.block < W.heap.size := by obtain ⟨m, hm⟩ := k1; exact DataW.trod_lt m _ _ _ hm
  obtain ⟨fu1, hf1⟩ := h1
  obtain ⟨z1, w1⟩ := Bag.open_bags hf1
  obtain ⟨a2, len2, cap2, rfl⟩ := okWide_slice Try.underlying23 (hval 2 23 v2 rfl rfl)
  have k2 := h2
  have lt2 : ∀ x ∈ p2, x.block < W.heap.size := by obtain ⟨m, hm⟩ := k2; exact DataW.trod_lt m _ _ _ hm
  obtain ⟨fu2, hf2⟩ := h2
  obtain ⟨z2, w2⟩ := Bag.open_bags hf2
  clear hA0 hval0
  refine (walk a0 len0 cap0 z0 a1 len1 cap1 z1 a2 len2 cap2 z2 W w0 w1 w2).mono fun e W' ⟨he, bel⟩ => ?_
  subst he
  exact ⟨_, rfl, _, _, _, [], _, [], hW', trodAll_mk1 (shut_bool Try.underlying4 _), (trodAll_cons_mk (Below.trod Frame.laidOut (by kernel_rfl) (of_decide_eq_true (by kernel_rfl)) k0 bel lt0) (trodAll_cons_mk (Below.trod Frame.laidOut (by kernel_rfl) (of_decide_eq_true (by kernel_rfl)) k1 bel lt1) (trodAll_cons_mk (Below.trod Frame.laidOut (by kernel_rfl) (of_decide_eq_true (by kernel_rfl)) k2 bel lt2) trodAll_mk0))), rfl, bel.frame _, fun h => by cases h⟩

theorem over : Rows.bagOrdersRow.holds Try.pinned (OpenSpec.ofChange Rows.bagOrdersSpec) :=
  OpenClaim.holds_of_wide 6 Try.f6 rfl rfl rfl rfl rfl rfl rfl ⟨rfl, rfl, rfl, rfl, rfl⟩ rfl rfl rfl rfl rfl (by kernel_rfl) Try.func6 (by kernel_rfl)
    (of_decide_eq_true (by kernel_rfl)) (by unfold Func.isWrapper; first | (rw [if_pos (by decide +kernel)]; kernel_rfl) | (rw [if_neg (by decide +kernel)]; exact ⟨rfl, rfl⟩))
    (fun os started H enc _ => lifted os started H enc)

theorem proved : Rows.BagOrdersSaid := over
end Go.Proofs.Ytoinepmlbcnbgaa.bagOrders
