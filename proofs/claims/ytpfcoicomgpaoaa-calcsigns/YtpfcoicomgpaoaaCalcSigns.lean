/- CalcSigns holds: for all op, s the law returns true, and leaves its arguments as they were. No condition. -/
import Derived.Test.YtpfcoicomgpaoaaFrame
import Derived.Test.YtpfcoicomgpaoaaCalcSmall
namespace Go.Proofs.Ytpfcoicomgpaoaa.calcSigns
open Go.ChangeShapes Go.WideShapes Go.ChangeAt Go.RowKit Go.Proofs.Ytpfcoicomgpaoaa.Calc Go.Proofs.Ytpfcoicomgpaoaa.Frame
open Go.ChangeMaps (open_string shut_string)
set_option linter.unusedVariables false

theorem op_sign (op : Int) : opF (signF op) = if knownB op then (op, true) else (0, false) := by
  rcases op_cases op with h | h | h | h | h | h | h | h | h | h | h | h
  iterate 11 (subst h; decide +kernel)
  have hk : knownB op = false := by unfold knownB; exact decide_eq_false (by omega)
  rw [sign_not h, hk, if_neg (by decide)]; decide +kernel

set_option maxHeartbeats 1000000 in
theorem walk_at (a0 : Int) (a1 : ByteArray) (w : World) (n : Int) (p : Bool) (H : Hid (opF (signF a0) = (n, p))) (K : Hid (knownB a0 = p)) (hn : Hid (p = true → n = a0)) :
    Calls Try.prog 4 #[.int .i64 a0, .string a1] w fun e w' => e = .returned (.bool true) ∧ Below w.heap.size w w' := by
  cases p
  · clear hn
    go_enter Try.func4, Try.ntmps4
    go_wp2_with (first
      | (go_at_call 9; refine (small_any _).mono ?_; rintro e w' ⟨he, hb⟩; subst he)
      | (go_at_call 15; refine (op_any _ _).mono ?_; rintro e w' ⟨he, hw⟩; subst he; have hw := hw.symm; subst hw; first | rw [H.out] | skip)
      | (go_at_call 16; refine (rop_any _ _).mono ?_; rintro e w' ⟨he, hb'⟩; subst he; replace hb := then_ hb hb'; clear hb')
      | (go_at_call 17; refine (sign_any _ _).mono ?_; rintro e w' ⟨he, hw⟩; subst he; have hw := hw.symm; subst hw)
      | (go_at_call 18; refine (rsign_any _ _).mono ?_; rintro e w' ⟨he, hb'⟩; subst he; replace hb := then_ hb hb'; clear hb')
      | (go_at_call 19; refine (strength_any _ _).mono ?_; rintro e w' ⟨he, hw⟩; subst he; have hw := hw.symm; subst hw)
      | (go_at_call 20; refine (rstrength_any _ _).mono ?_; rintro e w' ⟨he, hb'⟩; subst he; replace hb := then_ hb hb'; clear hb')
      | (go_at_call 13; refine (known_any _ _).mono ?_; rintro e w' ⟨he, hw⟩; subst he; have hw := hw.symm; subst hw; rw [K.out]))
    go_ret
    exact ⟨rfl, ‹_›⟩
  · have hn' : n = a0 := hn.out rfl
    subst hn'
    clear hn
    go_enter Try.func4, Try.ntmps4
    go_wp2_with (first
      | (go_at_call 9; refine (small_any _).mono ?_; rintro e w' ⟨he, hb⟩; subst he)
      | (go_at_call 15; refine (op_any _ _).mono ?_; rintro e w' ⟨he, hw⟩; subst he; have hw := hw.symm; subst hw; first | rw [H.out] | skip)
      | (go_at_call 16; refine (rop_any _ _).mono ?_; rintro e w' ⟨he, hb'⟩; subst he; replace hb := then_ hb hb'; clear hb')
      | (go_at_call 17; refine (sign_any _ _).mono ?_; rintro e w' ⟨he, hw⟩; subst he; have hw := hw.symm; subst hw)
      | (go_at_call 18; refine (rsign_any _ _).mono ?_; rintro e w' ⟨he, hb'⟩; subst he; replace hb := then_ hb hb'; clear hb')
      | (go_at_call 19; refine (strength_any _ _).mono ?_; rintro e w' ⟨he, hw⟩; subst he; have hw := hw.symm; subst hw)
      | (go_at_call 20; refine (rstrength_any _ _).mono ?_; rintro e w' ⟨he, hb'⟩; subst he; replace hb := then_ hb hb'; clear hb')
      | (go_at_call 13; refine (known_any _ _).mono ?_; rintro e w' ⟨he, hw⟩; subst he; have hw := hw.symm; subst hw; rw [K.out]))
    go_ret
    exact ⟨rfl, ‹_›⟩

theorem walk (a0 : Int) (a1 : ByteArray) (w : World) (w0 : (Lit.int .i64 a0).wf = true) (w1 : a1.size ≤ maxLen) :
    Calls Try.prog 4 #[.int .i64 a0, .string a1] w fun e w' => e = .returned (.bool true) ∧ Below w.heap.size w w' := by
  have h := op_sign a0
  cases hk : knownB a0 with
  | true => rw [hk, if_pos rfl] at h; exact walk_at a0 a1 w a0 true h hk (fun _ => rfl)
  | false => rw [hk, if_neg (by decide)] at h; exact walk_at a0 a1 w 0 false h hk (fun h => by cases h)

set_option maxRecDepth 100000 in
theorem lifted (os : Os) (started : os.Started) (H : Type) (enc : TypeId × Value → H) :
    ReturnsInHanded {} Try.checked os 4 .any (Rows.calcSignsSpec.pre6 enc Try.prog Try.f4 Rows.calcSignsRow.domain false) (Rows.calcSignsSpec.post enc Try.prog Try.f4 false true false false) := by
  refine returnsInHanded_of_change (C := Try.checked) Frame.own started (by kernel_rfl) Try.func4
    (ChangeSpec.witness6 (enc := enc) (C := Try.checked) false ⟨#[], #[.int .i64 0, .string ByteArray.empty], []⟩ 8 (by kernel_rfl) (by kernel_rfl) (by kernel_rfl) (by kernel_rfl)) ?_
  intro W base args ds gs before hval0 hW hcnd _
  have hval : ∀ (j : Nat) t v, Try.f4.params[j]? = some t → args[j]? = some v → Value.okWide Try.prog W .any base t v := hval0
  have hW' := hW
  obtain ⟨p, q, hA0, hV, rfl, hfz, hnd⟩ := hW
  have hA : DataW.TrodAll enc Try.prog W 0 (fun _ => true) true Try.f4.params.toList args.toList ds p := hA0
  rw [Try.params4] at hA hval
  obtain ⟨v0, vs0, d0, ds0, p0, q0, hargs, rfl, rfl, h0, r0⟩ := trodAll_cons hA
  obtain ⟨v1, vs1, d1, ds1, p1, q1, rfl, rfl, rfl, h1, r1⟩ := trodAll_cons r0
  obtain ⟨rfl, rfl, rfl⟩ := trodAll_nil r1
  obtain rfl : args = #[v0, v1] := by cases args; simp_all
  obtain ⟨rfl, rfl⟩ := trodVars_none hV
  obtain ⟨a0, rfl, rfl, rfl, w0⟩ := open_int Try.underlying3 (hval 0 3 v0 rfl rfl) h0
  obtain ⟨a1, rfl, rfl, rfl, w1⟩ := open_string Try.underlying9 (hval 1 9 v1 rfl rfl) h1
  clear hA0 hval0
  refine (walk a0 a1 W w0 w1).mono fun e W' ⟨he, bel⟩ => ?_
  subst he
  exact ⟨_, rfl, _, _, _, [], _, [], hW', trodAll_mk1 (shut_bool Try.underlying4 _), (trodAll_cons_mk (shut_int Try.underlying3 w0) (trodAll_cons_mk (shut_string Try.underlying9 w1) trodAll_mk0)), rfl, bel.frame _, fun h => by cases h⟩

theorem over : Rows.calcSignsRow.holds Try.pinned (OpenSpec.ofChange Rows.calcSignsSpec) :=
  OpenClaim.holds_of_wide 4 Try.f4 rfl rfl rfl rfl rfl rfl rfl ⟨rfl, rfl, rfl, rfl, rfl⟩ rfl rfl rfl rfl rfl (by kernel_rfl) Try.func4 (by kernel_rfl)
    (of_decide_eq_true (by kernel_rfl)) (by unfold Func.isWrapper; first | (rw [if_pos (by decide +kernel)]; kernel_rfl) | (rw [if_neg (by decide +kernel)]; exact ⟨rfl, rfl⟩))
    (fun os started H enc _ => lifted os started H enc)

theorem proved : Rows.CalcSignsSaid := over
end Go.Proofs.Ytpfcoicomgpaoaa.calcSigns
