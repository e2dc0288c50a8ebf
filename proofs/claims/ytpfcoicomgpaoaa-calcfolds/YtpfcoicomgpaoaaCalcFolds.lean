/- CalcFolds holds: for all op, l the law returns true, and leaves its arguments as they were. No condition. -/
import Derived.Test.YtpfcoicomgpaoaaRows2
import Derived.Test.YtpfcoicomgpaoaaCalcSmall
import Derived.Deep.QuietTactic
import Derived.BigQuiet
namespace Go.Proofs.Ytpfcoicomgpaoaa.calcFolds
open Go.ChangeShapes Go.WideShapes Go.ChangeAt Go.RowKit Go.Proofs.Ytpfcoicomgpaoaa.Calc Go.Proofs.Ytpfcoicomgpaoaa.Frame
set_option linter.unusedVariables false

set_option maxHeartbeats 1000000 in
theorem walk_long (a0 : Int) (a : Option Addr) (len cap : Nat) (w : World) (h : 200 < len) :
    Calls Try.prog 5 #[.int .i64 a0, .slice a len cap] w fun e w' => e = .returned (.bool true) ∧ Below w.heap.size w w' := by
  go_enter Try.func5, Try.ntmps5
  go_wp2_with (go_at_call 9; refine (small_any _).mono ?_; rintro e w1 ⟨he, hb⟩; subst he)
  go_ret
  exact ⟨rfl, hb⟩

set_option maxHeartbeats 1000000 in
theorem walk_none (a0 : Int) (a : Option Addr) (cap : Nat) (w : World) :
    Calls Try.prog 5 #[.int .i64 a0, .slice a 0 cap] w fun e w' => e = .returned (.bool true) ∧ Below w.heap.size w w' := by
  cases a
  all_goals
    go_enter Try.func5, Try.ntmps5
    go_wp2_with (first
      | (go_at_call 9; refine (small_any _).mono ?_; rintro e w1 ⟨he, hb⟩; subst he)
      | (go_at_call 21; refine (fold_none _ _ _ _ _ (.inr rfl)).mono ?_; rintro e w' ⟨he, hw⟩; subst he; have hw := hw.symm; subst hw)
      | (go_at_call 22; refine (rfold_none _ _ _ _ _ (.inr rfl)).mono ?_; rintro e w' ⟨he, hw⟩; subst he; have hw := hw.symm; subst hw))
    refine wp_loop_rounds 1 ?_
    rw [rounds_succ]
    go_wp2
    go_ret
    exact ⟨rfl, hb.alloc hb.size _⟩

set_option maxHeartbeats 2000000 in
theorem walk_some (a0 : Int) (b off len cap : Nat) (ys : List Int) (w : World) (h1 : 1 ≤ len) (h2 : len ≤ 200) (hlc : len ≤ cap) (hm : cap ≤ maxLen) (hy : ys.length = len)
    (hcell : ∀ j, j < len → w.cell? ⟨b, off + j, none⟩ = some (.int .i64 (ys.getD j 0))) (hf : ∀ j, j < len → Fits (ys.getD j 0)) :
    Calls Try.prog 5 #[.int .i64 a0, .slice (some ⟨b, off, none⟩) len cap] w fun e w' => e = .returned (.bool true) ∧ Below w.heap.size w w' := by
  have hbl : b < w.heap.size := World.block_lt_of_cell? w _ (hcell 0 (by omega))
  have HC : Hid (∀ j, j < len → w.cell? ⟨b, off + j, none⟩ = some (.int .i64 (ys.getD j 0))) := hcell
  have HF : Hid (∀ j, j < len → Fits (ys.getD j 0)) := hf
  have HY : Hid (ys.length = len) := hy
  clear hcell hf hy
  go_enter Try.func5, Try.ntmps5
  go_wp2_with fail
  refine (small_any _).mono ?_
  rintro e w1 ⟨he, hb⟩
  subst he
  have H1 : Hid (∀ j, j < len → w1.cell? ⟨b, off + j, none⟩ = some (.int .i64 (ys.getD j 0))) := fun j hj => (hb.cell (p := ⟨b, off + j, none⟩) hbl).trans (HC.out j hj)
  obtain ⟨g, c, w2, hr, hg, hb2, hc1, hc2, hgb⟩ := copy_run w1 34 b off len cap ys h1 (by omega) H1.out
  have HR : Hid (_ = _) := hr
  have HG : Hid (∀ j, j < len → w2.cell? ⟨g, j, none⟩ = some (.int .i64 (ys.getD j 0))) := hg
  clear hr hg
  go_wp2_with (at_builtin; refine wpList_append_run rfl _ _ 34 34 rfl rfl rfl HR.out ?_)
  have H2 : Hid (∀ j, j < len → w2.cell? ⟨b, off + j, none⟩ = some (.int .i64 (ys.getD j 0))) := fun j hj => (hb2.cell (p := ⟨b, off + j, none⟩) (Nat.lt_of_lt_of_le hbl hb.size)).trans (H1.out j hj)
  have HB := then_ hb hb2
  clear HR hb hb2 H1 HC
  have HG0 : Hid (∀ j, j < len → w2.cell? ⟨g, 0 + j, none⟩ = some (.int .i64 (ys.getD j 0))) := fun j hj => by rw [Nat.zero_add]; exact HG.out j hj
  go_wp2_with (first
    | (go_at_call 21; refine (fold_row _ _ 0 _ _ ys _ h1 hc1 hc2 HY.out HG0.out HF.out).mono ?_; rintro e w' ⟨he, hw⟩; subst he; have hw := hw.symm; subst hw)
    | (go_at_call 22; refine (rfold_row _ _ _ _ _ ys _ h1 hlc hm HY.out H2.out HF.out).mono ?_; rintro e w' ⟨he, hw⟩; subst he; have hw := hw.symm; subst hw))
  clear HF HY HG0
  go_loopw [11] (fun i wr => ∃ k n : Nat, k ≤ len ∧ i = .int .i64 k ∧ wr = w2.drewN n) (fun i _ => len - (intOf i).toNat)
  case atStart => exact ⟨0, 0, by omega, rfl, rfl⟩
  case round =>
    obtain ⟨k, n, hk, rfl, rfl⟩ := hrel
    by_cases hlt : k < len
    · have c1 := HG.out k hlt
      have c2 := H2.out k hlt
      obtain ⟨x, hx⟩ : ∃ n, n = ys.getD k 0 := ⟨_, rfl⟩
      rw [← hx] at c1 c2
      clear hx
      have hlt' : (k : Int) < (len : Int) := by omega
      go_wp2
      go_quiet (fail)
      go_wp2
      go_roundw
      case rel => exact ⟨k + 1, _, by omega, by go_num, rfl⟩
      case measure => simp [intOf]; omega
    · go_wp2
      go_ret
      exact ⟨rfl, below_drewN HB _⟩

theorem walk (a0 : Int) (a1 : Option Addr) (len1 cap1 : Nat) (z1 : List Int) (w : World) (w0 : (Lit.int .i64 a0).wf = true) (w1 : Ints w a1 len1 cap1 z1) :
    Calls Try.prog 5 #[.int .i64 a0, .slice a1 len1 cap1] w fun e w' => e = .returned (.bool true) ∧ Below w.heap.size w w' := by
  by_cases hl : 200 < len1
  · exact walk_long a0 a1 len1 cap1 w hl
  rcases w1 with ⟨rfl, rfl, rfl, rfl⟩ | ⟨x, rfl, hlc, hm, hz, hcell, hwz⟩
  · exact walk_none a0 none 0 w
  by_cases h0 : len1 = 0
  · subst h0; exact walk_none a0 (some x) cap1 w
  obtain ⟨b, off, rfl, hc⟩ := ints_at hcell (by omega)
  have hget : ∀ j, j < len1 → (z1.take len1).getD j 0 = z1.getD j 0 := fun j hj => by
    rw [List.getD_eq_getElem?_getD, List.getElem?_take_of_lt hj, ← List.getD_eq_getElem?_getD]
  refine walk_some a0 b off len1 cap1 (z1.take len1) w (by omega) (by omega) hlc hm (by rw [List.length_take]; omega) (fun j hj => ?_) (fun j hj => ?_)
  · rw [hget j hj]; exact hc j (by omega)
  · rw [hget j hj, List.getD_eq_getElem?_getD, List.getElem?_eq_getElem (by omega)]
    exact bounds_i64 (hwz _ (List.getElem_mem _))

set_option maxRecDepth 100000 in
theorem lifted (os : Os) (started : os.Started) (H : Type) (enc : TypeId × Value → H) :
    ReturnsInHanded {} Try.checked os 5 .any (Rows.calcFoldsSpec.pre6 enc Try.prog Try.f5 Rows.calcFoldsRow.domain false) (Rows.calcFoldsSpec.post enc Try.prog Try.f5 false true false false) := by
  refine returnsInHanded_of_change (C := Try.checked) Frame.own started (by kernel_rfl) Try.func5
    (ChangeSpec.witness6 (enc := enc) (C := Try.checked) false ⟨#[], #[.int .i64 0, .slice none 0 0], []⟩ 8 (by kernel_rfl) (by kernel_rfl) (by kernel_rfl) (by kernel_rfl)) ?_
  intro W base args ds gs before hval0 hW hcnd _
  have hval : ∀ (j : Nat) t v, Try.f5.params[j]? = some t → args[j]? = some v → Value.okWide Try.prog W .any base t v := hval0
  have hW' := hW
  obtain ⟨p, q, hA0, hV, rfl, hfz, hnd⟩ := hW
  have hA : DataW.TrodAll enc Try.prog W 0 (fun _ => true) true Try.f5.params.toList args.toList ds p := hA0
  rw [Try.params5] at hA hval
  obtain ⟨v0, vs0, d0, ds0, p0, q0, hargs, rfl, rfl, h0, r0⟩ := trodAll_cons hA
  obtain ⟨v1, vs1, d1, ds1, p1, q1, rfl, rfl, rfl, h1, r1⟩ := trodAll_cons r0
  obtain ⟨rfl, rfl, rfl⟩ := trodAll_nil r1
  obtain rfl : args = #[v0, v1] := by cases args; simp_all
  obtain ⟨rfl, rfl⟩ := trodVars_none hV
  obtain ⟨a0, rfl, rfl, rfl, w0⟩ := open_int Try.underlying3 (hval 0 3 v0 rfl rfl) h0
  obtain ⟨a1, len1, cap1, rfl⟩ := okWide_slice Try.underlying34 (hval 1 34 v1 rfl rfl)
  have k1 := h1
  have lt1 : ∀ x ∈ p1, x.block < W.heap.size := by obtain ⟨m, hm⟩ := k1; exact DataW.trod_lt m _ _ _ hm
  obtain ⟨z1, w1⟩ : ∃ zs, Frame.Ints W a1 len1 cap1 zs := by
    obtain ⟨fuel, hf⟩ := h1
    rcases open_ints Try.underlying34 Try.underlying3 (by kernel_rfl) hf with ⟨hcs, _⟩ | ⟨x, l, c, zs, hcs, _, hl, hm, hz, _, hcell, hwz⟩
    · simp [Value.cells] at hcs
      obtain ⟨rfl, rfl, rfl⟩ := hcs
      exact ⟨[], .inl ⟨rfl, rfl, rfl, rfl⟩⟩
    · simp [Value.cells] at hcs
      obtain ⟨rfl, rfl, rfl⟩ := hcs
      exact ⟨zs, .inr ⟨_, rfl, hl, hm, by simpa using hz, hcell, hwz⟩⟩
  clear hA0 hval0
  refine (walk a0 a1 len1 cap1 z1 W w0 w1).mono fun e W' ⟨he, bel⟩ => ?_
  subst he
  exact ⟨_, rfl, _, _, _, [], _, [], hW', trodAll_mk1 (shut_bool Try.underlying4 _), (trodAll_cons_mk (shut_int Try.underlying3 w0) (trodAll_cons_mk (Below.trod Frame.laidOut (by kernel_rfl) (of_decide_eq_true (by kernel_rfl)) k1 bel lt1) trodAll_mk0)), rfl, bel.frame _, fun h => by cases h⟩

theorem over : Rows.calcFoldsRow.holds Try.pinned (OpenSpec.ofChange Rows.calcFoldsSpec) :=
  OpenClaim.holds_of_wide 5 Try.f5 rfl rfl rfl rfl rfl rfl rfl ⟨rfl, rfl, rfl, rfl, rfl⟩ rfl rfl rfl rfl rfl (by kernel_rfl) Try.func5 (by kernel_rfl)
    (of_decide_eq_true (by kernel_rfl)) (by unfold Func.isWrapper; first | (rw [if_pos (by decide +kernel)]; kernel_rfl) | (rw [if_neg (by decide +kernel)]; exact ⟨rfl, rfl⟩))
    (fun os started H enc _ => lifted os started H enc)

theorem proved : Rows.CalcFoldsSaid := over
end Go.Proofs.Ytpfcoicomgpaoaa.calcFolds
