/- The document's own free, Right and Size: contracts of the calls, over the turned program. -/
import Derived.Test.YtgdkomkflfodaaaGreatChkR4
namespace Go.Proofs.YtgdkomkflfodaaaGreat.Check
open Go.RowKit Go.Proofs.YtgdkomkflfodaaaGreat.Frame Go.Proofs.YtgdkomkflfodaaaGreat.Colour Go.Proofs.YtgdkomkflfodaaaGreat.Expr
set_option linter.unusedVariables false
set_option linter.unusedSimpArgs false

theorem rfree_any (s : ByteArray) (w : World) : Calls Tryz.prog 43 #[.string s] w fun e w' => e = .returned (.bool (freeB s)) ∧ Below w.heap.size w w' := by
  obtain ⟨b, hb⟩ : ∃ b, b = nameB s := ⟨_, rfl⟩
  obtain ⟨c, hc⟩ : ∃ c, c = Token.wordB s.data.toList := ⟨_, rfl⟩
  have NC : Hid (∀ W, Calls Tryz.prog 104 #[.string s] W fun e w' => e = .returned (.bool b) ∧ w' = W) := fun W => by rw [hb]; exact rname2 s W
  have WC : Hid (∀ W, Calls Tryz.prog 105 #[.string s] W fun e w' => e = .returned (.bool c) ∧ Below W.heap.size W w') := fun W => by rw [hc]; exact Token.r_word s W
  have HF : Hid (freeB s = (b && !c)) := by rw [Hid, hb, hc]; rfl
  clear hb hc
  go_enter Tryz.func43, Tryz.ntmps43
  cases b with
  | false =>
    go_wp2_with fail
    refine (NC.out _).mono ?_
    rintro e w1 ⟨he, hw⟩
    subst he
    have hw := hw.symm
    subst hw
    go_wp2_with fail
    go_ret
    exact ⟨by rw [HF.out]; rfl, Below.refl _ _⟩
  | true =>
    go_wp2_with fail
    refine (NC.out _).mono ?_
    rintro e w1 ⟨he, hw⟩
    subst he
    have hw := hw.symm
    subst hw
    go_wp2_with fail
    refine (WC.out _).mono ?_
    rintro e w2 ⟨he, hb2⟩
    subst he
    have HB : Hid (Below w.heap.size w w2) := hb2
    clear hb2
    go_wp2_with fail
    go_ret
    exact ⟨by rw [HF.out]; cases c <;> rfl, HB.out⟩

theorem sizes_len {cs : List Col} {ns : List Int} (h : sizesF cs = some ns) : ns.length = cs.length := (sizesF_out h).2.1
theorem sizes_nil : sizesF [] = some [] := by decide +kernel
theorem none_pos {cs : List Col} (h : sizesF cs = none) : 0 < cs.length := by
  cases cs with
  | nil => rw [sizes_nil] at h; cases h
  | cons c r => simp
theorem rright2_any (a : Option Addr) (cap : Nat) (cs : List Col) (w : World) (h : Cols w a cs.length cs) (hm : ∀ c, c ∈ cs → c.names.length ≤ 1000000) :
    Calls Tryz.prog 103 #[.slice a cs.length cap] w fun e w' => e = .returned (.bool (sizesF cs).isSome) ∧ Below w.heap.size w w' := by
  have SC : Hid (Calls Tryz.prog 106 #[.slice a cs.length cap] w (SizesPost cs w)) := rsizes2 a cap cs w h hm
  obtain ⟨L, hL⟩ : ∃ L, L = cs.length := ⟨_, rfl⟩
  have HLL : Hid (L = cs.length) := hL
  rw [← hL] at SC ⊢
  clear h hm hL
  go_enter Tryz.func103, Tryz.ntmps103
  go_wp2_with fail
  refine SC.out.mono ?_
  rintro e w1 (⟨ns, a1, c1, hs, he, hir⟩ | ⟨hs, he, hb⟩)
  · subst he
    have hl : ns.length = L := by rw [HLL.out]; exact sizes_len hs
    have HS : Hid (sizesF cs = some ns ∧ Below w.heap.size w w1) := ⟨hs, hir.2⟩
    rw [hl]
    clear hs hir SC
    go_wp2_with fail
    go_ret
    exact ⟨by rw [HS.out.1]; simp, HS.out.2⟩
  · subst he
    have hp : 0 < L := by rw [HLL.out]; exact none_pos hs
    have HS : Hid (sizesF cs = none ∧ Below w.heap.size w w1) := ⟨hs, hb⟩
    have hq : ((0 : Int) == (L : Int)) = false := beq_eq_false_iff_ne.2 (by omega)
    clear hs hb SC hp
    go_wp2_with fail
    go_ret
    exact ⟨by rw [HS.out.1]; simp <;> omega, HS.out.2⟩
theorem rsize2_any (a : Option Addr) (cap : Nat) (cs : List Col) (k : Int) (w : World) (h : Cols w a cs.length cs) (hm : ∀ c, c ∈ cs → c.names.length ≤ 1000000) :
    Calls Tryz.prog 46 #[.slice a cs.length cap, .int .i64 k] w fun e w' => e = .returned (.int .i64 (Colour.sizeF cs k)) ∧ Below w.heap.size w w' := by
  have SC : Hid (Calls Tryz.prog 106 #[.slice a cs.length cap] w (SizesPost cs w)) := rsizes2 a cap cs w h hm
  clear h hm
  go_enter Tryz.func46, Tryz.ntmps46
  go_wp2_with fail
  refine SC.out.mono ?_
  rintro e w1 (⟨ns, a1, c1, hs, he, hir⟩ | ⟨hs, he, hb⟩)
  · subst he
    have HS : Hid (sizesF cs = some ns ∧ IR w w1 a1 c1 ns) := ⟨hs, hir⟩
    clear hs hir SC
    by_cases h1 : k < 0
    · have E : Hid (Colour.sizeF cs k = 0) := sizeF_out HS.out.1 (by unfold withinB; exact decide_eq_false (by omega))
      go_wp2_with fail
      go_ret
      exact ⟨by rw [E.out]; try rfl, HS.out.2.2⟩
    by_cases h2 : k < ns.length
    · obtain ⟨j, rfl⟩ : ∃ j : Nat, k = j := ⟨k.toNat, by omega⟩
      have E : Hid (Colour.sizeF cs (j : Int) = ns.getD j 0) := sizeF_in HS.out.1 (by omega)
      obtain ⟨b, off, ha⟩ := HS.out.2.some_ (by omega)
      have c0 := HS.out.2.cell ha (j := j) (by omega)
      subst ha
      go_wp2_with fail
      go_ret
      exact ⟨by rw [E.out]; try rfl, HS.out.2.2⟩
    · have E : Hid (Colour.sizeF cs k = 0) := sizeF_out HS.out.1 (by unfold withinB; exact decide_eq_false (by omega))
      go_wp2_with fail
      go_ret
      exact ⟨by rw [E.out]; try rfl, HS.out.2.2⟩
  · subst he
    have HS : Hid (sizesF cs = none ∧ Below w.heap.size w w1) := ⟨hs, hb⟩
    have E : Hid (Colour.sizeF cs k = 0) := sizeF_none hs k
    clear hs hb SC
    by_cases h1 : k < 0
    · go_wp2_with fail
      go_ret
      exact ⟨by rw [E.out]; try rfl, HS.out.2⟩
    · go_wp2_with fail
      go_ret
      exact ⟨by rw [E.out]; try rfl, HS.out.2⟩
end Go.Proofs.YtgdkomkflfodaaaGreat.Check
