/- The document's own names of layer 2: a contract of the call, over the turned program. -/
import Derived.Test.YtgdkomkflfodaaaGreatChkR2
import Derived.Test.YtgdkomkflfodaaaGreatMbF
namespace Go.Proofs.YtgdkomkflfodaaaGreat.Colour
open Go.RowKit Go.Proofs.YtgdkomkflfodaaaGreat.Frame Go.Proofs.YtgdkomkflfodaaaGreat.Expr
set_option linter.unusedVariables false
set_option linter.unusedSimpArgs false

def eqT (a b : ByteArray) : Bool := a.toList == b.toList
/-- the name, and that none of the first k is it -/
def newTo (zs : List ByteArray) (i k : Nat) : Bool := nameB (zs.getD i ByteArray.empty) && (List.range k).all fun j => !eqT (zs.getD j ByteArray.empty) (zs.getD i ByteArray.empty)
theorem newTo_zero (zs : List ByteArray) (i : Nat) : newTo zs i 0 = nameB (zs.getD i ByteArray.empty) := by unfold newTo; simp
theorem newTo_succ (zs : List ByteArray) (i k : Nat) : newTo zs i (k + 1) = (newTo zs i k && !eqT (zs.getD k ByteArray.empty) (zs.getD i ByteArray.empty)) := by
  unfold newTo; rw [List.range_succ, List.all_append, ← Bool.and_assoc]; simp
theorem newTo_all (zs : List ByteArray) (i : Nat) : newTo zs i i = newB zs i := rfl
theorem str_at {w : World} {a : Option Addr} {zs : List ByteArray} (h : Strs w a zs.length zs) {b off : Nat} (ha : a = some ⟨b, off, none⟩) {j : Nat} (hj : j < zs.length) : w.cell? ⟨b, off + j, none⟩ = some (.string (zs.getD j ByteArray.empty)) := by
  rcases h.2 with h0 | ⟨b', off', ha', hc⟩
  · omega
  · rw [ha] at ha'
    cases ha'
    exact hc j hj
theorem str_some {w : World} {a : Option Addr} {zs : List ByteArray} (h : Strs w a zs.length zs) (hz : 0 < zs.length) : ∃ b off, a = some ⟨b, off, none⟩ := by
  rcases h.2 with h0 | ⟨b', off', ha', hc⟩
  · omega
  · exact ⟨b', off', ha'⟩
set_option maxRecDepth 10000 in
set_option maxHeartbeats 4000000 in
theorem rnames2 (a : Option Addr) (cap : Nat) (zs : List ByteArray) (w : World) (h : Strs w a zs.length zs) (hm : zs.length ≤ 1000000) :
    Calls Tryz.prog 128 #[.slice a zs.length cap] w fun e w' => e = .returned (.bool (allB zs)) ∧ Below w.heap.size w w' := by
  have HC : Hid (Strs w a zs.length zs) := h
  obtain ⟨L, hL⟩ : ∃ L, L = zs.length := ⟨_, rfl⟩
  have HLL : Hid (L = zs.length) := hL
  rw [← hL] at hm ⊢
  clear h hL
  go_enter Tryz.func128, Tryz.ntmps128
  go_wp2
  go_loopw [3] (fun v wr => ∃ i : Nat, v = .int .i64 (i : Int) ∧ i ≤ L ∧ Hid (Below w.heap.size w wr ∧ ∀ j, j < i → newB zs j = true)) (fun v _ => L - (intOf v).toNat)
  case atStart => exact ⟨0, rfl, by omega, Below.refl _ _, fun j hj => absurd hj (Nat.not_lt_zero _)⟩
  case round =>
    obtain ⟨i, rfl, hi, HI⟩ := hrel
    by_cases hlt : i < L
    · have hlt' : (i : Int) < L := by omega
      obtain ⟨b, off, ha⟩ := str_some HC.out (by rw [← HLL.out]; omega)
      subst ha
      have HZ : Hid (∀ W, Below w.heap.size w W → ∀ j, j < L → W.cell? ⟨b, off + j, none⟩ = some (.string (zs.getD j ByteArray.empty))) := fun W hW j hj => str_at (HC.out.below hW) rfl (by rw [← HLL.out]; exact hj)
      obtain ⟨s, hs⟩ : ∃ s, s = zs.getD i ByteArray.empty := ⟨_, rfl⟩
      have HS : Hid (s = zs.getD i ByteArray.empty) := hs
      have e0 : wr.cell? ⟨b, off + i, none⟩ = some (.string s) := by rw [hs]; exact HZ.out wr HI.out.1 i hlt
      obtain ⟨b0, hb0⟩ : ∃ b0, b0 = nameB s := ⟨_, rfl⟩
      have NC : Hid (∀ W, Calls Tryz.prog 104 #[.string s] W fun e w' => e = .returned (.bool b0) ∧ w' = W) := fun W => by rw [hb0]; exact rname2 s W
      have HB0 : Hid (b0 = newTo zs i 0) := by rw [Hid, newTo_zero, hb0, hs]
      clear hs hb0
      go_wp2_with fail
      refine (NC.out _).mono ?_
      rintro e w5 ⟨he, hw⟩
      subst he
      have hw := hw.symm
      subst hw
      clear NC e0
      go_wp2_with fail
      go_loopw [4, 5] (fun u v wv => ∃ (ok : Bool) (k : Nat), u = .bool ok ∧ v = .int .i64 (k : Int) ∧ k ≤ i ∧ Hid (Below w.heap.size w wv ∧ ok = newTo zs i k)) (fun _ v _ => i - (intOf v).toNat)
      case atStart => exact ⟨b0, 0, rfl, rfl, by omega, HI.out.1, HB0.out⟩
      case round =>
        obtain ⟨ok, k, rfl, rfl, hk, HK⟩ := hrel
        by_cases hki : k < i
        · have hki' : (k : Int) < i := by omega
          have hkl' : (k : Int) < L := by omega
          have DN : Hid (∀ n, Below w.heap.size w (wr.drewN n)) := fun n => dn' HK.out.1 n
          cases ok with
          | false =>
            have NX : Hid (false = newTo zs i (k + 1)) := by rw [Hid, newTo_succ, ← HK.out.2]; rfl
            go_wp2_with fail
            go_quiet (fail)
            go_wp2_with fail
            go_roundw
            case rel => first | exact ⟨false, k + 1, by simp, by simp, by omega, DN.out _, NX.out⟩ | exact ⟨_, _, _, ⟨false, k + 1, by simp, by go_num, by omega, DN.out _, NX.out⟩, rfl, rfl, rfl⟩
            all_goals (simp [intOf]; omega)
          | true =>
            obtain ⟨s2, hs2⟩ : ∃ s2, s2 = zs.getD k ByteArray.empty := ⟨_, rfl⟩
            have e1 : wr.cell? ⟨b, off + k, none⟩ = some (.string s2) := by rw [hs2]; exact HZ.out wr HK.out.1 k (by omega)
            have e2 : wr.cell? ⟨b, off + i, none⟩ = some (.string s) := by rw [HS.out]; exact HZ.out wr HK.out.1 i hlt
            have HS2 : Hid (s2 = zs.getD k ByteArray.empty) := hs2
            clear hs2
            cases hq : (s2.toList == s.toList) with
            | false =>
              have hq' : (s2.toList != s.toList) = true := by rw [bne, hq]; rfl
              have NX : Hid (true = newTo zs i (k + 1)) := by rw [Hid, newTo_succ, ← HK.out.2, ← HS2.out, ← HS.out, eqT, hq]; rfl
              go_wp2_with fail
              go_quiet (fail)
              go_wp2_with fail
              go_roundw
              case rel => first | exact ⟨true, k + 1, by simp, by simp, by omega, DN.out _, NX.out⟩ | exact ⟨_, _, _, ⟨true, k + 1, by simp, by go_num, by omega, DN.out _, NX.out⟩, rfl, rfl, rfl⟩
              all_goals (simp [intOf]; omega)
            | true =>
              have hq' : (s2.toList != s.toList) = false := by rw [bne, hq]; rfl
              have NX : Hid (false = newTo zs i (k + 1)) := by rw [Hid, newTo_succ, ← HK.out.2, ← HS2.out, ← HS.out, eqT, hq]; rfl
              go_wp2_with fail
              go_quiet (fail)
              go_wp2_with fail
              go_roundw
              case rel => first | exact ⟨false, k + 1, by simp, by simp, by omega, DN.out _, NX.out⟩ | exact ⟨_, _, _, ⟨false, k + 1, by simp, by go_num, by omega, DN.out _, NX.out⟩, rfl, rfl, rfl⟩
              all_goals (simp [intOf]; omega)
        · have hki' : ¬ (k : Int) < i := by omega
          have e : k = i := by omega
          cases ok with
          | false =>
            have N : Hid (allB zs = false) := allB_not (i := i) (by rw [← HLL.out]; exact hlt) (by have h2 := HK.out.2; rw [e] at h2; rw [← newTo_all]; exact h2.symm)
            go_wp2_with fail
            go_ret
            exact ⟨by rw [N.out]; rfl, HK.out.1⟩
          | true =>
            have NX : Hid (Below w.heap.size w wr ∧ ∀ j, j < i + 1 → newB zs j = true) := ⟨HK.out.1, fun j hj => by
              rcases Nat.lt_succ_iff_lt_or_eq.1 hj with g | g
              · exact HI.out.2 j g
              · rw [g, ← newTo_all]
                have := HK.out.2
                rw [e] at this
                exact this.symm⟩
            go_wp2_with fail
            go_roundw
            case rel => first | exact ⟨i + 1, by simp, by omega, NX⟩ | exact ⟨_, _, ⟨i + 1, by go_num, by omega, NX⟩, rfl, rfl⟩
            all_goals (simp [intOf]; omega)
    · have hlt' : ¬ (i : Int) < L := by omega
      have N : Hid (allB zs = true) := allB_of fun j hj => HI.out.2 j (by rw [HLL.out] at hlt; omega)
      go_wp2_with fail
      go_ret
      exact ⟨by rw [N.out]; rfl, HI.out.1⟩
end Go.Proofs.YtgdkomkflfodaaaGreat.Colour
