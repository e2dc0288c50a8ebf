/- Which colour is the first that is wrong: contracts of the calls, over the turned program. -/
import Derived.Test.YtgdkomkflfodaaaGreatChkNam
namespace Go.Proofs.YtgdkomkflfodaaaGreat.Check
open Go.RowKit Go.Proofs.YtgdkomkflfodaaaGreat.Frame Go.Proofs.YtgdkomkflfodaaaGreat.Colour Go.Proofs.YtgdkomkflfodaaaGreat.Expr
set_option linter.unusedVariables false
set_option linter.unusedSimpArgs false

/-- a closure of a number that tells yes or no -/
def AskI (w : World) (v : Value) (n : Nat) (f : Nat → Bool) : Prop := ∃ K caps, v = .func (.func K) #[] caps ∧ Goes K ∧ ∀ W, Below w.heap.size w W → ∀ i : Nat, i < n → Calls Tryz.prog K (#[.int .i64 (i : Int)] ++ caps) W fun en W' => en = .returned (.bool (f i)) ∧ Below W.heap.size W W'
theorem AskI.below {w w' : World} {v : Value} {n : Nat} {f : Nat → Bool} (h : AskI w v n f) (hb : Below w.heap.size w w') : AskI w' v n f := by
  obtain ⟨K, caps, hv, hg, h⟩ := h
  exact ⟨K, caps, hv, hg, fun W hW => h W (then_ hb hW)⟩
/-- the first place at which f holds -/
def FirstAt (n : Nat) (f : Nat → Bool) (r : Nat) : Prop := r ≤ n ∧ (∀ j, j < r → f j = false) ∧ (r < n → f r = true)
theorem FirstAt.uniq {n r s : Nat} {f : Nat → Bool} (h : FirstAt n f r) (k : FirstAt n f s) : r = s := by
  rcases Nat.lt_trichotomy r s with g | g | g
  · have h1 := h.2.2 (by have := k.1; omega)
    rw [k.2.1 r g] at h1; cases h1
  · exact g
  · have h1 := k.2.2 (by have := h.1; omega)
    rw [h.2.1 s g] at h1; cases h1
def SearchPost (n : Nat) (f : Nat → Bool) (w : World) (e : Ending) (w' : World) : Prop := ∃ r : Nat, e = .returned (.int .i64 (r : Int)) ∧ FirstAt n f r ∧ Below w.heap.size w w'
set_option maxHeartbeats 1000000 in
theorem search_any (n : Nat) (v : Value) (f : Nat → Bool) (w : World) (hn : n ≤ 1000000) (hA : AskI w v n f) (hm : ∀ i j, i ≤ j → j < n → f i = true → f j = true) :
    Calls Tryz.prog 69 #[.int .i64 (n : Int), v] w (SearchPost n f w) := by
  obtain ⟨K, caps, hv, hG, hA⟩ := hA
  subst hv
  have H0 : Hid (∀ W, Below w.heap.size w W → ∀ i : Nat, i < n → Calls Tryz.prog K (#[.int .i64 (i : Int)] ++ caps) W fun en W' => en = .returned (.bool (f i)) ∧ Below W.heap.size W W') := hA
  have HM : Hid (∀ i j, i ≤ j → j < n → f i = true → f j = true) := hm
  unfold Goes at hG
  clear hA hm
  go_enter Tryz.func69, Tryz.ntmps69
  go_wp2_with fail
  go_loopw [5, 6] (fun v u wr => ∃ i j : Nat, v = .int .i64 (i : Int) ∧ u = .int .i64 (j : Int) ∧ i ≤ j ∧ j ≤ n ∧ Hid (Below w.heap.size w wr ∧ (∀ k, k < i → f k = false) ∧ ∀ k, j ≤ k → k < n → f k = true)) (fun v u _ => match v, u with | .int _ y, .int _ z => z.toNat - y.toNat | _, _ => 0)
  case atStart => exact ⟨0, n, rfl, rfl, by omega, by omega, ⟨Below.refl _ _, fun j hj => absurd hj (Nat.not_lt_zero _), fun k h1 h2 => by omega⟩⟩
  case round =>
    obtain ⟨i, j, rfl, rfl, hij, hj, HI⟩ := hrel
    by_cases hlt : i < j
    · have hlt' : (i : Int) < j := by omega
      obtain ⟨m, hm⟩ : ∃ m : Nat, m = (i + j) / 2 := ⟨_, rfl⟩
      have hm1 : i ≤ m ∧ m < j := by omega
      have CL : Hid (Calls Tryz.prog K (#[.int .i64 (m : Int)] ++ caps) wr fun en W' => en = .returned (.bool (f m)) ∧ Below wr.heap.size wr W') := H0.out wr HI.out.1 m (by omega)
      have em : ((i : Int) + (j : Int)) / 2 = (m : Int) := by omega
      have HMM : Hid (m = (i + j) / 2) := hm
      clear hm
      go_wp2_with fail
      refine CL.out.mono ?_
      rintro en w1 ⟨he, hb⟩
      subst he
      have B1 : Hid (Below w.heap.size w w1) := then_ HI.out.1 hb
      clear hb em CL
      cases hf : f m with
      | true =>
        have NX : Hid (Below w.heap.size w w1 ∧ (∀ k, k < i → f k = false) ∧ ∀ k, m ≤ k → k < n → f k = true) := ⟨B1.out, HI.out.2.1, fun k h1 h2 => HM.out m k h1 h2 hf⟩
        go_wp2_with fail
        go_roundw
        case rel => exact ⟨i, m, by simp, by simp, by omega, by omega, NX⟩
        case measure => simp; omega
      | false =>
        have NX : Hid (Below w.heap.size w w1 ∧ (∀ k, k < m + 1 → f k = false) ∧ ∀ k, j ≤ k → k < n → f k = true) := ⟨B1.out, (fun k hk => by
          cases hk2 : f k with
          | false => rfl
          | true => rw [HM.out k m (by omega) (by omega) hk2] at hf; cases hf), HI.out.2.2⟩
        go_wp2_with fail
        go_roundw
        case rel => exact ⟨m + 1, j, by simp, by simp, by omega, by omega, NX⟩
        case measure => simp; omega
    · have hlt' : ¬ (i : Int) < j := by omega
      have F : Hid (FirstAt n f i) := ⟨by omega, HI.out.2.1, fun h => HI.out.2.2 i (by omega) h⟩
      go_wp2_with fail
      go_ret
      exact ⟨i, rfl, F.out, HI.out.1⟩

/- free names of a colour's members -/
theorem notfree_any (s : ByteArray) (w : World) : Calls Tryz.prog 73 #[.string s] w fun e w' => e = .returned (.bool (!freeB s)) ∧ w' = w := by
  go_enter Tryz.func73, Tryz.ntmps73
  go_wp2_with (go_at_call 71; refine (free_any _ _).mono ?_; rintro e w' ⟨he, hw⟩; subst he; have hw := hw.symm; subst hw)
  go_ret
  exact ⟨rfl, rfl⟩
def anyF (l : List ByteArray) : Bool := l.any fun s => !freeB s
def IdxPost (l : List ByteArray) (w : World) (e : Ending) (w' : World) : Prop := ∃ z : Int, e = .returned (.int .i64 z) ∧ decide (0 ≤ z) = anyF l ∧ w' = w
set_option maxHeartbeats 1000000 in
theorem indexFunc_any (a : Option Addr) (cap : Nat) (l : List ByteArray) (w : World) (h : Strs w a l.length l) (hm : l.length ≤ 1000000) :
    Calls Tryz.prog 114 #[.slice a l.length cap, .func (.func 73) #[] #[]] w (IdxPost l w) := by
  have H0 : Hid (Strs w a l.length l) := h
  clear h
  go_enter Tryz.func114, Tryz.ntmps114
  go_wp2_with fail
  go_loopw [8] (fun v wr => ∃ i : Nat, v = .int .i64 (i : Int) ∧ i ≤ l.length ∧ Hid (wr = w ∧ ∀ j, j < i → freeB (l.getD j ByteArray.empty) = true)) (fun v _ => match v with | .int _ z => l.length - z.toNat | _ => 0)
  case atStart => exact ⟨0, rfl, by omega, ⟨rfl, fun j hj => absurd hj (Nat.not_lt_zero _)⟩⟩
  case round =>
    obtain ⟨i, rfl, hi, HI⟩ := hrel
    have hwr := HI.out.1
    subst hwr
    by_cases hlt : i < l.length
    · have hlt' : (i : Int) < l.length := by omega
      obtain ⟨b, off, ha, hc⟩ : ∃ b off, a = some ⟨b, off, none⟩ ∧ wr.cell? ⟨b, off + i, none⟩ = some (.string (l.getD i ByteArray.empty)) := by
        rcases H0.out.2 with g | ⟨b, off, ha, g⟩
        · omega
        · exact ⟨b, off, ha, g i hlt⟩
      subst ha
      obtain ⟨s, hs⟩ : ∃ s, s = l.getD i ByteArray.empty := ⟨_, rfl⟩
      rw [← hs] at hc
      have HS : Hid (s = l.getD i ByteArray.empty) := hs
      have CL : Hid (Calls Tryz.prog 73 #[.string s] wr fun e w' => e = .returned (.bool (!freeB s)) ∧ w' = wr) := notfree_any s wr
      clear hs
      cases hb : freeB s with
      | false =>
        rw [hb] at CL
        have R : Hid (anyF l = true) := by
          unfold anyF
          rw [List.any_eq_true]
          refine ⟨s, ?_, by rw [hb]; rfl⟩
          rw [HS.out, List.getD_eq_getElem?_getD, List.getElem?_eq_getElem hlt]
          exact List.getElem_mem hlt
        clear hb
        go_wp2_with fail
        refine CL.out.mono ?_
        rintro e w1 ⟨he, hw⟩
        subst he
        subst hw
        go_wp2_with fail
        go_ret
        exact ⟨_, rfl, by rw [R.out]; exact decide_eq_true (by omega), rfl⟩
      | true =>
        rw [hb] at CL
        have NX : Hid (∀ j, j < i + 1 → freeB (l.getD j ByteArray.empty) = true) := fun j hj => by
          rcases Nat.lt_succ_iff_lt_or_eq.1 hj with h | h
          · exact HI.out.2 j h
          · rw [h, ← HS.out]; exact hb
        clear hb
        go_wp2_with fail
        refine CL.out.mono ?_
        rintro e w1 ⟨he, hw⟩
        subst he
        subst hw
        go_wp2_with fail
        go_roundw
        case rel => exact ⟨i + 1, by simp, by omega, ⟨trivial, NX.out⟩⟩
        case measure => simp; omega
    · have hlt' : ¬ (i : Int) < l.length := by omega
      have R : Hid (anyF l = false) := by
        unfold anyF
        rw [List.any_eq_false]
        intro s hs
        obtain ⟨j, hj, rfl⟩ := List.getElem_of_mem hs
        have := HI.out.2 j (by omega)
        rw [List.getD_eq_getElem?_getD, List.getElem?_eq_getElem hj] at this
        have this : freeB l[j] = true := this
        rw [this]; simp
      go_wp2_with fail
      go_ret
      exact ⟨_, rfl, by rw [R.out]; rfl, rfl⟩
theorem containsFunc_any (a : Option Addr) (cap : Nat) (l : List ByteArray) (w : World) (h : Strs w a l.length l) (hm : l.length ≤ 1000000) :
    Calls Tryz.prog 72 #[.slice a l.length cap, .func (.func 73) #[] #[]] w fun e w' => e = .returned (.bool (anyF l)) ∧ w' = w := by
  have I1 : Hid (Calls Tryz.prog 114 #[.slice a l.length cap, .func (.func 73) #[] #[]] w (IdxPost l w)) := indexFunc_any a cap l w h hm
  clear h
  go_enter Tryz.func72, Tryz.ntmps72
  go_wp2_with fail
  refine I1.out.mono ?_
  rintro e w1 ⟨z, he, hz, hw⟩
  subst he
  subst hw
  have HZ : Hid (decide (0 ≤ z) = anyF l) := hz
  clear hz
  go_wp2_with fail
  go_ret
  exact ⟨by rw [← HZ.out]; rfl, rfl⟩
end Go.Proofs.YtgdkomkflfodaaaGreat.Check
