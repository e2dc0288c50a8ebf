/- first, tells, each of package check: contracts of the calls, over the turned program. -/
import Derived.Test.YtgdkomkflfodaaaGreatChkMem
import Derived.Test.YtgdkomkflfodaaaGreatTokWord
import Derived.Deep.QuietTactic
import Derived.BigQuiet
namespace Go.Proofs.YtgdkomkflfodaaaGreat.Check
open Go.RowKit Go.Proofs.YtgdkomkflfodaaaGreat.Frame Go.Proofs.YtgdkomkflfodaaaGreat.Colour Go.Proofs.YtgdkomkflfodaaaGreat.Expr
set_option linter.unusedVariables false
set_option linter.unusedSimpArgs false

/-- a box of one cell keeps what it holds -/
theorem box_below {w W : World} {q o : Nat} {v : Value} (h : w.cell? ⟨q, o, none⟩ = some v) (hb : Below w.heap.size w W) : W.cell? ⟨q, o, none⟩ = some v :=
  (hb.cell (p := ⟨q, o, none⟩) (World.block_lt_of_cell? w _ h)).trans h
def errB (b : Bool) (er : Int) : Int := if b then er else 0

theorem tells1_any (p q K : Nat) (caps : Array Value) (er : Int) (b : Bool) (w : World) (hp : w.cell? ⟨p, 0, none⟩ = some (.func (.func K) #[] caps)) (hq : w.cell? ⟨q, 0, none⟩ = some (.int .i64 er))
    (hG : Goes K) (hA : Calls Tryz.prog K caps w fun en W' => en = .returned (.bool b) ∧ Below w.heap.size w W') :
    Calls Tryz.prog 78 #[.pointer (some ⟨p, 0, none⟩), .pointer (some ⟨q, 0, none⟩)] w fun en w' => en = .returned (.int .i64 (errB b er)) ∧ Below w.heap.size w w' := by
  have CL : Hid (Calls Tryz.prog K caps w fun en W' => en = .returned (.bool b) ∧ Below w.heap.size w W') := hA
  have HQ : Hid (w.cell? ⟨q, 0, none⟩ = some (.int .i64 er)) := hq
  unfold Goes at hG
  clear hA hq
  go_enter Tryz.func78, Tryz.ntmps78
  go_wp2_with fail
  refine CL.out.mono ?_
  rintro en w1 ⟨he, hb⟩
  subst he
  have c1 : w1.cell? ⟨q, 0, none⟩ = some (.int .i64 er) := box_below HQ.out hb
  have HB : Hid (Below w.heap.size w w1) := hb
  clear hb hp
  cases b with
  | true =>
    go_wp2
    go_ret
    exact ⟨rfl, HB.out⟩
  | false =>
    go_wp2
    go_ret
    exact ⟨rfl, HB.out⟩

def NewAsk (e : Int) (w : World) (en : Ending) (w' : World) : Prop := ∃ K caps, en = .returned (.func (.func K) #[] caps) ∧ Ask w' (.func (.func K) #[] caps) e ∧ Below w.heap.size w w'
theorem goes_tells1 : Goes 78 := fun args W => by kernel_rfl
/-- the same, where the closure serves under a condition -/
def NewIf (c : Prop) (e : Int) (w : World) (en : Ending) (w' : World) : Prop := ∃ K caps, en = .returned (.func (.func K) #[] caps) ∧ (c → Ask w' (.func (.func K) #[] caps) e) ∧ Below w.heap.size w w'
theorem tells_if (c : Prop) (er : Int) (K : FuncId) (caps : Array Value) (b : Bool) (w : World) (h : c → AskB w (.func (.func K) #[] caps) b) : Calls Tryz.prog 32 #[.int .i64 er, .func (.func K) #[] caps] w (NewIf c (errB b er) w) := by
  have HA : Hid (c → AskB w (.func (.func K) #[] caps) b) := h
  clear h
  go_enter Tryz.func32, Tryz.ntmps32
  go_wp2
  go_ret
  have hb : ∀ T : TypeId, Below w.heap.size w ((w.alloc (.cells #[.int .i64 er] 31)).alloc (.cells #[.func (.func K) #[] caps] T)) := fun T => ((Below.refl _ _).alloc (Nat.le_refl _) _).alloc (by simp) _
  refine ⟨_, _, rfl, fun hc => ⟨_, _, rfl, goes_tells1, fun W hW => ?_⟩, hb _⟩
  obtain ⟨K', caps', hv, hG, hA⟩ := HA.out hc
  injection hv with h1 _ h2
  injection h1 with h1
  subst h1 h2
  refine tells1_any _ _ K caps er b W (box_below ?_ hW) (box_below ?_ hW) hG (hA W (then_ (hb _) hW))
  · exact World.cell?_alloc_at _ _ _ _ (by simp)
  · simp
theorem tells_any (er : Int) (v : Value) (b : Bool) (w : World) (h : AskB w v b) : Calls Tryz.prog 32 #[.int .i64 er, v] w (NewAsk (errB b er) w) := by
  obtain ⟨K, caps, hv, hG, hA⟩ := h
  subst hv
  exact (tells_if True er K caps b w (fun _ => ⟨K, caps, rfl, hG, hA⟩)).mono fun e w' ⟨K1, c1, he, hu, hb⟩ => ⟨K1, c1, he, hu trivial, hb⟩

/-- a row of function values in memory -/
def Fns (w : World) (a : Option Addr) (vs : List Value) : Prop := vs.length = 0 ∨ ∃ b off, a = some ⟨b, off, none⟩ ∧ ∀ i, i < vs.length → w.cell? ⟨b, off + i, none⟩ = some (vs.getD i .nilFunc)
theorem Fns.below {w w' : World} {a : Option Addr} {vs : List Value} (h : Fns w a vs) (hb : Below w.heap.size w w') : Fns w' a vs := by
  rcases h with h | ⟨b, off, ha, h⟩
  · exact .inl h
  · exact .inr ⟨b, off, ha, fun i hi => box_below (h i hi) hb⟩

set_option maxHeartbeats 1000000 in
theorem first_any (a : Option Addr) (cap : Nat) (vs : List Value) (es : List Int) (w : World) (hl : es.length = vs.length) (hlen : vs.length ≤ 100) (hF : Fns w a vs)
    (hA : ∀ i, i < vs.length → (∀ j, j < i → es.getD j 0 = 0) → Ask w (vs.getD i .nilFunc) (es.getD i 0)) :
    Calls Tryz.prog 31 #[.slice a vs.length cap] w fun en w' => en = .returned (.int .i64 (firstNZ es)) ∧ Below w.heap.size w w' := by
  have H0 : Hid (Fns w a vs ∧ ∀ i, i < vs.length → (∀ j, j < i → es.getD j 0 = 0) → Ask w (vs.getD i .nilFunc) (es.getD i 0)) := ⟨hF, hA⟩
  have HL : Hid (es.length = vs.length) := hl
  clear hF hA hl
  go_enter Tryz.func31, Tryz.ntmps31
  go_wp2_with fail
  go_loopw [8] (fun v wr => ∃ i : Nat, v = .int .i64 (i : Int) ∧ i ≤ vs.length ∧ Hid (Below w.heap.size w wr ∧ ∀ j, j < i → es.getD j 0 = 0)) (fun v _ => match v with | .int _ z => vs.length - z.toNat | _ => 0)
  case atStart => exact ⟨0, rfl, by omega, ⟨Below.refl _ _, fun j hj => absurd hj (Nat.not_lt_zero _)⟩⟩
  case round =>
    obtain ⟨i, rfl, hi, HI⟩ := hrel
    by_cases hlt : i < vs.length
    · have hlt' : (i : Int) < vs.length := by omega
      obtain ⟨b, off, ha, hc⟩ : ∃ b off, a = some ⟨b, off, none⟩ ∧ wr.cell? ⟨b, off + i, none⟩ = some (vs.getD i .nilFunc) := by
        rcases H0.out.1.below HI.out.1 with h | ⟨b, off, ha, h⟩
        · omega
        · exact ⟨b, off, ha, h i hlt⟩
      subst ha
      obtain ⟨K, caps, hv, hG, hA⟩ := (H0.out.2 i hlt HI.out.2).below HI.out.1
      rw [hv] at hc
      have CL : Hid (Calls Tryz.prog K caps wr fun en W' => en = .returned (.int .i64 (es.getD i 0)) ∧ Below wr.heap.size wr W') := hA wr (Below.refl _ _)
      unfold Goes at hG
      clear hA hv
      obtain ⟨ei, hei⟩ : ∃ ei, ei = es.getD i 0 := ⟨_, rfl⟩
      rw [← hei] at CL
      have HE : Hid (ei = es.getD i 0) := hei
      clear hei
      go_wp2_with fail
      refine CL.out.mono ?_
      rintro en w1 ⟨he, hb⟩
      subst he
      have K1 : Hid (Below w.heap.size w w1) := then_ HI.out.1 hb
      clear hb hc
      by_cases h0 : ei = 0
      · subst h0
        have NX : Hid (Below w.heap.size w w1 ∧ ∀ j, j < i + 1 → es.getD j 0 = 0) := ⟨K1.out, fun j hj => by
          rcases Nat.lt_succ_iff_lt_or_eq.1 hj with h | h
          · exact HI.out.2 j h
          · rw [h]; exact HE.out.symm⟩
        go_wp2_with fail
        go_roundw
        case rel => exact ⟨i + 1, by simp, by omega, NX⟩
        case measure => simp; omega
      · have h0' : (ei == 0) = false := beq_eq_false_iff_ne.2 h0
        have R : Hid (firstNZ es = ei) := by
          have := firstNZ_at (es := es) (k := i) (by have := HL.out; omega) HI.out.2 (by rw [← HE.out]; exact h0)
          rw [HE.out]; exact this
        go_wp2_with fail
        go_ret
        exact ⟨by rw [R.out]; rfl, K1.out⟩
    · have hlt' : ¬ (i : Int) < vs.length := by omega
      have R : Hid (firstNZ es = 0) := firstNZ_none fun j hj => HI.out.2 j (by have := HL.out; omega)
      go_wp2_with fail
      go_ret
      exact ⟨by rw [R.out]; rfl, HI.out.1⟩

/-- first, of a row that was just made -/
theorem first_new (vs : Array Value) (T : TypeId) (n : Nat) (es : List Int) (w : World) (hn : vs.size = n) (hl : es.length = n) (hlen : n ≤ 100)
    (hA : ∀ i, i < n → (∀ j, j < i → es.getD j 0 = 0) → Ask w (vs.toList.getD i .nilFunc) (es.getD i 0)) :
    Calls Tryz.prog 31 #[.slice (some ⟨w.heap.size, 0, none⟩) n n] (w.alloc (.cells vs T)) fun en w' => en = .returned (.int .i64 (firstNZ es)) ∧ Below w.heap.size w w' := by
  have hb : Below w.heap.size w (w.alloc (.cells vs T)) := (Below.refl _ _).alloc (Nat.le_refl _) _
  have hn' : vs.toList.length = n := by simpa using hn
  have := first_any (some ⟨w.heap.size, 0, none⟩) n vs.toList es (w.alloc (.cells vs T)) (by omega) (by omega) (.inr ⟨_, _, rfl, fun i hi => by
    have h2 : i < vs.size := by simpa using hi
    rw [List.getD_eq_getElem?_getD, List.getElem?_eq_getElem hi, World.cell?_alloc_at _ _ _ _ rfl, Nat.zero_add, Array.getElem?_eq_getElem h2, Array.getElem_toList]
    rfl⟩) (fun i hi h => (hA i (by omega) h).below hb)
  rw [hn'] at this
  exact this.mono fun e w' h => ⟨h.1, then_ hb h.2⟩
end Go.Proofs.YtgdkomkflfodaaaGreat.Check
