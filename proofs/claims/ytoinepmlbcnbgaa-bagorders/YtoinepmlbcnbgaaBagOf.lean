/- Of of package bag, and its answers of bags that are not right: contracts of the calls, over the turned program. -/
import Derived.Test.YtoinepmlbcnbgaaBagLess
namespace Go.Proofs.Ytoinepmlbcnbgaa.Bag
open Go.RowKit Go.Maps Go.Proofs.Ytoinepmlbcnbgaa.Frame
set_option linter.unusedVariables false

/-- numbers in memory -/
def Nums (w : World) (a : Option Addr) (len : Nat) (zs : List Int) : Prop :=
  (zs.length = len ∧ ∀ i, i < zs.length → In64 (zs.getD i 0)) ∧ (len = 0 ∨ ∃ b off, a = some ⟨b, off, none⟩ ∧ ∀ i, i < len → w.cell? ⟨b, off + i, none⟩ = some (.int .i64 (zs.getD i 0)))
theorem Nums.below {w w' : World} {a : Option Addr} {len : Nat} {zs : List Int} (h : Nums w a len zs) (hb : Below w.heap.size w w') : Nums w' a len zs := by
  refine ⟨h.1, ?_⟩
  rcases h.2 with h0 | ⟨b, off, ha, hc⟩
  · exact .inl h0
  · exact .inr ⟨b, off, ha, fun i hi => (hb.cell (p := ⟨b, off + i, none⟩) (World.block_lt_of_cell? w _ (hc i hi))).trans (hc i hi)⟩
theorem Nums.at {w : World} {a : Option Addr} {len : Nat} {zs : List Int} (h : Nums w a len zs) {k : Nat} (hk : k < len) : ∃ b off, a = some ⟨b, off, none⟩ ∧ b < w.heap.size ∧ w.cell? ⟨b, off + k, none⟩ = some (.int .i64 (zs.getD k 0)) := by
  rcases h.2 with h0 | ⟨b, off, ha, hc⟩
  · omega
  · exact ⟨b, off, ha, World.block_lt_of_cell? w _ (hc k hk), hc k hk⟩
theorem Mp.look_run {w : World} {B n : Nat} {h : Int → Bool} {c : Int → Int} (k : Mp w B n h c) {y : Int} (hy : In64 y) : (Instr.lookup 44 (.map (some B)) (.int .i64 y) false).run Try.prog w = .ok (.int .i64 (c y)) w := by
  obtain ⟨⟨D, hD, r⟩, r2⟩ := k
  obtain ⟨z, hz, hat, _⟩ := hD.lookup_int law Try.underlying44 Try.underlying3 (zeroI _) (key_of hy)
  have := (r y hy).2
  rw [hat] at this
  simp only [DataW.lit.injEq, Lit.int.injEq, true_and] at this
  rw [← this]
  exact hz

theorem take_snoc_z {zs : List Int} {k : Nat} (h : k < zs.length) : zs.take (k + 1) = zs.take k ++ [zs.getD k 0] := by
  rw [List.take_succ_eq_append_getElem h, getD_get 0 h]

set_option maxHeartbeats 2000000 in
theorem of_any (a : Option Addr) (len cap : Nat) (zs : List Int) (w : World) (h : Nums w a len zs) (hl : len ≤ 100000) :
    Calls Try.prog 17 #[.slice a len cap] w fun e w' => (∃ a len' cap, e = .returned (.slice a len' cap) ∧ Answer w w' len (ofC zs) a len' cap) ∧ Below w.heap.size w w' := by
  have HC : Hid (Nums w a len zs) := h
  have HL : Hid (zs.length = len) := h.1.1
  clear h
  have hmm := @run_makeMap Try.prog
  go_enter Try.func17, Try.ntmps17
  go_wp2
  go_loopw [9] (fun i wr => ∃ k : Nat, k ≤ len ∧ i = .int .i64 k ∧ Hid (Cnts wr w.heap.size k (ofC (zs.take k))) ∧ Below w.heap.size w wr) (fun i _ => len - (intOf i).toNat)
  case atStart => exact ⟨0, by omega, rfl, (Cnts.congr (Cnts.made w) (fun m => by rw [List.take_zero, ofC_nil]) : Cnts _ _ _ _), (Below.refl _ _).alloc (Nat.le_refl _) _⟩
  case round =>
    obtain ⟨k, hk, rfl, hM, hnx⟩ := hrel
    clear hmm
    by_cases hlt : k < len
    · have hlt' : (k : Int) < len := by omega
      obtain ⟨b, off, ha, hbl, c0⟩ := (HC.out.below hnx).at (k := k) hlt
      subst ha
      have hkl : k < zs.length := by rw [HL.out]; exact hlt
      have hI := HC.out.1.2 k hkl
      have hT : ∀ x, ofC (zs.take (k + 1)) x = _ := fun x => by rw [take_snoc_z hkl, ofC_snoc]
      obtain ⟨m, hm⟩ : ∃ m, m = zs.getD k 0 := ⟨_, rfl⟩
      rw [← hm] at hI c0
      simp only [← hm] at hT
      have T : Hid (∀ x, ofC (zs.take (k + 1)) x = _) := hT
      have I : Hid (In64 m) := hI
      have RG : Hid (_ ∧ _ ∧ _) := ofC_range (zs.take k) m
      clear hT hI hm hkl
      have hws := hnx.size
      have hBl := hM.out.lt
      by_cases h0 : m < 0
      · have N1 : Hid (Cnts wr w.heap.size (k + 1) (ofC (zs.take (k + 1)))) := (Cnts.congr (Mp.mono hM.out (Nat.le_succ k)) (fun x => by rw [T.out x, if_neg (by omega)]) : Cnts _ _ _ _)
        clear T
        go_wp2
        go_roundw
        case rel => exact ⟨k + 1, by omega, by go_num, N1, hnx⟩
        case measure => simp [intOf]; omega
      have h0' : (0 : Int) ≤ m := by omega
      have lk := hM.out.look_run I.out
      obtain ⟨v, hv⟩ : ∃ v, v = ofC (zs.take k) m := ⟨_, rfl⟩
      rw [← hv] at lk
      have hvr : 0 ≤ v ∧ v ≤ 1048576 := by rw [hv]; exact ⟨RG.out.2.2, RG.out.2.1⟩
      have EV : Hid (v = ofC (zs.take k) m) := hv
      clear hv
      by_cases h1 : v < 1048576
      · have I2 : Hid (In64 (v + 1)) := (show In64 (v + 1) by unfold In64; omega)
        have NZ : Hid (v + 1 ≠ 0) := (show v + 1 ≠ 0 by omega)
        have ST : Hid (∀ x, setC (ofC (zs.take k)) m (v + 1) x = ofC (zs.take (k + 1)) x) := fun x => by
          rw [T.out x, ← EV.out]
          unfold setC
          by_cases hx : x = m
          · rw [if_pos hx, if_pos ⟨hx, h0', h1⟩]
          · rw [if_neg hx, if_neg (fun h => hx h.1)]
        clear T
        go_wp2_with (first
          | (at_mapUpdate; refine wp_put _ rfl _ _ _ rfl w.heap.size k _ _ rfl hM.out (by omega) m (v + 1) rfl I.out rfl I2.out ?_; intro w1 h1 hg1)
          | go_in)
        have N1 : Cnts w1 w.heap.size (k + 1) (ofC (zs.take (k + 1))) := Cnts.put (w := wr) h1 NZ.out ST.out
        have N2 : Below w.heap.size w w1 := hnx.grown hg1 hws (fun i hi => by cases hi; exact Nat.le_refl _)
        go_roundw
        case rel => exact ⟨k + 1, by omega, by go_num, N1, N2⟩
        case measure => simp [intOf]; omega
      · have N1 : Hid (Cnts wr w.heap.size (k + 1) (ofC (zs.take (k + 1)))) := (Cnts.congr (Mp.mono hM.out (Nat.le_succ k)) (fun x => by rw [T.out x, ← EV.out, if_neg (by omega)]) : Cnts _ _ _ _)
        clear T
        go_wp2
        go_roundw
        case rel => exact ⟨k + 1, by omega, by go_num, N1, hnx⟩
        case measure => simp [intOf]; omega
    · obtain rfl : k = len := by omega
      have E : Hid (zs.take k = zs) := List.take_of_length_le (by rw [HL.out]; omega)
      have M2 : Hid (Cnts wr w.heap.size k (ofC zs)) := (show Cnts wr w.heap.size k (ofC zs) by have := hM.out; rw [E.out] at this; exact this)
      clear hM
      go_wp2_with (go_at_call 36; refine (bag_any w.heap.size k (ofC zs) wr M2.out (by omega) (fun m hm => ⟨((ofC_range zs m).1 hm).1, ((ofC_range zs m).1 hm).2, (ofC_range zs m).2.1⟩)).mono ?_; rintro e w5 ⟨ra, rl, rc, rs, he, h1, h2, hb5⟩; subst he)
      go_ret
      exact ⟨⟨ra, rl, rc, rfl, rs, h1, h2.mono hnx.size⟩, then_ hnx hb5⟩

set_option maxHeartbeats 1000000 in
theorem sum_wrong (a b : Option Addr) (la ca lb cb : Nat) (xs ys : List Row) (w : World) (ha : Bags w a la xs) (hb : Bags w b lb ys) (hla : la ≤ 100000) (hlb : lb ≤ 100000) (hr : (rightB xs && rightB ys) = false) :
    Calls Try.prog 22 #[.slice a la ca, .slice b lb cb] w fun e w' => e = .returned (.tuple #[.slice none 0 0, .int .i64 1]) ∧ Below w.heap.size w w' := by
  have HA : Hid (Bags w a la xs) := ha
  have HB : Hid (Bags w b lb ys) := hb
  have R : Hid ((rightB xs && rightB ys) = false) := hr
  clear ha hb hr
  go_enter Try.func22, Try.ntmps22
  go_wp2_with (go_at_call 38; refine (both_any _ _ _ _ _ _ xs ys _ HA.out HB.out (by omega) (by omega)).mono ?_; rintro e w1 ⟨he, hb1⟩; subst he; rw [R.out])
  go_ret2
  exact ⟨rfl, hb1⟩
set_option maxHeartbeats 1000000 in
theorem less_wrong (a b : Option Addr) (la ca lb cb : Nat) (xs ys : List Row) (w : World) (ha : Bags w a la xs) (hb : Bags w b lb ys) (hla : la ≤ 100000) (hlb : lb ≤ 100000) (hr : (rightB xs && rightB ys) = false) :
    Calls Try.prog 24 #[.slice a la ca, .slice b lb cb] w fun e w' => e = .returned (.tuple #[.slice none 0 0, .int .i64 1]) ∧ Below w.heap.size w w' := by
  have HA : Hid (Bags w a la xs) := ha
  have HB : Hid (Bags w b lb ys) := hb
  have R : Hid ((rightB xs && rightB ys) = false) := hr
  clear ha hb hr
  go_enter Try.func24, Try.ntmps24
  go_wp2_with (go_at_call 38; refine (both_any _ _ _ _ _ _ xs ys _ HA.out HB.out (by omega) (by omega)).mono ?_; rintro e w1 ⟨he, hb1⟩; subst he; rw [R.out])
  go_ret2
  exact ⟨rfl, hb1⟩
set_option maxHeartbeats 1000000 in
theorem most_wrong (a b : Option Addr) (la ca lb cb : Nat) (xs ys : List Row) (w : World) (ha : Bags w a la xs) (hb : Bags w b lb ys) (hla : la ≤ 100000) (hlb : lb ≤ 100000) (hr : (rightB xs && rightB ys) = false) :
    Calls Try.prog 26 #[.slice a la ca, .slice b lb cb] w fun e w' => e = .returned (.slice none 0 0) ∧ Below w.heap.size w w' := by
  have HA : Hid (Bags w a la xs) := ha
  have HB : Hid (Bags w b lb ys) := hb
  have R : Hid ((rightB xs && rightB ys) = false) := hr
  clear ha hb hr
  go_enter Try.func26, Try.ntmps26
  go_wp2_with (go_at_call 38; refine (both_any _ _ _ _ _ _ xs ys _ HA.out HB.out (by omega) (by omega)).mono ?_; rintro e w1 ⟨he, hb1⟩; subst he; rw [R.out])
  go_ret
  exact ⟨rfl, hb1⟩
end Go.Proofs.Ytoinepmlbcnbgaa.Bag
