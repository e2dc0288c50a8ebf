/- Few of the laws of layer 4: a contract of the call, over the turned program. -/
import Derived.Test.YtgdkomkflfodaaaGreatMaI
namespace Go.Proofs.YtgdkomkflfodaaaGreat.Expr
open Go.RowKit Go.Proofs.YtgdkomkflfodaaaGreat.Frame
set_option linter.unusedVariables false
set_option linter.unusedSimpArgs false

/-- what is left of n behind some kids -/
def fewL : Int → List Int → Int
  | n, [] => n - 1
  | n, k :: l => if k = 0 then 0 else if n - 500 + k ≤ 1 then 0 else fewL (n - 500 + k) l
def fewF : Ex → Int → Int := fold fun _ _ ks l deep => if deep ≤ 0 ∨ 9 < ks.length then 0 else fewL 500 (l.map fun f => f (deep - 1))
theorem few_eq (k n : Int) (ks : List Ex) (deep : Int) : fewF ⟨k, n, ks⟩ deep = if deep ≤ 0 ∨ 9 < ks.length then 0 else fewL 500 (ks.map fun x => fewF x (deep - 1)) := by
  unfold fewF
  rw [fold_eq, List.map_map]; rfl
theorem fewL_range : ∀ (l : List Int) (n : Int), 2 ≤ n → n ≤ 500 → (∀ k, k ∈ l → 0 ≤ k ∧ k ≤ 499) → 0 ≤ fewL n l ∧ fewL n l ≤ 499 := by
  intro l
  induction l with
  | nil => intro n h1 h2 _; simp only [fewL]; omega
  | cons k l ih =>
    intro n h1 h2 h
    have hk := h k (by simp)
    simp only [fewL]
    split
    · omega
    split
    · omega
    · exact ih _ (by omega) (by omega) fun x hx => h x (by simp [hx])
theorem few_range : ∀ (t : Ex) (deep : Int), 0 ≤ fewF t deep ∧ fewF t deep ≤ 499 := by
  refine Ex.ind fun k n ks ih deep => ?_
  rw [few_eq]
  split
  · omega
  · refine fewL_range _ _ (by omega) (by omega) fun x hx => ?_
    obtain ⟨y, hy, rfl⟩ := List.mem_map.1 hx
    exact ih y hy _
theorem fewL_size : ∀ (ks : List Ex) (deep n : Int), (∀ x, x ∈ ks → 0 < fewF x deep → (sizeF x : Int) ≤ 500 - fewF x deep) → 0 < fewL n (ks.map fun x => fewF x deep) → (sm (ks.map sizeF) : Int) + fewL n (ks.map fun x => fewF x deep) ≤ n - 1 := by
  intro ks
  induction ks with
  | nil => intro deep n _ h; simp [fewL, sm]
  | cons x l ih =>
    intro deep n hx h
    simp only [List.map_cons, fewL] at h ⊢
    split at h
    · omega
    split at h
    · omega
    rename_i h1 h2
    rw [if_neg h1, if_neg h2]
    have := ih deep _ (fun y hy => hx y (by simp [hy])) h
    have h3 := hx x (by simp) (by have := few_range x deep; omega)
    simp only [sm]
    omega
theorem few_size : ∀ (t : Ex) (deep : Int), 0 < fewF t deep → (sizeF t : Int) ≤ 500 - fewF t deep := by
  refine Ex.ind fun k n ks ih deep h => ?_
  rw [few_eq] at h ⊢
  split at h
  · omega
  rename_i h1
  rw [if_neg h1]
  have := fewL_size ks (deep - 1) 500 (fun x hx => ih x hx _) h
  rw [size_eq]
  omega

theorem few_drop {l : List Int} {j : Nat} {m : Int} (h : j < l.length) : fewL m (l.drop j) = if l.getD j 0 = 0 then 0 else if m - 500 + l.getD j 0 ≤ 1 then 0 else fewL (m - 500 + l.getD j 0) (l.drop (j + 1)) := by
  rw [List.drop_eq_getElem_cons h, List.getD_eq_getElem?_getD, List.getElem?_eq_getElem h]; rfl
theorem getD_few {ks : List Ex} {deep : Int} {j : Nat} (h : j < ks.length) : (ks.map fun x => fewF x deep).getD j 0 = fewF (ks.getD j nilEx) deep := by
  rw [List.getD_eq_getElem?_getD, List.getElem?_map, List.getD_eq_getElem?_getD, List.getElem?_eq_getElem h]; rfl
theorem fstep {w wr w1 : World} (h : Below w.heap.size w wr) (hb : Below wr.heap.size wr w1) : Below w.heap.size w w1 := h.trans (hb.mono h.size)

set_option maxHeartbeats 1000000 in
theorem few_any : ∀ (t : Ex) (w : World) (a : Option Addr) (c : Nat) (deep : Int), X w t a → 0 ≤ deep → deep ≤ 60 →
    Calls Tryz.prog 67 #[.agg #[.int .i64 t.kind, .int .i64 t.num, .slice a t.kids.length c], .int .i64 deep] w fun e w' => e = .returned (.int .i64 (fewF t deep)) ∧ Below w.heap.size w w' := by
  refine Ex.ind fun k n ks ih w a c deep h d0 d1 => ?_
  show Calls Tryz.prog 67 #[.agg #[.int .i64 k, .int .i64 n, .slice a ks.length c], .int .i64 deep] w _
  have HX : Hid (X w ⟨k, n, ks⟩ a) := h
  have HI : Hid (∀ (x : Ex), x ∈ ks → ∀ (w : World) (a : Option Addr) (c : Nat) (deep : Int), X w x a → 0 ≤ deep → deep ≤ 60 → Calls Tryz.prog 67 #[.agg #[.int .i64 x.kind, .int .i64 x.num, .slice a x.kids.length c], .int .i64 deep] w fun e w' => e = .returned (.int .i64 (fewF x deep)) ∧ Below w.heap.size w w') := ih
  have HF : Hid (fewF ⟨k, n, ks⟩ deep = if deep ≤ 0 ∨ 9 < ks.length then 0 else fewL 500 (ks.map fun x => fewF x (deep - 1))) := few_eq k n ks deep
  clear ih h
  obtain ⟨len, hl⟩ : ∃ len, len = ks.length := ⟨_, rfl⟩
  rw [← hl]
  have HL : Hid (len = ks.length) := hl
  clear hl
  by_cases hd : deep = 0
  · subst hd
    have E : Hid (fewF ⟨k, n, ks⟩ 0 = 0) := by rw [Hid, HF.out, if_pos (by omega)]
    go_enter Tryz.func67, Tryz.ntmps67
    go_wp2_with fail
    go_ret
    exact ⟨reti E.out.symm, (Below.refl _ _).alloc (Nat.le_refl _) _⟩
  have hd' : ¬ deep ≤ 0 := by omega
  by_cases hb9 : 9 < len
  · have E : Hid (fewF ⟨k, n, ks⟩ deep = 0) := by rw [Hid, HF.out, if_pos (by rw [← HL.out]; omega)]
    have hb' : (9 : Int) < len := by omega
    go_enter Tryz.func67, Tryz.ntmps67
    go_wp2_with fail
    go_ret
    exact ⟨reti E.out.symm, (Below.refl _ _).alloc (Nat.le_refl _) _⟩
  have hb' : ¬ (9 : Int) < len := by omega
  have E : Hid (fewF ⟨k, n, ks⟩ deep = fewL 500 (ks.map fun x => fewF x (deep - 1))) := by rw [Hid, HF.out, if_neg (by rw [← HL.out]; omega)]
  go_enter Tryz.func67, Tryz.ntmps67
  go_wp2_with fail
  go_loopw [5, 6] (fun q i wr => ∃ (j : Nat) (m : Int), j ≤ len ∧ i = .int .i64 j ∧ q = .int .i64 m ∧ 2 ≤ m ∧ m ≤ 500 ∧ Hid (fewF ⟨k, n, ks⟩ deep = fewL m ((ks.map fun x => fewF x (deep - 1)).drop j)) ∧ wr.cell? ⟨w.heap.size, 2, none⟩ = some (.slice a len c) ∧ Below w.heap.size w wr) (fun _ i _ => len - (intOf i).toNat)
  case atStart => exact ⟨0, 500, by omega, rfl, rfl, by omega, by omega, E, by simp, (Below.refl _ _).alloc (Nat.le_refl _) _⟩
  case round =>
    obtain ⟨j, m, hj, rfl, rfl, m2, m5, hmm, hc, hnx⟩ := hrel
    by_cases hlt : j < len
    · have hlt' : (j : Int) < len := by omega
      obtain ⟨b, off, x, ai, ci, ha, hbl, hxm, hxe, c0, c1, c2, hxx⟩ := (HX.out.below hnx).kid (i := j) (by rw [← HL.out]; exact hlt)
      subst ha
      have hws : w.heap.size < wr.heap.size := World.block_lt_of_cell? wr _ hc
      have CL : Hid (Calls Tryz.prog 67 #[.agg #[.int .i64 x.kind, .int .i64 x.num, .slice ai x.kids.length ci], .int .i64 (deep - 1)] wr fun e w' => e = .returned (.int .i64 (fewF x (deep - 1))) ∧ w'.cell? ⟨w.heap.size, 2, none⟩ = some (.slice (some ⟨b, off, none⟩) len c) ∧ Hid (Below w.heap.size w w')) :=
        (HI.out x hxm wr ai ci (deep - 1) hxx (by omega) (by omega)).mono fun e w' h => ⟨h.1, (h.2.cell (p := ⟨w.heap.size, 2, none⟩) hws).trans hc, fstep hnx h.2⟩
      have hjk : j < ks.length := by rw [← HL.out]; exact hlt
      have E1 : Hid (fewF ⟨k, n, ks⟩ deep = if fewF x (deep - 1) = 0 then 0 else if m - 500 + fewF x (deep - 1) ≤ 1 then 0 else fewL (m - 500 + fewF x (deep - 1)) ((ks.map fun x => fewF x (deep - 1)).drop (j + 1))) := by
        rw [Hid, hmm.out, few_drop (by simpa using hjk), getD_few hjk, hxe]
      have hr := few_range x (deep - 1)
      generalize fewF x (deep - 1) = r at *
      clear hxx hxm hxe hmm hjk
      by_cases hr0 : r = 0
      · subst hr0
        have E2 : Hid (fewF ⟨k, n, ks⟩ deep = 0) := by rw [Hid, E1.out, if_pos rfl]
        go_wp2_with (go_at_call 67; refine CL.out.mono ?_; rintro e w1 ⟨he, hc1, hb1⟩; subst he)
        go_ret
        exact ⟨reti E2.out.symm, hb1.out⟩
      by_cases hr1 : m - 500 + r ≤ 1
      · have E2 : Hid (fewF ⟨k, n, ks⟩ deep = 0) := by rw [Hid, E1.out, if_neg hr0, if_pos hr1]
        go_wp2_with (go_at_call 67; refine CL.out.mono ?_; rintro e w1 ⟨he, hc1, hb1⟩; subst he)
        go_ret
        exact ⟨reti E2.out.symm, hb1.out⟩
      · have E2 : Hid (fewF ⟨k, n, ks⟩ deep = fewL (m - 500 + r) ((ks.map fun x => fewF x (deep - 1)).drop (j + 1))) := by rw [Hid, E1.out, if_neg hr0, if_neg hr1]
        go_wp2_with (go_at_call 67; refine CL.out.mono ?_; rintro e w1 ⟨he, hc1, hb1⟩; subst he)
        go_roundw
        case rel => exact ⟨j + 1, m - 500 + r, by omega, by go_num, by go_num, by omega, by omega, E2, hc1, hb1.out⟩
        case measure => simp [intOf]; omega
    · have E2 : Hid (fewF ⟨k, n, ks⟩ deep = m - 1) := by
        rw [Hid, hmm.out, List.drop_eq_nil_of_le (by simp; rw [← HL.out]; omega)]; rfl
      clear hmm
      go_wp2_with fail
      go_ret
      exact ⟨reti (by rw [E2.out]), hnx⟩

def fewB (t : Ex) : Bool := decide (0 < fewF t 60)
theorem fewB_size {t : Ex} (h : fewB t = true) : sizeF t ≤ 499 := by
  have h1 : 0 < fewF t 60 := of_decide_eq_true h
  have := few_size t 60 h1
  omega
set_option maxHeartbeats 1000000 in
theorem Few_any (t : Ex) (w : World) (a : Option Addr) (c : Nat) (h : X w t a) :
    Calls Tryz.prog 25 #[.agg #[.int .i64 t.kind, .int .i64 t.num, .slice a t.kids.length c]] w fun e w' => e = .returned (.bool (fewB t)) ∧ Below w.heap.size w w' := by
  have CL : Hid (∀ wx, Below w.heap.size w wx → Calls Tryz.prog 67 #[.agg #[.int .i64 t.kind, .int .i64 t.num, .slice a t.kids.length c], .int .i64 60] wx fun e w' => e = .returned (.int .i64 (fewF t 60)) ∧ Hid (Below w.heap.size w w')) := fun wx hb =>
    (few_any t wx a c 60 (h.below hb) (by omega) (by omega)).mono fun e w' h => ⟨h.1, fstep hb h.2⟩
  unfold fewB
  generalize fewF t 60 = r at *
  clear h
  go_enter Tryz.func25, Tryz.ntmps25
  go_wp2_with (go_at_call 67; refine (CL.out _ ((Below.refl _ _).alloc (Nat.le_refl _) _)).mono ?_; rintro e w1 ⟨he, hb1⟩; subst he)
  go_ret
  exact ⟨rfl, hb1.out⟩
end Go.Proofs.YtgdkomkflfodaaaGreat.Expr
