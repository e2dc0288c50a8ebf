/- Vars of package expr: a contract of the call, over the turned program. -/
import Derived.Test.YtnhhajbfohjlbaaGreatDoorExVars
import Derived.Test.YtnhhajbfohjlbaaGreatDoorShelf
import Derived.Lib.OwnBridge
import Derived.Sort.OwnSorted
namespace Go.Proofs.YtnhhajbfohjlbaaGreatDoor.Expr
open Go.RowKit Go.Proofs.YtnhhajbfohjlbaaGreatDoor.Frame Go.Sort
set_option linter.unusedVariables false
set_option linter.unusedSimpArgs false

/-- the numbers of the variables, rising, each once -/
def varsS (t : Ex) : List Int := Lib.compact ((varsF t).mergeSort fun x y => decide (x ≤ y))
theorem vars_len : ∀ t, (varsF t).length ≤ sizeF t := by
  refine Ex.ind fun k n ks ih => ?_
  rw [vars_eq, size_eq, List.length_append]
  have : ∀ l : List Ex, (∀ x, x ∈ l → (varsF x).length ≤ sizeF x) → (l.map varsF).flatten.length ≤ sm (l.map sizeF) := by
    intro l
    induction l with
    | nil => intro _; simp [sm]
    | cons x l ih2 =>
      intro h
      have h1 := h x (by simp)
      have h2 := ih2 fun y hy => h y (by simp [hy])
      simp only [List.map_cons, List.flatten_cons, List.length_append, sm]
      omega
  have := this ks ih
  split
  · simp only [List.length_cons, List.length_nil]; omega
  · simp only [List.length_nil]; omega
theorem vars_in {w : World} : ∀ (t : Ex) {a : Option Addr}, X w t a → ∀ z, z ∈ varsF t → In64 z := by
  refine Ex.ind fun k n ks ih a h z hz => ?_
  rw [vars_eq, List.mem_append] at hz
  rcases hz with hz | hz
  · split at hz
    · simp at hz; subst hz; exact h.node.2
    · cases hz
  · obtain ⟨l, hl, hz⟩ := List.mem_flatten.1 hz
    obtain ⟨x, hx, rfl⟩ := List.mem_map.1 hl
    obtain ⟨i, hi, rfl⟩ := List.mem_iff_getElem.1 hx
    obtain ⟨_, _, y, ai, _, _, _, hm, he, _, _, _, hxx⟩ := h.kid hi
    rw [List.getD_eq_getElem?_getD, List.getElem?_eq_getElem hi] at he
    simp at he
    subst he
    exact ih _ hm hxx z hz
theorem below_grow {B : Nat} {a w : World} (h : Below B a w) (hB : B ≤ w.heap.size) (os : Array Obj) : Below B a (grow w os) :=
  ⟨h.os, h.tape, h.output, Nat.le_trans h.size (by simp), fun k hk => (heap_grow_old _ _ (Nat.lt_of_lt_of_le hk hB)).trans (h.block k hk)⟩
theorem mem_compact {zs : List Int} {z : Int} (h : z ∈ Lib.compact zs) : z ∈ zs := by
  unfold Lib.compact Lib.compactUpTo at h
  obtain ⟨i, hi, rfl⟩ := List.mem_map.1 h
  have := (List.mem_filter.1 hi).1
  have hlt : i < zs.length := by simpa using this
  simp [hlt]

/-- numbers of the call's own -/
def NumsPost (zs : List Int) (w : World) (e : Ending) (w' : World) : Prop := ∃ a' c', e = .returned (.slice a' zs.length c') ∧ Nm w' a' zs.length zs ∧ Below w.heap.size w w'

theorem vars_end {w w1 : World} {g cap q n : Nat} {os : Array Obj} {zs : List Int} (hbel : Below w.heap.size w w1) (hbg : w.heap.size ≤ g) (hg : g < w1.heap.size) (hH : Holds (Value.int .i64) w1 g 0 zs.toArray) (hin : ∀ z, z ∈ zs → In64 z) :
    NumsPost (Lib.compact (zs.mergeSort fun x y => decide (x ≤ y))) w (.returned (.slice (some ⟨g, 0, none⟩) (Lib.compact (zs.mergeSort fun x y => decide (x ≤ y))).length cap))
      (putRow (Value.int .i64) (Sort.ahead (grow (putRow (Value.int .i64) (Sort.ahead w1 n) g 0 (zs.mergeSort fun x y => decide (x ≤ y)).toArray) os) q) g 0 (Lib.compact (zs.mergeSort fun x y => decide (x ≤ y)) ++ List.replicate (zs.length - (Lib.compact (zs.mergeSort fun x y => decide (x ≤ y))).length) 0).toArray) := by
  have hl2 : (zs.mergeSort fun x y => decide (x ≤ y)).length = zs.length := List.length_mergeSort zs
  have hle := Lib.compact_length_le (zs.mergeSort fun x y => decide (x ≤ y))
  have hH2 : Holds (Value.int .i64) (grow (putRow (Value.int .i64) (Sort.ahead w1 n) g 0 (zs.mergeSort fun x y => decide (x ≤ y)).toArray) os) g 0 (zs.mergeSort fun x y => decide (x ≤ y)).toArray :=
    holds_grow _ _ os g 0 _ (by simpa [putRow, mapBlock, Sort.ahead] using hg) (holds_putRow _ _ g 0 _ _ (holds_ahead _ w1 n g 0 _ hH) (by simp))
  have hH3 := holds_putRow (Value.int .i64) (Sort.ahead (grow (putRow (Value.int .i64) (Sort.ahead w1 n) g 0 (zs.mergeSort fun x y => decide (x ≤ y)).toArray) os) q) g 0 _ (Lib.compact (zs.mergeSort fun x y => decide (x ≤ y)) ++ List.replicate (zs.length - (Lib.compact (zs.mergeSort fun x y => decide (x ≤ y))).length) 0).toArray (holds_ahead _ _ q g 0 _ hH2) (by simp; omega)
  refine ⟨_, _, rfl, ⟨⟨rfl, fun i hi => ?_⟩, .inr ⟨g, 0, rfl, fun i hi => ?_⟩⟩, ?_⟩
  · have hm : (Lib.compact (zs.mergeSort fun x y => decide (x ≤ y))).getD i 0 ∈ Lib.compact (zs.mergeSort fun x y => decide (x ≤ y)) := by
      rw [List.getD_eq_getElem?_getD, List.getElem?_eq_getElem hi]; exact List.getElem_mem hi
    exact hin _ ((List.mergeSort_perm zs _).mem_iff.1 (mem_compact hm))
  · have := (hH3 i (by simp; omega)).1
    rw [this]
    rw [List.getD_eq_getElem?_getD, List.getElem?_eq_getElem hi]
    have hi2 : i < (Lib.compact (zs.mergeSort fun x y => decide (x ≤ y)) ++ List.replicate (zs.length - (Lib.compact (zs.mergeSort fun x y => decide (x ≤ y))).length) (0 : Int)).length := by simp; omega
    have e : (Lib.compact (zs.mergeSort fun x y => decide (x ≤ y)) ++ List.replicate (zs.length - (Lib.compact (zs.mergeSort fun x y => decide (x ≤ y))).length) (0 : Int)).toArray[i]! = (Lib.compact (zs.mergeSort fun x y => decide (x ≤ y)))[i] := by
      rw [getElem!_pos _ i (by simpa using hi2)]
      simp only [List.getElem_toArray]
      rw [List.getElem_append_left hi]
    rw [e]; rfl
  · refine Lib.below_putRow (below_grow (Lib.below_putRow hbel hbg) (by simpa [putRow, mapBlock, Sort.ahead] using hbel.size) os) hbg

set_option maxRecDepth 100000 in
set_option maxHeartbeats 2000000 in
theorem vars_any (t : Ex) (w : World) (a : Option Addr) (c : Nat) (h : X w t a) (hs : sizeF t ≤ 1000000) :
    Calls Tryz.prog 15 #[.agg #[.int .i64 t.kind, .int .i64 t.num, .slice a t.kids.length c]] w (NumsPost (varsS t) w) := by
  have hlen : (varsF t).length ≤ 1000000 := Nat.le_trans (vars_len t) hs
  have HI : Hid (∀ z, z ∈ varsF t → In64 z) := vars_in t h
  have CV : Hid (∀ wx, Below w.heap.size w wx → Calls Tryz.prog 30 #[.slice none 0 0, .agg #[.int .i64 t.kind, .int .i64 t.num, .slice a t.kids.length c]] wx fun e w1 => ∃ v1, e = .returned v1 ∧ Hid (w1.ownsRow w.heap.size 3 1 v1 (varsF t).length ((varsF t).map (Value.int .i64))) ∧ Hid (Below w.heap.size w w1)) := fun wx hb =>
    (variables_any w.heap.size t wx a c 0 _ [] (h.lt.belowB (fun _ _ h => h) hb) (World.ownsRow_nil _ _ _ _) hb.size (by omega) hs).mono fun e w1 hv => by
      obtain ⟨v1, he, ho, hb1⟩ := hv
      rw [Nat.zero_add, List.nil_append] at ho
      exact ⟨v1, he, ho, hb.trans hb1⟩
  unfold varsS
  generalize varsF t = zs at *
  clear h hs
  go_enter Tryz.func15, Tryz.ntmps15
  go_wp2_with (go_at_call 30; refine (CV.out _ ((Below.refl _ _).alloc (Nat.le_refl _) _)).mono ?_; rintro e w1 ⟨v1, he, O1, B1⟩; subst he; refine Hid.out ?_)
  refine Lib.hid ?_
  by_cases hz : zs = []
  · subst hz
    obtain ⟨p, cap, rfl⟩ : ∃ p cap, v1 = .slice p 0 cap := by
      rcases O1.out.2 with ⟨rfl, _⟩ | ⟨g, cap, cur, rfl, _⟩
      · exact ⟨none, 0, rfl⟩
      · exact ⟨_, _, rfl⟩
    go_wp2_with (first
      | (go_at_call 31; refine (Tryz.slices_Sort_int_none _ _ _).mono ?_; rintro e w' ⟨he, hw⟩; subst he; have hw := hw.symm; subst hw)
      | (go_at_call 32; refine (Tryz.slices_Compact_int_empty _ _ _).mono ?_; rintro e w' ⟨he, hw⟩; subst he; have hw := hw.symm; subst hw))
    go_ret
    have e0 : Lib.compact (([] : List Int).mergeSort fun x y => decide (x ≤ y)) = [] := by simp [Lib.compact, Lib.compactUpTo]
    rw [e0]
    exact ⟨_, _, rfl, ⟨⟨rfl, fun i hi => by cases hi⟩, .inl rfl⟩, B1.out⟩
  · have hne : v1 ≠ .slice none 0 0 := fun e => by
      subst e
      rcases O1.out.2 with ⟨_, h0⟩ | ⟨g, cap, cur, e, _⟩
      · exact hz (List.eq_nil_of_length_eq_zero h0)
      · cases e
    obtain ⟨g, cap, rfl, hbg, hgl, hnc, hcm, hln, hH⟩ := Lib.holds_of_ownsRow O1.out hne
    have Z : Hid (w.heap.size ≤ g ∧ g < w1.heap.size ∧ Holds (Value.int .i64) w1 g 0 zs.toArray) := ⟨hbg, hgl, hH⟩
    have CS : Hid (∀ wx, wx = w1 → Calls Tryz.prog 31 #[.slice (some ⟨g, 0, none⟩) zs.length cap] wx fun e w' => e = .returned (.tuple #[]) ∧ Hid (∃ n os, w' = grow (putRow (Value.int .i64) (Sort.ahead w1 n) g 0 (zs.mergeSort fun x y => decide (x ≤ y)).toArray) os)) := fun wx hx => by
      subst hx; exact Tryz.slices_Sort_int g 0 cap zs _ hH hgl (by omega)
    have hncap : zs.length ≤ cap := hnc
    clear hbg hgl hH hne
    go_wp2_with (go_at_call 31; refine (CS.out _ rfl).mono ?_; rintro e w2 ⟨he, hw⟩; subst he; refine Hid.out ?_)
    refine Lib.hid ?_
    have CC : Hid (∀ wx, wx = w2 → Calls Tryz.prog 32 #[.slice (some ⟨g, 0, none⟩) zs.length cap] wx (NumsPost (Lib.compact (zs.mergeSort fun x y => decide (x ≤ y))) w)) := fun wx hx => by
      subst hx
      obtain ⟨n, os, rfl⟩ := hw.out
      have hl2 : (zs.mergeSort fun x y => decide (x ≤ y)).length = zs.length := List.length_mergeSort zs
      have hH2 : Holds (Value.int .i64) (grow (putRow (Value.int .i64) (Sort.ahead w1 n) g 0 (zs.mergeSort fun x y => decide (x ≤ y)).toArray) os) g 0 (zs.mergeSort fun x y => decide (x ≤ y)).toArray :=
        holds_grow _ _ os g 0 _ (by simpa [putRow, mapBlock, Sort.ahead] using Z.out.2.1) (holds_putRow _ _ g 0 _ _ (holds_ahead _ w1 n g 0 _ Z.out.2.2) (by simp))
      have hc := Tryz.slices_Compact_int g 0 cap _ _ hH2 (by omega) (by omega)
      rw [hl2] at hc
      refine hc.mono ?_
      rintro e w3 ⟨he, q, hw3⟩
      subst he hw3
      exact vars_end B1.out Z.out.1 Z.out.2.1 Z.out.2.2 HI.out
    clear CS CV
    go_wp2_with (go_at_call 32; refine (CC.out _ rfl).mono ?_; rintro e w3 ⟨a', c', he, hN, hB⟩; subst he; have HE : Hid (_ ∧ _) := ⟨hN, hB⟩; clear hN hB)
    go_ret
    exact ⟨_, _, rfl, HE.out.1, HE.out.2⟩
end Go.Proofs.YtnhhajbfohjlbaaGreatDoor.Expr
