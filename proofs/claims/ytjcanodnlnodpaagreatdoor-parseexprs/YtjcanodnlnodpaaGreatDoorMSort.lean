/- slices.SortFunc at rows of a member and a count, by member: a contract of the call, over the turned program. -/
import Derived.Test.YtjcanodnlnodpaaGreatDoorMNK
import Derived.Test.YtjcanodnlnodpaaGreatDoorSortf
namespace Go.Proofs.YtjcanodnlnodpaaGreatDoor.Parse
open Go.RowKit Go.Maps Go.Proofs.YtjcanodnlnodpaaGreatDoor.Frame Go.Proofs.YtjcanodnlnodpaaGreatDoor.Token Go.Proofs.YtjcanodnlnodpaaGreatDoor.Expr Go.Proofs.YtjcanodnlnodpaaGreatDoor.Calc Go.Sort Go.Shelf Go.Lib
set_option linter.unusedVariables false
set_option linter.unusedSimpArgs false

def encR (x : Int × Int) : List Value := [.int .i64 x.1, .int .i64 x.2]
def cfR (x y : Int × Int) : Int := Lib.compareInt x.1 y.1
theorem ltR (x y : Int × Int) : ltOf cfR x y = decide (x.1 < y.1) := by
  unfold ltOf cfR Lib.compareInt
  by_cases h1 : x.1 < y.1
  · simp [h1]
  · by_cases h2 : y.1 < x.1 <;> simp [h1, h2]
theorem swoR : SWO (ltOf cfR) where
  irrefl x := by rw [ltR]; simp
  trans x y z h1 h2 := by rw [ltR] at *; simp at *; omega
  ntrans x y z h1 h2 := by rw [ltR] at *; simp at *; omega

set_option maxHeartbeats 1000000 in
theorem less_any (x y : Int × Int) (W : World) : Calls Tryz.prog 234 #[.agg #[.int .i64 x.1, .int .i64 x.2], .agg #[.int .i64 y.1, .int .i64 y.2]] W fun e w' => e = .returned (.int .i64 (cfR x y)) ∧ ∃ q os', w' = grow (W.drewN q) os' := by
  have hcon := fun W' => AnyG.cmp_Compare_int Tryz.cmpF x.1 y.1 W'
  change ∀ W', Calls Tryz.prog 235 _ _ _ at hcon
  unfold cfR
  generalize Lib.compareInt x.1 y.1 = r at hcon ⊢
  go_enter Tryz.func234, Tryz.ntmps234
  go_wp2_with (go_at_call 235; refine (hcon _).mono ?_; rintro e w' ⟨rfl, rfl⟩)
  go_ret
  exact ⟨rfl, 0, _, by rw [alloc_eq_grow, alloc_eq_grow, grow_grow]; rfl⟩
theorem aggR (w : World) : (isAgg 71).run Tryz.prog w = .ok true w := by kernel_rfl
theorem sizeR (w : World) : (Go.sizeOf 71).run Tryz.prog w = .ok 2 w := by kernel_rfl
theorem prs_at (l : List Row) : ∀ (i : Nat), i < l.length → (prs l)[i * 2]? = some (.int .i64 (l.getD i (0, 0)).1) ∧ (prs l)[i * 2 + 1]? = some (.int .i64 (l.getD i (0, 0)).2) := by
  induction l with
  | nil => intro i h; cases h
  | cons x l ih =>
    intro i h
    have e : prs (x :: l) = .int .i64 x.1 :: .int .i64 x.2 :: prs l := rfl
    rw [e]
    cases i with
    | zero => exact ⟨rfl, rfl⟩
    | succ i =>
      have := ih i (by simpa using h)
      rw [show (i + 1) * 2 = i * 2 + 1 + 1 by omega]
      exact this
theorem prs_len (l : List Row) : (prs l).length = l.length * 2 := by
  induction l with
  | nil => rfl
  | cons x l ih => show (Value.int .i64 x.1 :: .int .i64 x.2 :: prs l).length = _; simp only [List.length_cons, ih]; omega
theorem prs_snoc (l : List Row) (x : Row) : prs (l ++ [x]) = prs l ++ [.int .i64 x.1, .int .i64 x.2] := by unfold prs; simp
/-- cells that lie so are these rows -/
theorem cs_prs {w : World} {g off : Nat} {l : List Row} (h : ∀ i, i < l.length → w.cell? ⟨g, off + i * 2, none⟩ = some (.int .i64 (l.getD i (0, 0)).1) ∧ w.cell? ⟨g, off + i * 2 + 1, none⟩ = some (.int .i64 (l.getD i (0, 0)).2)) : Cs w (some ⟨g, off, none⟩) (prs l) := by
  refine .inr ⟨g, off, rfl, fun j v hj => ?_⟩
  have hl := (List.getElem?_eq_some_iff.1 hj).1
  rw [prs_len] at hl
  obtain ⟨i, hi⟩ : ∃ i, j = i * 2 ∨ j = i * 2 + 1 := ⟨j / 2, by omega⟩
  rcases hi with rfl | rfl
  · obtain ⟨h1, _⟩ := h i (by omega)
    rw [(prs_at l i (by omega)).1] at hj
    injection hj with hj
    rw [← hj]; exact h1
  · obtain ⟨_, h1⟩ := h i (by omega)
    rw [(prs_at l i (by omega)).2] at hj
    injection hj with hj
    rw [← hj]; exact h1
theorem cs_at {w : World} {g off : Nat} {l : List Row} (h : Cs w (some ⟨g, off, none⟩) (prs l)) {i : Nat} (hi : i < l.length) : w.cell? ⟨g, off + i * 2, none⟩ = some (.int .i64 (l.getD i (0, 0)).1) ∧ w.cell? ⟨g, off + i * 2 + 1, none⟩ = some (.int .i64 (l.getD i (0, 0)).2) := by
  rcases h with h | ⟨b, o, ha, hc⟩
  · have := prs_len l; rw [h] at this; simp at this; omega
  · injection ha with ha
    injection ha with e1 e2 _
    subst e1 e2
    exact ⟨hc _ _ (prs_at l i hi).1, by rw [Nat.add_assoc]; exact hc _ _ (prs_at l i hi).2⟩
def SortPost (a : Option Addr) (l : List Row) (w : World) (e : Ending) (w' : World) : Prop := e = .returned (.tuple #[]) ∧ ∃ l', List.Perm l l' ∧ (l'.Pairwise fun x y => x.1 ≤ y.1) ∧ Cs w' a (prs l') ∧ Ch (fun b => some b = a.map Addr.block) w w'
theorem sortWorld_ch {w : World} {g m : Nat} {d : Array (Int × Int)} {os : Array Obj} : Ch (fun b => b = g) w (sortWorldK encR 2 w g 0 m d os) := by
  refine ⟨rfl, rfl, rfl, ?_, fun k hk hm => ?_⟩
  · unfold sortWorldK; rw [Go.Sort.size_grow, size_putRowK]; exact Nat.le_add_right _ _
  · have hm : ¬ k = g := hm
    unfold sortWorldK grow putRowK putRow mapBlock
    show ((w.heap.modify g _) ++ os)[k]? = w.heap[k]?
    rw [Array.getElem?_append_left (by simpa using hk), Array.getElem?_modify, if_neg (fun e => hm e.symm)]

set_option maxRecDepth 100000 in
set_option maxHeartbeats 2000000 in
theorem sort_any (B : Nat) (a : Option Addr) (c : Nat) (l : List Row) (w : World) (h : w.ownsRow B 71 2 (.slice a l.length c) l.length (prs l)) (hl : l.length ≤ 1000001) :
    Calls Tryz.prog 233 #[.slice a l.length c, .func (.func 234) #[] #[]] w (SortPost a l w) := by
  have hlen : ∀ (n : Nat) (W : World), n ≤ 1000001 → Calls Tryz.prog 250 #[.int .u64 n] W fun e w' => e = .returned (.int .i64 (Lib.bitLen n : Nat)) ∧ w' = W := fun n W hn => by
    have h := Any.bits_Len (SlLaysF0.n15.bits (P := Tryz.prog) (ρ := Tryz.pdqF_ren) { Tryz.pdqF with }) (n : Int) W (by omega) (by omega)
    rw [Int.toNat_natCast] at h
    exact h
  have wr : IntKind.u64.wrap (l.length : Int) = l.length := by simp [IntKind.wrap, IntKind.bits, IntKind.signed]; omega
  have HL : Hid (Calls Tryz.prog 250 #[.int .u64 l.length] w fun e w' => e = .returned (.int .i64 (Lib.bitLen l.length : Nat)) ∧ w' = w) := hlen l.length w hl
  rcases h.2 with ⟨h0, h1⟩ | ⟨g, cap, cur, hv, hb, hg, hn, hm, hs, ht⟩
  · have hnil : l = [] := List.eq_nil_of_length_eq_zero h1
    subst hnil
    have hp := fun lim => AnyF.pdqsortCmpFunc_none Tryz.pdqF a c lim (.func (.func 234) #[] #[]) w
    change ∀ lim, Calls Tryz.prog 249 _ _ _ at hp
    have HP : Hid (∀ lim, Calls Tryz.prog 249 #[.slice a 0 c, .int .i64 0, .int .i64 0, .int .i64 lim, .func (.func 234) #[] #[]] w fun e w' => e = .returned (.tuple #[]) ∧ w' = w) := hp
    have HE : Hid (SortPost a [] w (.returned (.tuple #[])) w) := ⟨rfl, [], List.Perm.refl _, List.Pairwise.nil, .inl rfl, Ch.refl _ _⟩
    clear hp h h0 h1 hlen hl
    go_enter Tryz.func233, Tryz.ntmps233
    go_wp2_with (first
      | (go_at_call 250; refine HL.out.mono ?_; rintro e w' ⟨he, hw⟩; subst he; have hw := hw.symm; subst hw)
      | (go_at_call 249; refine (HP.out _).mono ?_; rintro e w' ⟨he, hw⟩; subst he; have hw := hw.symm; subst hw))
    go_end0
    exact HE.out
  · injection hv with hv1 hv2 hv3
    subst hv1
    subst hv3
    clear hv2
    have hgl : g < w.heap.size := (h.lt g rfl).2
    have hcs := own_cs h
    have hH : HoldsK encR 2 w g 0 l.toArray := by
      intro j hj
      rw [size_flatK] at hj
      have hj' : j < l.length * 2 := by simpa using hj
      rw [get_flatK _ _ _ _ hj]
      obtain ⟨i, hi⟩ : ∃ i, j = i * 2 ∨ j = i * 2 + 1 := ⟨j / 2, by omega⟩
      have hfr : w.frozen? ⟨g, 0 + j, none⟩ = false := by simp [World.frozen?, hg]
      refine ⟨?_, hfr⟩
      have key : ∀ i, i < l.length → (l.toArray)[i]! = l.getD i (0, 0) := fun i hi => by
        rw [getElem!_pos _ i (by simpa using hi), List.getD_eq_getElem?_getD, List.getElem?_eq_getElem hi]; simp
      rcases hi with rfl | rfl
      · rw [show i * 2 / 2 = i by omega, show i * 2 % 2 = 0 by omega, key i (by omega)]
        exact (cs_at hcs (by omega)).1
      · rw [show (i * 2 + 1) / 2 = i by omega, show (i * 2 + 1) % 2 = 1 by omega, key i (by omega)]
        have := (cs_at hcs (i := i) (by omega)).2
        rw [Nat.add_assoc] at this
        exact this
    have hcmp : CmpLays Tryz.prog 234 #[] encR 2 cfR g 0 l.toArray.size w := fun _ _ _ _ x y => less_any x y _
    have eg : ∀ args w, (callFunc 234 args).run Tryz.prog w = .ok (.enter 234 args) w := enters_of Tryz.func234 (by kernel_rfl) rfl
    have hlim : Lib.bitLen l.length < 4611686018427387904 := Nat.lt_of_le_of_lt (Lib.bitLen_le l.length 62 (by omega) (by omega)) (by omega)
    have hk2 : ∀ x : Int × Int, (encR x).length = 2 := fun _ => rfl
    have h1c : ∀ x : Int × Int, ∀ v ∈ encR x, v.oneCell' = true := fun x v hv => by simp [encR] at hv; rcases hv with rfl | rfl <;> rfl
    have hp := AnyQ.pdqsortCmpFunc_all Tryz.pdqF 2 aggR sizeR encR cfR 234 #[] swoR g 0 c l.toArray w eg hcmp ⟨hk2, h1c, hH, hgl⟩ (l.length + 1) 0 l.length (Lib.bitLen l.length) l.toArray w (by omega) rfl (SWK.start hH) (Nat.zero_le _) (by simp) (by simp; omega) hlim (Or.inl rfl)
    change Calls Tryz.prog 249 _ _ _ at hp
    have hsz : l.toArray.size = l.length := by simp
    rw [hsz] at hp
    have hso := pdq_sorts (ltOf cfR) swoR l.toArray 0 l.length (Lib.bitLen l.length) true true (Nat.zero_le _) (by simp) (Or.inl rfl)
    generalize pdq (ltOf cfR) l.toArray 0 l.length (Lib.bitLen l.length) true true = d' at hp hso
    have FIN : Hid (∀ w', SWK encR 2 w g 0 d' w' → SortPost (some ⟨g, 0, none⟩) l w (.returned (.tuple #[])) w') := fun w' hw' => by
      obtain ⟨⟨p1, p2, p3⟩, so⟩ := hso
      have hds : d'.size = l.length := by rw [p1]; simp
      have hex : ∀ d : Array (Int × Int), d.size = l.length → (d.extract 0 l.length).toList = d.toList := fun d hd => by rw [← hd]; simp
      rw [hex d' hds, hex l.toArray (by simp)] at p3
      have hh : HoldsK encR 2 w' g 0 d' := by
        obtain ⟨m, os, rfl⟩ := hw'
        exact holdsK_sortWorldK_c encR 2 w g 0 l.toArray d' m os hH hgl (by rw [hds]; simp)
      have key : ∀ i, i < l.length → d'[i]! = d'.toList.getD i (0, 0) := fun i hi => by
        rw [getElem!_pos _ i (by omega), List.getD_eq_getElem?_getD, List.getElem?_eq_getElem (by simpa using (by omega : i < d'.size))]; simp
      refine ⟨rfl, d'.toList, p3.symm, ?_, ?_, ?_⟩
      · rw [List.pairwise_iff_getElem]
        intro i j hi hj hij
        have hi' : i < l.length := by rw [← hds]; simpa using hi
        have hj' : j < l.length := by rw [← hds]; simpa using hj
        have := so i j (Nat.zero_le _) hij hj'
        rw [ltR, key i hi', key j hj', List.getD_eq_getElem?_getD, List.getD_eq_getElem?_getD, List.getElem?_eq_getElem hi, List.getElem?_eq_getElem hj] at this
        simp at this ⊢
        exact this
      · refine cs_prs fun i hi => ?_
        have hi' : i < d'.size := by simpa using hi
        have hc := HoldsK.cells hh hk2 hi'
        rw [key i (by omega)] at hc
        exact ⟨by have := hc 0 _ rfl; rwa [Go.WideShapes.add_plain, Nat.add_zero] at this, by have := hc 1 _ rfl; rwa [Go.WideShapes.add_plain] at this⟩
      · obtain ⟨m, os, rfl⟩ := hw'
        exact sortWorld_ch.mono fun b _ e => by subst e; rfl
    have HP : Hid (Calls Tryz.prog 249 #[.slice (some ⟨g, 0, none⟩) l.length c, .int .i64 ((0 : Nat) : Int), .int .i64 (l.length : Nat), .int .i64 (Lib.bitLen l.length : Nat), .func (.func 234) #[] #[]] w fun e w' => e = .returned (.tuple #[]) ∧ SWK encR 2 w g 0 d' w') := hp
    clear hp hso hH hcmp eg hlim hk2 h1c hcs h hg hs ht hlen hsz
    generalize l.length = len at *
    go_enter Tryz.func233, Tryz.ntmps233
    go_wp2_with (first
      | (go_at_call 250; refine HL.out.mono ?_; rintro e w' ⟨he, hw⟩; subst he; have hw := hw.symm; subst hw)
      | (go_at_call 249; refine HP.out.mono ?_; rintro e w2 ⟨he, hw⟩; subst he))
    go_end0
    exact FIN.out _ hw
end Go.Proofs.YtjcanodnlnodpaaGreatDoor.Parse
