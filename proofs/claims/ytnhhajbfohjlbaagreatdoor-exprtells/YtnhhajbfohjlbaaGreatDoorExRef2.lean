/- The document's own parts and Right: contracts of the calls, over the turned program. -/
import Derived.Test.YtnhhajbfohjlbaaGreatDoorExRef1
import Derived.Test.YtnhhajbfohjlbaaGreatDoorExLaw
import Derived.Deep.CutBlock
namespace Go.Proofs.YtnhhajbfohjlbaaGreatDoor.Expr
open Go.RowKit Go.Proofs.YtnhhajbfohjlbaaGreatDoor.Frame Go.Proofs.YtnhhajbfohjlbaaGreatDoor.Calc
set_option linter.unusedVariables false
set_option linter.unusedSimpArgs false

/-- the node and its first kids -/
def upB (vars k n : Int) (ks : List Ex) (j : Nat) : Bool := nodeB vars k n ks.length && (ks.take j).all (partsB vars)
theorem up_step {vars k n : Int} {ks : List Ex} {j : Nat} {x : Ex} (h : j < ks.length) (hx : x = ks.getD j nilEx) (hu : upB vars k n ks j = true) : upB vars k n ks (j + 1) = partsB vars x := by
  unfold upB at hu ⊢
  rw [Bool.and_eq_true] at hu
  rw [take_snoc nilEx h, List.all_append, hu.1, hu.2, hx]; simp
theorem up_false {vars k n : Int} {ks : List Ex} {j : Nat} (hu : upB vars k n ks j = false) : partsB vars ⟨k, n, ks⟩ = false := by
  cases hp : partsB vars ⟨k, n, ks⟩ with
  | false => rfl
  | true =>
    rw [parts_eq, Bool.and_eq_true, List.all_eq_true] at hp
    have : upB vars k n ks j = true := by
      unfold upB
      rw [Bool.and_eq_true, List.all_eq_true]
      exact ⟨hp.1, fun x hx => hp.2 x (List.mem_of_mem_take hx)⟩
    rw [hu] at this; cases this
theorem up_all {vars k n : Int} {ks : List Ex} {j : Nat} (h : ks.length ≤ j) : upB vars k n ks j = partsB vars ⟨k, n, ks⟩ := by
  unfold upB; rw [List.take_of_length_le h, parts_eq]
theorem valb {a b : Bool} (h : a = b) : Value.bool a = .bool b := by rw [h]

set_option maxRecDepth 100000 in
set_option maxHeartbeats 2000000 in
theorem rparts_any (vars : Int) : ∀ (t : Ex) (w : World) (a : Option Addr) (c : Nat), X w t a → sizeF t ≤ 1000000 →
    Calls Tryz.prog 23 #[.agg #[.int .i64 t.kind, .int .i64 t.num, .slice a t.kids.length c], .int .i64 vars] w fun e w' => e = .returned (.bool (partsB vars t)) ∧ Below w.heap.size w w' := by
  refine Ex.ind fun k n ks ih w a c h hs => ?_
  have HX : Hid (X w ⟨k, n, ks⟩ a) := h
  have HI : Hid (∀ (x : Ex), x ∈ ks → ∀ (w : World) (a : Option Addr) (c : Nat), X w x a → sizeF x ≤ 1000000 → Calls Tryz.prog 23 #[.agg #[.int .i64 x.kind, .int .i64 x.num, .slice a x.kids.length c], .int .i64 vars] w fun e w' => e = .returned (.bool (partsB vars x)) ∧ Below w.heap.size w w') := ih
  have hlen : ks.length ≤ 1000000 := by have := len_size k n ks; omega
  have HS : Hid (sizeF ⟨k, n, ks⟩ ≤ 1000000) := hs
  clear ih h hs
  show Calls Tryz.prog 23 #[.agg #[.int .i64 k, .int .i64 n, .slice a ks.length c], .int .i64 vars] w _
  obtain ⟨len, hl⟩ : ∃ len, len = ks.length := ⟨_, rfl⟩
  rw [← hl] at hlen ⊢
  have HL : Hid (len = ks.length) := hl
  clear hl
  go_enter Tryz.func23, Tryz.ntmps23
  go_upto_block 0 with (fail)
  go_cut [6] from 8 (fun s wc => s = .bool (nodeB vars k n len) ∧ wc = w.alloc (.cells #[.int .i64 k, .int .i64 n, .slice a len c] 24))
  case first =>
    by_cases h1 : k = 1
    · subst h1
      go_wp2_with fail
      go_meet
      exact ⟨valb node1.symm, rfl⟩
    by_cases h2 : k = 2
    · subst h2
      by_cases hl : len = 0
      · subst hl
        by_cases hn : n < 0
        · have N : Hid (nodeB vars 2 n 0 = false) := node2b hn
          have hd : ¬ 0 ≤ n := by omega
          go_wp2_with fail
          go_meet
          exact ⟨valb N.out.symm, rfl⟩
        · have hn' : 0 ≤ n := by omega
          have N : Hid (nodeB vars 2 n 0 = decide (n < vars)) := node2c rfl hn'
          go_wp2_with fail
          go_meet
          exact ⟨valb N.out.symm, rfl⟩
      · have N : Hid (nodeB vars 2 n len = false) := node2a hl
        have hd : ¬ (len : Int) = 0 := by omega
        go_wp2_with fail
        go_meet
        exact ⟨valb N.out.symm, rfl⟩
    by_cases h3 : k = 3
    · subst h3
      go_wp2_with fail
      go_meet
      exact ⟨valb node3.symm, rfl⟩
    by_cases h4 : k = 4
    · subst h4
      go_wp2_with fail
      go_meet
      exact ⟨valb node4.symm, rfl⟩
    by_cases h5 : k = 5
    · subst h5
      by_cases hl : len = 2
      · subst hl
        go_wp2_with (go_at_call 37; refine (rknown_any _ _).mono ?_; rintro e w' ⟨he, hw⟩; subst he; subst hw)
        go_meet
        exact ⟨valb (node5t rfl).symm, rfl⟩
      · have hd : ¬ (len : Int) = 2 := by omega
        go_wp2_with fail
        go_meet
        exact ⟨valb (node5f hl).symm, rfl⟩
    by_cases h6 : k = 6
    · subst h6
      go_wp2_with fail
      go_meet
      exact ⟨valb node6.symm, rfl⟩
    · go_wp2_with fail
      go_meet
      exact ⟨valb (node_no h1 h2 h3 h4 h5 h6).symm, rfl⟩
  case rest =>
  obtain ⟨rfl, rfl⟩ := hcut
  have U0 : Hid (nodeB vars k n len = upB vars k n ks 0) := by unfold Hid upB; rw [HL.out]; simp
  generalize nodeB vars k n len = nb at *
  go_wp2_with fail
  go_loopw [6, 7] (fun s i wr => ∃ (j : Nat) (b : Bool), j ≤ len ∧ i = .int .i64 j ∧ s = .bool b ∧ Hid (b = upB vars k n ks j) ∧ wr.cell? ⟨w.heap.size, 2, none⟩ = some (.slice a len c) ∧ Below w.heap.size w wr) (fun _ i _ => len - (intOf i).toNat)
  case atStart => exact ⟨0, nb, by omega, rfl, rfl, U0, by simp, (Below.refl _ _).alloc (Nat.le_refl _) _⟩
  case round =>
    obtain ⟨j, b, hj, rfl, rfl, hbb, hc, hnx⟩ := hrel
    by_cases hlt : j < len
    · have hlt' : (j : Int) < len := by omega
      cases b with
      | false =>
        have E : Hid (partsB vars ⟨k, n, ks⟩ = false) := up_false hbb.out.symm
        clear hbb
        go_wp2_with fail
        go_ret
        exact ⟨by rw [E.out]; rfl, hnx⟩
      | true =>
        obtain ⟨b, off, x, ai, ci, ha, hbl, hxm, hxe, c0, c1, c2, hxx⟩ := (HX.out.below hnx).kid (i := j) (by rw [← HL.out]; exact hlt)
        subst ha
        have SX : sizeF x ≤ 1000000 := by have h1 := size_kid (k := k) (n := n) hxm; have h2 := HS.out; omega
        have E1 : Hid (partsB vars x = upB vars k n ks (j + 1)) := (up_step (by rw [← HL.out]; exact hlt) hxe hbb.out.symm).symm
        have hws : w.heap.size < wr.heap.size := World.block_lt_of_cell? wr _ hc
        have CL : Hid (Calls Tryz.prog 23 #[.agg #[.int .i64 x.kind, .int .i64 x.num, .slice ai x.kids.length ci], .int .i64 vars] wr fun e w' => e = .returned (.bool (partsB vars x)) ∧ w'.cell? ⟨w.heap.size, 2, none⟩ = some (.slice (some ⟨b, off, none⟩) len c) ∧ Hid (Below w.heap.size w w')) :=
          (HI.out x hxm wr ai ci hxx SX).mono fun e w' h => ⟨h.1, (h.2.cell (p := ⟨w.heap.size, 2, none⟩) hws).trans hc, fstep hnx h.2⟩
        clear hxx hxm hxe hbb SX
        generalize partsB vars x = pb at *
        go_wp2_with (go_at_call 23; refine CL.out.mono ?_; rintro e w1 ⟨he, hc1, hb1⟩; subst he)
        go_roundw
        case rel => exact ⟨j + 1, pb, by omega, by go_num, rfl, E1, hc1, hb1.out⟩
        case measure => simp [intOf]; omega
    · have E : Hid (b = partsB vars ⟨k, n, ks⟩) := by rw [hbb.out]; exact up_all (by rw [← HL.out]; omega)
      have hlt' : ¬ (j : Int) < len := by omega
      clear hbb
      go_wp2_with fail
      go_ret
      exact ⟨retb E.out, hnx⟩

set_option maxRecDepth 100000 in
set_option maxHeartbeats 2000000 in
theorem rright_any (t : Ex) (w : World) (a : Option Addr) (c : Nat) (vars : Int) (hx : X w t a) (hs : sizeF t ≤ 1000000) :
    Calls Tryz.prog 7 #[.agg #[.int .i64 t.kind, .int .i64 t.num, .slice a t.kids.length c], .int .i64 vars] w fun e w' => e = .returned (.bool (rightB vars t)) ∧ Below w.heap.size w w' := by
  have KB : Hid (Bs _ w.heap.size w.heap.size t t a a c c _) := bs_one w t a c
  have B0 : Hid (Below w.heap.size w (w.alloc (.cells #[.int .i64 t.kind, .int .i64 t.num, .slice a t.kids.length c] 24))) := al1 _ _
  have HX : Hid (X (w.alloc (.cells #[.int .i64 t.kind, .int .i64 t.num, .slice a t.kids.length c] 24)) t a) := hx.below B0.out
  have ST : Hid (sizeF t ≤ 1000000) := hs
  clear hx hs
  by_cases h1 : (depthF t : Int) ≤ 40
  · by_cases h2 : (sizeF t : Int) ≤ 400
    · have E : Hid (rightB vars t = partsB vars t) := by
        have : depthF t ≤ 40 ∧ sizeF t ≤ 400 := ⟨by omega, by omega⟩
        unfold Hid rightB; simp [this]
      rw [E.out]
      go_enter Tryz.func7, Tryz.ntmps7
      go_wp2_with fail
      refine (Bs.call KB.out (fun hb => rdepth_any t _ a c (HX.out.below hb) ST.out)).mono ?_
      clear KB
      rintro e w1 ⟨he, KB, ⟨⟨b0, b1, b2⟩, bl⟩, -, -⟩
      subst he
      go_wp2_with fail
      refine (Bs.call KB.out (fun hb => rsize_any t _ a c (HX.out.below hb) ST.out)).mono ?_
      clear KB b0 b1 b2 bl
      rintro e w2 ⟨he, KB, ⟨⟨b0, b1, b2⟩, bl⟩, -, -⟩
      subst he
      go_wp2_with fail
      refine (Bs.call KB.out (fun hb => rparts_any vars t _ a c (HX.out.below hb) ST.out)).mono ?_
      clear KB b0 b1 b2 bl
      rintro e w3 ⟨he, KB, -⟩
      subst he
      go_wp2_with fail
      go_ret
      exact ⟨rfl, bs_end B0.out KB.out⟩
    · have E : Hid (rightB vars t = false) := by unfold Hid rightB; simp; omega
      rw [E.out]
      go_enter Tryz.func7, Tryz.ntmps7
      go_wp2_with fail
      refine (Bs.call KB.out (fun hb => rdepth_any t _ a c (HX.out.below hb) ST.out)).mono ?_
      clear KB
      rintro e w1 ⟨he, KB, ⟨⟨b0, b1, b2⟩, bl⟩, -, -⟩
      subst he
      go_wp2_with fail
      refine (Bs.call KB.out (fun hb => rsize_any t _ a c (HX.out.below hb) ST.out)).mono ?_
      clear KB b0 b1 b2 bl
      rintro e w2 ⟨he, KB, -⟩
      subst he
      go_wp2_with fail
      go_ret
      exact ⟨rfl, bs_end B0.out KB.out⟩
  · have E : Hid (rightB vars t = false) := by unfold Hid rightB; simp; omega
    rw [E.out]
    go_enter Tryz.func7, Tryz.ntmps7
    go_wp2_with fail
    refine (Bs.call KB.out (fun hb => rdepth_any t _ a c (HX.out.below hb) ST.out)).mono ?_
    clear KB
    rintro e w1 ⟨he, KB, -⟩
    subst he
    go_wp2_with fail
    go_ret
    exact ⟨rfl, bs_end B0.out KB.out⟩
end Go.Proofs.YtnhhajbfohjlbaaGreatDoor.Expr
