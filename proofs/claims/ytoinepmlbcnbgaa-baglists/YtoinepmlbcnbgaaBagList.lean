/- List of package bag: a contract of the call, over the turned program. -/
import Derived.Test.YtoinepmlbcnbgaaBagOf
import Derived.Test.YtoinepmlbcnbgaaRows2
namespace Go.Proofs.Ytoinepmlbcnbgaa.Bag
open Go.RowKit Go.Maps Go.Proofs.Ytoinepmlbcnbgaa.Frame
set_option linter.unusedVariables false

/-- what is told after k rows -/
def toldF (rs : List Row) (q k : Nat) : List Int := (listF (rs.take k)).take q
theorem toldF_step {rs : List Row} {q k : Nat} (h : k < rs.length) : toldF rs q (k + 1) = toldF rs q k ++ List.replicate (min (rs.getD k zr).2.toNat (q - (toldF rs q k).length)) (rs.getD k zr).1 := by
  unfold toldF
  rw [take_snoc h, listF_snoc, List.take_append, List.take_replicate, List.length_take]
  congr 2
  omega
theorem toldF_end {rs : List Row} {q k : Nat} (h : rs.length ≤ k) : toldF rs q k = (listF rs).take q := by unfold toldF; rw [List.take_of_length_le h]
theorem listF_take_le (rs : List Row) (k : Nat) : (listF (rs.take k)).length ≤ (listF rs).length := by
  induction rs generalizing k with
  | nil => simp
  | cons r b ih =>
    cases k with
    | zero => simp [listF]
    | succ k => have := ih k; simp only [List.take_succ_cons, listF, List.length_append, List.length_replicate]; omega
theorem toldF_length (rs : List Row) (q k : Nat) : (toldF rs q k).length ≤ min q (listF rs).length := by
  unfold toldF
  have := listF_take_le rs k
  rw [List.length_take]
  omega

def LOwn (w : World) (g N : Nat) (l : List Int) (wr : World) : Prop :=
  wr.ownsRow w.heap.size 3 1 (.slice (some ⟨g, 0, none⟩) l.length N) l.length (l.map fun z => Value.int .i64 z) ∧ Below w.heap.size w wr

theorem LOwn.nums {w wr : World} {g N : Nat} {l : List Int} (h : LOwn w g N l wr) (hl : ∀ i, i < l.length → In64 (l.getD i 0)) : Nums wr (some ⟨g, 0, none⟩) l.length l := by
  refine ⟨⟨rfl, hl⟩, .inr ⟨g, 0, rfl, fun i hi => ?_⟩⟩
  rw [Nat.zero_add, h.1.cellAt i (by omega), List.getElem?_map, getD_get 0 hi, List.getElem?_eq_getElem hi]
  rfl
theorem LOwn.gt {w wr : World} {g N : Nat} {l : List Int} (h : LOwn w g N l wr) : w.heap.size ≤ g ∧ g < wr.heap.size := h.1.lt g rfl
theorem LOwn.next {w wr w1 : World} {g N : Nat} {l : List Int} {m : Int} {o : Obj} (h : LOwn w g N l wr) (hr : w1.ownsRow w.heap.size 3 1 (.slice (some ⟨g, 0, none⟩) (l.length + 1) N) (l.length + 1) ((l.map fun z => Value.int .i64 z) ++ [.int .i64 m])) (hg : (wr.alloc o).grownBy w1 (some g)) : LOwn w g N (l ++ [m]) w1 := by
  have hlt := h.gt
  refine ⟨by simpa using hr, (h.2.alloc h.2.size o).grown hg (by simp; have := h.2.size; omega) (fun i hi => by cases hi; exact hlt.1)⟩
theorem LOwn.alloc {w wr : World} {g N : Nat} {l : List Int} (h : LOwn w g N l wr) (o : Obj) : LOwn w g N l (wr.alloc o) := ⟨h.1.alloc o, h.2.alloc h.2.size o⟩

set_option maxHeartbeats 2000000 in
theorem list_right (a : Option Addr) (len cap : Nat) (rs : List Row) (q : Nat) (w : World) (h : Bags w a len rs) (hr : RightP rs) (hl : len ≤ 100000) (h1q : 1 ≤ q) (hq : q ≤ 1000000) :
    Calls Try.prog 20 #[.slice a len cap, .int .i64 q] w fun e w' => (∃ a len' cap, e = .returned (.slice a len' cap) ∧ Nums w' a len' ((listF rs).take q)) ∧ Below w.heap.size w w' := by
  obtain ⟨i0, hi, hz0, hz1, hz2⟩ := info_parts intInfo
  have HC : Hid (Bags w a len rs) := h
  have HR : Hid (RightP rs) := hr
  have HL : Hid (rs.length = len) := h.1.1
  have R : Hid (rightB rs = true) := rightB_iff.2 hr
  obtain ⟨T, hT⟩ : ∃ T, T = (listF rs).length := ⟨_, rfl⟩
  have ET : Hid (totF rs = (T : Int)) := (show totF rs = (T : Int) by rw [hT]; exact (listF_length hr).symm)
  have HT : Hid (T = (listF rs).length) := hT
  obtain ⟨N, hN⟩ : ∃ N, N = min q T := ⟨_, rfl⟩
  have HN : Hid (N = min q T) := hN
  have hNq : N ≤ q := by omega
  have hNm : min (q : Int) T = (N : Int) := by omega
  have HNM : Hid (min (q : Int) T = (N : Int)) := hNm
  have h1q' : ¬ (q : Int) < 1 := by omega
  have hml : (1000000 : Nat) ≤ maxLen := by decide
  clear h hr hT hN hNm
  go_enter Try.func20, Try.ntmps20
  go_wp2_with (first
    | (go_at_call 10; refine (right_any _ _ _ rs _ HC.out (by omega)).mono ?_; rintro e w1 ⟨he, hb1⟩; subst he; rw [R.out])
    | (go_at_call 35; refine (total_in _ _ _ rs _ (HC.out.below hb1) HR.out (by omega)).mono ?_; rintro e w2 ⟨he, hb2⟩; subst he; rw [ET.out])
    | (at_make; refine wpList_make_own _ rfl _ _ 24 rfl w.heap.size 3 i0 (.int .i64 0) 1 Try.underlying24 hi hz0 hz1 _ _ _ N rfl rfl HNM.out (by rw [hz2]; omega) (by omega) (by have := hb1.size; have := hb2.size; omega) ?_; intro w3 hrow3 hg3)
    | go_in)
  obtain ⟨g, hg⟩ : ∃ g, g = w2.heap.size := ⟨_, rfl⟩
  rw [← hg] at hrow3 ⊢
  have B3 : Below w.heap.size w w3 := (then_ hb1 hb2).grown hg3 (then_ hb1 hb2).size (fun j hj => by cases hj)
  have L0 : Hid (LOwn w g N [] w3) := ⟨hrow3, B3⟩
  clear hb1 hb2 hg3 hrow3 B3 hg
  go_loopw [5, 22] (fun v i wr => ∃ k p : Nat, k ≤ len ∧ i = .int .i64 k ∧ v = .slice (some ⟨g, 0, none⟩) p N ∧ Hid (p = (toldF rs q k).length) ∧ Hid (LOwn w g N (toldF rs q k) wr)) (fun _ i _ => len - (intOf i).toNat)
  case atStart => exact ⟨0, 0, by omega, rfl, rfl, (show 0 = (toldF rs q 0).length by simp [toldF, listF]), (show LOwn w g N (toldF rs q 0) w3 by have := L0.out; simpa [toldF, listF] using this)⟩
  case round =>
    obtain ⟨k, p, hk, rfl, rfl, hp, hI⟩ := hrel
    clear L0
    by_cases hlt : k < len
    · have hlt' : (k : Int) < len := by omega
      have hkl : k < rs.length := by rw [HL.out]; exact hlt
      obtain ⟨b, off, ha, hbl, hat⟩ := (HC.out.below hI.out.2).row (k := k) hlt
      subst ha
      obtain ⟨c0, c1⟩ := hat k hkl
      have hG := (right_good HR.out hkl).1.2
      have hS := toldF_step (q := q) hkl
      have hTl := toldF_length rs q k
      have hTl2 := toldF_length rs q (k + 1)
      rw [hS, List.length_append, List.length_replicate] at hTl2
      rw [← hp.out] at hS hTl hTl2
      rw [← HT.out] at hTl hTl2
      obtain ⟨m, hm⟩ : ∃ m, m = (rs.getD k zr).1 := ⟨_, rfl⟩
      obtain ⟨c, hc⟩ : ∃ c, c = (rs.getD k zr).2 := ⟨_, rfl⟩
      rw [← hm] at c0 hS
      rw [← hc] at c1 hG hS hTl2
      obtain ⟨J, hJ⟩ : ∃ J, J = min c.toNat (q - p) := ⟨_, rfl⟩
      rw [← hJ] at hS hTl2
      have hpq : p ≤ q := by omega
      have hpJ : p + J ≤ N := by rw [HN.out]; exact hTl2
      have S : Hid (toldF rs q (k + 1) = toldF rs q k ++ List.replicate J m) := hS
      have HJ : Hid (min c ((q : Int) - p) = (J : Int)) := (show min c ((q : Int) - p) = (J : Int) by omega)
      clear hat hm hc hS hTl hTl2 hkl hJ
      have hws := hI.out.2.size
      have hgl := hI.out.gt.2
      go_wp2
      rw [HJ.out]
      have W0 : Hid (LOwn w g N (toldF rs q k ++ List.replicate 0 m) (wr.alloc (.cells #[.int .i64 m, .int .i64 c] 39))) := (show LOwn w g N _ _ by rw [List.replicate_zero, List.append_nil]; exact hI.out.alloc _)
      have C0 : (wr.alloc (.cells #[.int .i64 m, .int .i64 c] 39)).cell? ⟨wr.heap.size, 0, none⟩ = some (.int .i64 m) := by simp
      have hrb : ¬ wr.heap.size = g := by omega
      have HP : Hid (p = (toldF rs q k).length) := hp
      generalize hR : wr.heap.size = rb at *
      generalize wr.alloc (.cells #[.int .i64 m, .int .i64 c] 39) = W at *
      clear c0 c1 hI hbl
      go_loopw [5, 33] (fun v i wi => ∃ j : Nat, j ≤ J ∧ i = .int .i64 j ∧ v = .slice (some ⟨g, 0, none⟩) (p + j) N ∧ wi.cell? ⟨rb, 0, none⟩ = some (.int .i64 m) ∧ Hid (LOwn w g N (toldF rs q k ++ List.replicate j m) wi)) (fun _ i _ => J - (intOf i).toNat)
      case atStart => exact ⟨0, by omega, rfl, rfl, C0, W0⟩
      case round =>
        obtain ⟨j, hj, rfl, rfl, d0, hW⟩ := hrel
        clear W0 C0
        have hlp : (toldF rs q k ++ List.replicate j m).length = p + j := by rw [List.length_append, List.length_replicate, ← HP.out]
        have HLP : Hid ((toldF rs q k ++ List.replicate j m).length = p + j) := hlp
        clear hlp
        by_cases hjJ : j < J
        · have hjJ' : (j : Int) < J := by omega
          have O : Hid (World.ownsRow _ _ _ _ _ _ _) := hW.out.1
          rw [HLP.out] at O
          have hrbl := World.block_lt_of_cell? _ _ d0
          go_wp2_with (first
            | (at_builtin; refine wpList_append_fits _ rfl _ _ 24 rfl w.heap.size 3 i0 1 Try.underlying24 hi hz1 g (p + j) N _ rfl (O.out.alloc _) ⟨_, 0, none⟩ 1 1 [.int .i64 m] rfl rfl (cell_one_new _ _ _) (by simp [Value.oneCell']) (by omega) ?_; intro w4 hown4 hg4)
            | go_in)
          have NX : LOwn w g N (toldF rs q k ++ List.replicate (j + 1) m) w4 := by
            rw [List.replicate_succ', ← List.append_assoc]
            exact hW.out.next (by rw [HLP.out]; exact hown4) hg4
          have D4 : w4.cell? ⟨rb, 0, none⟩ = some (.int .i64 m) := hg4.cell (a := ⟨rb, 0, none⟩) ((World.cell?_of_block (w := wr) (Below.heap_alloc wr _ rb hrbl)).trans d0) (by simp; omega)
          go_roundw
          case rel => exact ⟨j + 1, by omega, by go_num, rfl, D4, NX⟩
          case measure => simp [intOf]; omega
        · obtain rfl : j = J := by omega
          have hW2 : Hid (LOwn w g N (toldF rs q (k + 1)) wr) := (show LOwn w g N (toldF rs q (k + 1)) wr by rw [S.out]; exact hW.out)
          have hp2 : Hid (p + j = (toldF rs q (k + 1)).length) := (show p + j = (toldF rs q (k + 1)).length by rw [S.out]; exact HLP.out.symm)
          clear hW
          go_wp2
          go_roundw
          case rel => exact ⟨k + 1, p + j, by omega, by go_num, rfl, hp2, hW2⟩
          case measure => simp [intOf]; omega
    · have E : Hid (toldF rs q k = (listF rs).take q) := toldF_end (by rw [HL.out]; omega)
      have M64 : Hid (∀ i, i < ((listF rs).take q).length → In64 (((listF rs).take q).getD i 0)) := fun i hi => by
        have h1 : ((listF rs).take q).getD i 0 ∈ listF rs := by rw [getD_get 0 hi]; exact List.mem_of_mem_take (List.getElem_mem _)
        have h2 := List.count_pos_iff.2 h1
        have h3 := listF_count HR.out (((listF rs).take q).getD i 0)
        obtain ⟨r, hr, e⟩ := cntF_some (b := rs) (m := ((listF rs).take q).getD i 0) (by omega)
        obtain ⟨x, hx, rfl⟩ := List.getElem_of_mem hr
        have := (HC.out.1.2 x hx).1
        rw [getD_get zr hx, e] at this
        exact this
      have hp2 : Hid (p = ((listF rs).take q).length) := (show p = ((listF rs).take q).length by rw [← E.out]; exact hp.out)
      have hI2 : Hid (LOwn w g N ((listF rs).take q) wr) := (show LOwn w g N ((listF rs).take q) wr by rw [← E.out]; exact hI.out)
      clear hp hI
      go_wp2
      go_ret
      exact ⟨⟨_, _, _, rfl, by rw [hp2.out]; exact hI2.out.nums M64.out⟩, hI2.out.2⟩

/-- List -/
def listB (rs : List Row) (q : Int) : List Int := if rightB rs ∧ 1 ≤ q then (listF rs).take q.toNat else []

set_option maxHeartbeats 1000000 in
theorem list_any (a : Option Addr) (len cap : Nat) (rs : List Row) (q : Int) (w : World) (h : Bags w a len rs) (hl : len ≤ 100000) (hq : q ≤ 1000000) :
    Calls Try.prog 20 #[.slice a len cap, .int .i64 q] w fun e w' => (∃ a len' cap, e = .returned (.slice a len' cap) ∧ Nums w' a len' (listB rs q)) ∧ Below w.heap.size w w' := by
  cases hr : rightB rs with
  | false =>
    have HC : Hid (Bags w a len rs) := h
    have R : Hid (rightB rs = false) := hr
    have E : Hid (listB rs q = []) := (show listB rs q = [] by unfold listB; rw [if_neg (fun h => by rw [hr] at h; cases h.1)])
    clear hr h
    go_enter Try.func20, Try.ntmps20
    go_wp2_with (go_at_call 10; refine (right_any _ _ _ rs _ HC.out (by omega)).mono ?_; rintro e w1 ⟨he, hb1⟩; subst he; rw [R.out])
    go_ret
    exact ⟨⟨_, _, _, rfl, by rw [E.out]; exact ⟨⟨rfl, fun i hi => by cases hi⟩, .inl rfl⟩⟩, hb1⟩
  | true =>
    by_cases h1 : q < 1
    · have HC : Hid (Bags w a len rs) := h
      have R : Hid (rightB rs = true) := hr
      have E : Hid (listB rs q = []) := (show listB rs q = [] by unfold listB; rw [if_neg (fun h => by omega)])
      clear hr h
      go_enter Try.func20, Try.ntmps20
      go_wp2_with (go_at_call 10; refine (right_any _ _ _ rs _ HC.out (by omega)).mono ?_; rintro e w1 ⟨he, hb1⟩; subst he; rw [R.out])
      go_ret
      exact ⟨⟨_, _, _, rfl, by rw [E.out]; exact ⟨⟨rfl, fun i hi => by cases hi⟩, .inl rfl⟩⟩, hb1⟩
    · obtain ⟨n, rfl⟩ := Int.eq_ofNat_of_zero_le (show 0 ≤ q by omega)
      have E : listB rs n = (listF rs).take n := by unfold listB; rw [if_pos ⟨hr, by omega⟩, Int.toNat_natCast]
      rw [E]
      exact list_right a len cap rs n w h (rightB_iff.1 hr) hl (by omega) (by omega)
end Go.Proofs.Ytoinepmlbcnbgaa.Bag
