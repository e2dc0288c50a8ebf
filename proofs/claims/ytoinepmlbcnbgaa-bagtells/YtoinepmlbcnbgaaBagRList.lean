/- The document's own List: a contract of the call, over the turned program. -/
import Derived.Test.YtoinepmlbcnbgaaBagRef2
import Derived.Test.YtoinepmlbcnbgaaBagList
import Derived.Test.YtoinepmlbcnbgaaBagWith
namespace Go.Proofs.Ytoinepmlbcnbgaa.Bag
open Go.RowKit Go.Maps Go.Proofs.Ytoinepmlbcnbgaa.Frame
set_option linter.unusedVariables false

/-- numbers of the call's own -/
def Zw (w wr : World) (l : List Int) (a : Option Addr) (c : Nat) : Prop :=
  wr.ownsRow w.heap.size 3 1 (.slice a l.length c) l.length (l.map fun z => Value.int .i64 z) ∧ Below w.heap.size w wr
theorem Zw.add {w wr w1 : World} {l : List Int} {a a' : Option Addr} {c c' : Nat} {m : Int} {o : Obj} (h : Zw w wr l a c)
    (h1 : w1.ownsRow w.heap.size 3 1 (.slice a' (l.length + 1) c') (l.length + 1) ((l.map fun z => Value.int .i64 z) ++ [.int .i64 m])) (hg : (wr.alloc o).grownBy w1 (Value.slice a l.length c).ownBlock) : Zw w w1 (l ++ [m]) a' c' := by
  refine ⟨by rw [List.length_append, List.map_append]; exact h1, (h.2.alloc h.2.size o).grown hg (by simp; have := h.2.size; omega) (fun k hk => (h.1.lt k hk).1)⟩
theorem Zw.nums {w wr : World} {l : List Int} {a : Option Addr} {c : Nat} (h : Zw w wr l a c) (hl : ∀ z ∈ l, In64 z) : Nums wr a l.length l := by
  refine ⟨⟨rfl, fun i hi => hl _ (by rw [getD_get 0 hi]; exact List.getElem_mem _)⟩, ?_⟩
  rcases h.1.2 with ⟨_, h0⟩ | ⟨g, c', cur, hv, _⟩
  · exact .inl h0
  · have h1 := h.1
    simp only [Value.slice.injEq] at hv
    obtain ⟨rfl, _, rfl⟩ := hv
    refine .inr ⟨g, 0, rfl, fun i hi => ?_⟩
    rw [Nat.zero_add, h1.cellAt i (by omega), List.getElem?_map, getD_get 0 hi, List.getElem?_eq_getElem hi]
    rfl
theorem listF_in {rs : List Row} (hr : RightP rs) (hw : Wf rs) : ∀ z ∈ listF rs, In64 z := fun z hz => by
  have h2 := List.count_pos_iff.2 hz
  have h3 := listF_count hr z
  obtain ⟨r, hr', e⟩ := cntF_some (b := rs) (m := z) (by omega)
  obtain ⟨x, hx, rfl⟩ := List.getElem_of_mem hr'
  have := (hw x hx).1
  rw [getD_get zr hx, e] at this
  exact this
/-- an answer of numbers -/
def NumPost (w : World) (l : List Int) (e : Ending) (w' : World) : Prop := (∃ a len c, e = .returned (.slice a len c) ∧ Nums w' a len l) ∧ Below w.heap.size w w'
theorem listB_right {rs : List Row} {q : Int} (h : rightB rs = true) : listB rs q = (listF rs).take q.toNat := by
  unfold listB
  by_cases h1 : 1 ≤ q
  · rw [if_pos ⟨h, h1⟩]
  · rw [if_neg (fun h => h1 h.2), show q.toNat = 0 by omega, List.take_zero]
theorem listB_wrong {rs : List Row} {q : Int} (h : rightB rs = false) : listB rs q = [] := by unfold listB; rw [if_neg (fun k => by rw [h] at k; cases k.1)]

set_option maxHeartbeats 2000000 in
theorem rlist_any (a : Option Addr) (len cap : Nat) (rs : List Row) (q : Int) (w : World) (h : Bags w a len rs) (hl : len ≤ 100000) (hq : q ≤ 1000000) (hq6 : In64 q) :
    Calls Try.prog 21 #[.slice a len cap, .int .i64 q] w fun e w' => NumPost w (listB rs q) e w' := by
  obtain ⟨i0, hi, hz0, hz1, hz2⟩ := info_parts intInfo
  have hml : (1000000 : Nat) ≤ maxLen := by decide
  have HC : Hid (Bags w a len rs) := h
  have HL : Hid (rs.length = len) := h.1.1
  clear h
  cases hr : rightB rs with
  | false =>
    have R : Hid (rightB rs = false) := hr
    have E : Hid (listB rs q = []) := listB_wrong hr
    clear hr
    go_enter Try.func21, Try.ntmps21
    go_wp2_with (go_at_call 11; refine (rright_q _ _ _ rs _ HC.out (by omega)).mono ?_; rintro e w' ⟨he, n, hw⟩; subst he; subst hw; rw [R.out])
    refine wp_loop_rounds 1 ?_
    rw [rounds_succ]
    by_cases h0 : 0 < len
    · have h0' : (0 : Int) < len := by omega
      go_wp2
      go_ret
      exact ⟨⟨_, _, _, rfl, by rw [E.out]; exact ⟨⟨rfl, fun i hi => by cases hi⟩, .inl rfl⟩⟩, below_drewN (Below.refl _ _) _⟩
    · have h0' : ¬ (0 : Int) < len := by omega
      go_wp2
      go_ret
      exact ⟨⟨_, _, _, rfl, by rw [E.out]; exact ⟨⟨rfl, fun i hi => by cases hi⟩, .inl rfl⟩⟩, below_drewN (Below.refl _ _) _⟩
  | true =>
    have R : Hid (rightB rs = true) := hr
    have HR : Hid (RightP rs) := rightB_iff.1 hr
    obtain ⟨qn, hqn⟩ : ∃ qn, qn = q.toNat := ⟨_, rfl⟩
    have E : Hid (listB rs q = (listF rs).take qn) := (show _ = _ by rw [hqn]; exact listB_right hr)
    have hqb : qn ≤ 1000000 := by omega
    have HQ : Hid (qn = q.toNat) := hqn
    clear hr hqn
    go_enter Try.func21, Try.ntmps21
    go_wp2_with fail
    refine (rright_q _ _ _ rs _ HC.out (by omega)).mono ?_
    rintro e w1 ⟨he, n1, hw⟩
    subst he
    have B1 : Hid (Below w.heap.size w w1) := (show Below w.heap.size w w1 by rw [hw]; exact below_drewN (Below.refl _ _) _)
    clear hw
    rw [R.out]
    go_wp2
    go_loopw [6, 7] (fun v i wr => ∃ (k p : Nat) (oa : Option Addr) (oc : Nat), k ≤ len ∧ i = .int .i64 k ∧ v = .slice oa p oc ∧ Hid (p = (toldF rs qn k).length) ∧ Hid (Zw w wr (toldF rs qn k) oa oc)) (fun _ i _ => len - (intOf i).toNat)
    case atStart => exact ⟨0, 0, none, 0, by omega, rfl, rfl, (show 0 = (toldF rs qn 0).length by simp [toldF, listF]), (show Zw _ _ _ _ _ from ⟨by simp only [toldF, List.take_zero, listF, List.take_nil]; exact World.ownsRow_nil _ _ _ _, B1.out⟩)⟩
    case round =>
      obtain ⟨k, p, oa, oc, hk, rfl, rfl, hp, hI⟩ := hrel
      clear B1
      by_cases hlt : k < len
      · have hlt' : (k : Int) < len := by omega
        have hkl : k < rs.length := by rw [HL.out]; exact hlt
        obtain ⟨b, off, ha, hb0, hat⟩ := HC.out.row (k := k) hlt
        subst ha
        obtain ⟨u0, u1⟩ := hat k hkl
        have hG := (right_good HR.out hkl).1.2
        have hS := toldF_step (q := qn) hkl
        have hTl := toldF_length rs qn k
        rw [← hp.out] at hS hTl
        obtain ⟨m, hm⟩ : ∃ m, m = (rs.getD k zr).1 := ⟨_, rfl⟩
        obtain ⟨c, hc⟩ : ∃ c, c = (rs.getD k zr).2 := ⟨_, rfl⟩
        rw [← hm] at u0 hS
        rw [← hc] at u1 hG hS
        obtain ⟨J, hJ⟩ : ∃ J, J = min c.toNat (qn - p) := ⟨_, rfl⟩
        rw [← hJ] at hS
        have hpq : p ≤ qn := by omega
        have S : Hid (toldF rs qn (k + 1) = toldF rs qn k ++ List.replicate J m) := hS
        have HJ : Hid (J = min c.toNat (qn - p)) := hJ
        have U0 : Hid (w.cell? ⟨b, off + k * 2, none⟩ = _) := u0
        have U1 : Hid (w.cell? ⟨b, off + k * 2 + 1, none⟩ = _) := u1
        have W0 : Hid (Zw w wr (toldF rs qn k ++ List.replicate 0 m) oa oc) := (show Zw _ _ _ _ _ by rw [List.replicate_zero, List.append_nil]; exact hI.out)
        clear hat hm hc hS hTl hkl hJ u0 u1 hI
        go_wp2
        go_loopw [6, 8] (fun v i wi => ∃ (j : Nat) (ja : Option Addr) (jc : Nat), j ≤ J ∧ i = .int .i64 j ∧ v = .slice ja (p + j) jc ∧ Hid (Zw w wi (toldF rs qn k ++ List.replicate j m) ja jc)) (fun _ i _ => J - (intOf i).toNat)
        case atStart => exact ⟨0, oa, oc, by omega, rfl, rfl, W0⟩
        case round =>
          obtain ⟨j, ja, jc, hj, rfl, rfl, hW⟩ := hrel
          clear W0
          have HLP : Hid ((toldF rs qn k ++ List.replicate j m).length = p + j) := (show _ = _ by rw [List.length_append, List.length_replicate, ← hp.out])
          have hws := hW.out.2.size
          have hbl : b < wr.heap.size := Nat.lt_of_lt_of_le hb0 hws
          have c0 := (hW.out.2.cell (p := ⟨b, off + k * 2, none⟩) hb0).trans U0.out
          have c1 := (hW.out.2.cell (p := ⟨b, off + k * 2 + 1, none⟩) hb0).trans U1.out
          by_cases hjJ : j < J
          · have hjc : (j : Int) < c := by have := HJ.out; omega
            have hpj : ((p + j : Nat) : Int) < q := by have := HJ.out; have := HQ.out; omega
            have hpj' : (p : Int) + j < q := by omega
            have O : Hid (World.ownsRow _ _ _ _ _ _ _) := hW.out.1
            rw [HLP.out] at O
            have hpb : p + j ≤ 1000000 := by have := HJ.out; omega
            go_wp2_with (first
              | (at_builtin; refine wpList_append_own _ rfl _ _ 24 rfl w.heap.size 3 i0 (.int .i64 0) 1 8 Try.underlying24 hi hz0 hz1 hz2 rfl (by decide) _ _ _ rfl (O.out.alloc _) ⟨_, 0, none⟩ 1 1 [.int .i64 m] rfl rfl (cell_one_new _ _ _) (by simp [Value.oneCell']) (by omega) (by omega) (by simp; omega) ?_; intro v4 w4 hown4 hg4 hnil4; obtain ⟨a4, c4, hv4⟩ := own_slice hown4; subst hv4)
              | go_in)
            have NX : Zw w w4 (toldF rs qn k ++ List.replicate (j + 1) m) a4 c4 := by
              rw [List.replicate_succ', ← List.append_assoc]
              exact hW.out.add (o := .cells #[.int .i64 m] 3) (by rw [HLP.out]; exact hown4) (by rw [HLP.out]; exact hg4)
            go_roundw
            case rel => exact ⟨j + 1, a4, c4, by omega, by go_num, rfl, NX⟩
            case measure => simp [intOf]; omega
          · obtain rfl : j = J := by omega
            have hW2 : Hid (Zw w wr (toldF rs qn (k + 1)) ja jc) := (show Zw _ _ _ _ _ by rw [S.out]; exact hW.out)
            have hp2 : Hid (p + j = (toldF rs qn (k + 1)).length) := (show _ = _ by rw [S.out]; exact HLP.out.symm)
            clear hW
            by_cases hjc : (j : Int) < c
            · have hpj : ¬ (p : Int) + j < q := by have := HJ.out; have := HQ.out; omega
              have hpj2 : ¬ ((p + j : Nat) : Int) < q := by omega
              go_wp2
              go_roundw
              case rel => exact ⟨k + 1, p + j, ja, jc, by omega, by go_num, rfl, hp2, hW2⟩
              case measure => simp [intOf]; omega
            · go_wp2
              go_roundw
              case rel => exact ⟨k + 1, p + j, ja, jc, by omega, by go_num, rfl, hp2, hW2⟩
              case measure => simp [intOf]; omega
      · have hlt' : ¬ (k : Int) < len := by omega
        have E2 : Hid (toldF rs qn k = (listF rs).take qn) := toldF_end (by rw [HL.out]; omega)
        have hp2 : Hid (p = ((listF rs).take qn).length) := (show _ = _ by rw [← E2.out]; exact hp.out)
        have hI2 : Hid (Zw w wr ((listF rs).take qn) oa oc) := (show Zw _ _ _ _ _ by rw [← E2.out]; exact hI.out)
        clear hp hI
        go_wp2
        go_ret
        exact ⟨⟨_, _, _, rfl, by rw [E.out, hp2.out]; exact hI2.out.nums (fun z hz => listF_in HR.out HC.out.1.2 z (List.mem_of_mem_take hz))⟩, hI2.out.2⟩
end Go.Proofs.Ytoinepmlbcnbgaa.Bag
