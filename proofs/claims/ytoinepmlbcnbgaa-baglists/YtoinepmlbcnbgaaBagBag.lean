/- The rows of a map of counts ((counts).bag): a contract of the call, over the turned program. -/
import Derived.Test.YtoinepmlbcnbgaaBagMap
namespace Go.Proofs.Ytoinepmlbcnbgaa.Bag
open Go.RowKit Go.Maps Go.Proofs.Ytoinepmlbcnbgaa.Frame
set_option linter.unusedVariables false

/-- the rows' cells, in their order -/
def cellsF : List Row → List Value
  | [] => []
  | r :: b => .int .i64 r.1 :: .int .i64 r.2 :: cellsF b
theorem cellsF_length : ∀ b, (cellsF b).length = b.length * 2
  | [] => rfl
  | r :: b => by simp only [cellsF, List.length_cons, cellsF_length b]; omega
theorem cellsF_snoc : ∀ (b : List Row) (r : Row), cellsF (b ++ [r]) = cellsF b ++ [.int .i64 r.1, .int .i64 r.2]
  | [], r => rfl
  | s :: b, r => by simp only [List.cons_append, cellsF, cellsF_snoc b r]
theorem cellsF_at : ∀ (b : List Row) (i : Nat), i < b.length → (cellsF b)[i * 2]? = some (.int .i64 (b.getD i zr).1) ∧ (cellsF b)[i * 2 + 1]? = some (.int .i64 (b.getD i zr).2)
  | r :: b, 0, _ => ⟨rfl, rfl⟩
  | r :: b, i + 1, h => by
    have := cellsF_at b i (by simpa using h)
    rw [show (i + 1) * 2 = i * 2 + 1 + 1 by omega]
    simpa [cellsF] using this

/-- a bag of the call's own: in memory from 'base' on -/
def Own (w : World) (base : Nat) (a : Option Addr) (len cap : Nat) (rs : List Row) : Prop :=
  (rs.length = len ∧ Wf rs) ∧ w.ownsRow base 39 2 (.slice a len cap) len (cellsF rs)
theorem Own.bags {w : World} {base : Nat} {a : Option Addr} {len cap : Nat} {rs : List Row} (h : Own w base a len cap rs) : Bags w a len rs := by
  refine ⟨h.1, ?_⟩
  rcases h.2.2 with ⟨h1, h0⟩ | ⟨g, c, cur, hv, _⟩
  · exact .inl h0
  · simp only [Value.slice.injEq] at hv
    obtain ⟨rfl, _, rfl⟩ := hv
    refine .inr ⟨g, 0, rfl, fun i hi => ?_⟩
    obtain ⟨e0, e1⟩ := cellsF_at rs i hi
    have hil : i < len := by rw [← h.1.1]; exact hi
    rw [Nat.zero_add]
    exact ⟨(h.2.cellAt (i * 2) (by omega)).trans e0, (h.2.cellAt (i * 2 + 1) (by omega)).trans e1⟩
theorem Own.below {w w' : World} {base : Nat} {a : Option Addr} {len cap : Nat} {rs : List Row} (h : Own w base a len cap rs) (hb : Below w.heap.size w w') : Own w' base a len cap rs := by
  refine ⟨h.1, h.2.1, ?_⟩
  rcases h.2.2 with h0 | ⟨g, c, cur, hv, h1, h2, h3⟩
  · exact .inl h0
  · exact .inr ⟨g, c, cur, hv, h1, (hb.block g (Array.getElem?_eq_some_iff.1 h2).1).trans h2, h3⟩
theorem Own.mono {w : World} {base base' : Nat} {a : Option Addr} {len cap : Nat} {rs : List Row} (h : Own w base a len cap rs) (hb : base' ≤ base) : Own w base' a len cap rs := by
  refine ⟨h.1, h.2.1, ?_⟩
  rcases h.2.2 with h0 | ⟨g, c, cur, hv, h1, h2⟩
  · exact .inl h0
  · exact .inr ⟨g, c, cur, hv, by omega, h2⟩

theorem cells_two (w : World) (x y : Value) (t : TypeId) : ∀ j u, [x, y][j]? = some u → (w.alloc (.cells #[x, y] t)).cell? ((⟨w.heap.size, 0, none⟩ : Addr).add j) = some u := by
  intro j u h
  match j, h with
  | 0, h => simp at h; subst h; simp [Addr.add]
  | 1, h => simp at h; subst h; simp [Addr.add]
  | j + 2, h => simp at h
/-- what stands after k rounds -/
def BInv (w : World) (B n N gk : Nat) (ks : List Int) (c : Int → Int) (k : Nat) (wr : World) : Prop :=
  (wr.ownsRow w.heap.size 39 2 (.slice (some ⟨w.heap.size, 0, none⟩) k N) k (cellsF (rowsOf (ks.take k) c)) ∧ Mp wr B n (fun m => c m != 0) c) ∧ (∀ j, j < N → wr.cell? ⟨gk, j, none⟩ = some (.int .i64 (ks.getD j 0))) ∧ Below w.heap.size w wr

theorem BInv.next {w : World} {B n N gk : Nat} {ks : List Int} {c : Int → Int} {k : Nat} {wr w1 : World} (h : BInv w B n N gk ks c k wr) (hk : k < N) (hN : ks.length = N) (hB : B < w.heap.size) (hgk : w.heap.size < gk) (o : Obj)
    (hr : w1.ownsRow w.heap.size 39 2 (.slice (some ⟨w.heap.size, 0, none⟩) (k + 1) N) (k + 1) (cellsF (rowsOf (ks.take k) c) ++ [.int .i64 (ks.getD k 0), .int .i64 (c (ks.getD k 0))])) (hg : (wr.alloc o).grownBy w1 (some w.heap.size)) : BInv w B n N gk ks c (k + 1) w1 := by
  obtain ⟨⟨h1, h2⟩, h3, h4⟩ := h
  refine ⟨⟨?_, (h2.alloc o).kept hg (by simp; omega)⟩, fun j hj => ?_, (h4.alloc h4.size o).grown hg (by simp; have := h4.size; omega) (fun i hi => by cases hi; exact Nat.le_refl _)⟩
  · have : rowsOf (ks.take (k + 1)) c = rowsOf (ks.take k) c ++ [(ks.getD k 0, c (ks.getD k 0))] := by
      rw [List.take_succ_eq_append_getElem (by omega), getD_get 0 (by omega)]
      simp only [rowsOf, List.map_append, List.map_cons, List.map_nil]
    rw [this, cellsF_snoc]
    exact hr
  · have := h3 j hj
    have hlt := World.block_lt_of_cell? wr _ this
    exact hg.cell (a := ⟨gk, j, none⟩) ((World.cell?_of_block (w := wr) (Below.heap_alloc wr _ gk hlt)).trans this) (by simp; omega)

/-- the sorted keys, as a slice -/
theorem keys_slice (b nn : Nat) (D : DataW Unit) (w : World) (hown : w.ownsMap Try.prog 3 (plainElem Try.prog 3) b nn D) (hmax : Maps.size D ≤ 1000000) (hlen : (intKeys D).length = Maps.size D) :
    Calls Try.prog 44 #[.func (.func 49) #[] #[.pointer (some ⟨w.heap.size, 0, none⟩)]] (w.alloc (.cells #[.map (some b)] 44)) fun e w' => ∃ (a : Option Addr) (cap : Nat) (ss : List Int), e = .returned (.slice a (Maps.size D) cap) ∧
      Hid ((ss.Perm (intKeys D) ∧ ss.length = Maps.size D) ∧ (Maps.size D = 0 ∨ ∃ g, a = some ⟨g, 0, none⟩ ∧ w.heap.size ≤ g ∧ ∀ j, j < Maps.size D → w'.cell? ⟨g, j, none⟩ = some (.int .i64 ((ss.mergeSort fun x y => decide (x ≤ y)).getD j 0)))) ∧ Below w.heap.size w w' := by
  refine (sorted_call b nn D _ w hown hmax).mono ?_
  rintro e w' ⟨v, ss, rfl, hp, hrow, hb⟩
  have hl : ss.length = Maps.size D := by rw [hp.length_eq, hlen]
  rw [hl] at hrow
  rcases hrow.2 with ⟨rfl, h0⟩ | ⟨g, cap, cur, rfl, hbase, _⟩
  · exact ⟨none, 0, ss, by rw [h0], ⟨⟨hp, hl⟩, .inl h0⟩, hb⟩
  · refine ⟨some ⟨g, 0, none⟩, cap, ss, rfl, ⟨⟨hp, hl⟩, .inr ⟨g, rfl, hbase, fun j hj => ?_⟩⟩, hb⟩
    rw [hrow.cellAt j (by omega), List.getElem?_map, getD_get 0 (by simp; omega), List.getElem?_eq_getElem (by simp; omega)]
    rfl

set_option maxHeartbeats 1000000 in
theorem bag_any (B n : Nat) (c : Int → Int) (w : World) (h : Cnts w B n c) (hn : n ≤ 1000000) (hc : ∀ m, c m ≠ 0 → 0 ≤ m ∧ 1 ≤ c m ∧ c m ≤ 1048576) :
    Calls Try.prog 36 #[.map (some B)] w fun e w' => ∃ a len cap rs, e = .returned (.slice a len cap) ∧ (Has c rs ∧ len ≤ n) ∧ Own w' w.heap.size a len cap rs ∧ Below w.heap.size w w' := by
  obtain ⟨i0, hi, hz0, hz1, hz2⟩ := info_parts infoRow
  obtain ⟨D, hD, hs, hkl, hnd, hmem⟩ := keys_known h
  have hBl := h.lt
  have HM : Hid (Cnts w B n c) := h
  have HC : Hid (∀ m, c m ≠ 0 → 0 ≤ m ∧ 1 ≤ c m ∧ c m ≤ 1048576) := hc
  have HK : Hid ((intKeys D).length = Maps.size D ∧ (intKeys D).Nodup ∧ ∀ m, m ∈ intKeys D ↔ (c m != 0) = true) := ⟨hkl, hnd, hmem⟩
  have hml : (1000000 : Nat) ≤ maxLen := by decide
  clear h hc hkl hnd hmem
  go_enter Try.func36, Try.ntmps36
  go_wp2_with (first
    | (at_len; refine wpList_len_own _ rfl _ 44 rfl 3 3 Try.underlying44 _ B n D rfl hD ?_)
    | (at_make; refine wpList_make_own _ rfl _ _ 23 rfl w.heap.size 39 i0 (.agg #[.int .i64 0, .int .i64 0]) 2 Try.underlying23 hi hz0 hz1 _ _ _ (Maps.size D) rfl rfl rfl (by rw [hz2]; omega) (by omega) (Nat.le_refl _) ?_; intro w1 hrow1 hg1)
    | (go_at_call 45; refine (keys_call B w1).mono ?_; rintro e w2 ⟨he, hw2⟩; subst he; subst hw2)
    | (go_at_call 44; refine (keys_slice B n D w1 (hD.kept hg1 (by simp)) (by omega) HK.out.1).mono ?_; rintro e w3 ⟨ak, capk, ss, he, HS, hb3⟩; subst he)
    | go_in)
  obtain ⟨N, hN⟩ : ∃ N, N = Maps.size D := ⟨_, rfl⟩
  obtain ⟨ks, hks⟩ : ∃ ks, ks = ss.mergeSort fun x y => decide (x ≤ y) := ⟨_, rfl⟩
  have hg : w.heap.size < w1.heap.size := (hrow1.lt w.heap.size rfl).2
  have B1 : Below w.heap.size w w3 := ((Below.refl _ _).grown hg1 (Nat.le_refl _) (fun j hj => by cases hj)).trans (hb3.mono (by omega))
  have G1 : w3.heap[w.heap.size]? = w1.heap[w.heap.size]? := hb3.block _ hg
  have KL : Hid (ks.length = N) := (show ks.length = N by have := HS.out.1.2; rw [hks, hN]; simpa using this)
  have HAS : Hid (Has c (rowsOf ks c)) := by
    rw [hks]
    exact (rowsOf_has (sort_rises (HS.out.1.1.nodup_iff.2 HK.out.2.1)) (fun m => by rw [List.mem_mergeSort, HS.out.1.1.mem_iff, HK.out.2.2]; simp) HC.out : _)
  have KA : Hid (N = 0 ∨ ∃ g, ak = some ⟨g, 0, none⟩ ∧ w.heap.size < g ∧ ∀ j, j < N → w3.cell? ⟨g, j, none⟩ = some (.int .i64 (ks.getD j 0))) := by
    rw [hks, hN]
    rcases HS.out.2 with h0 | ⟨g, h1, h2, h3⟩
    · exact .inl h0
    · exact .inr ⟨g, h1, by omega, h3⟩
  have NN : N ≤ n := by omega
  have INV0 : ∃ gk, w.heap.size < gk ∧ (0 < N → ak = some ⟨gk, 0, none⟩) ∧ BInv w B n N gk ks c 0 w3 := by
    have hr : w3.ownsRow w.heap.size 39 2 (.slice (some ⟨w.heap.size, 0, none⟩) 0 N) 0 (cellsF (rowsOf (ks.take 0) c)) := by
      rw [← hN] at hrow1
      refine ⟨rfl, ?_⟩
      rcases hrow1.2 with ⟨h0, _⟩ | ⟨g, cp, cur, hv, h1, h2, h3⟩
      · cases h0
      · simp only [Value.slice.injEq, Option.some.injEq, Addr.mk.injEq] at hv
        exact .inr ⟨g, cp, cur, by simp [hv], h1, by rw [← hv.1.1] at h2 ⊢; rw [G1]; exact h2, h3⟩
    have hm : Mp w3 B n (fun m => c m != 0) c := Mp.below (HM.out) B1
    rcases KA.out with h0 | ⟨g, h1, h2, h3⟩
    · exact ⟨w.heap.size + 1, by omega, fun h => by omega, ⟨hr, hm⟩, fun j hj => by omega, B1⟩
    · exact ⟨g, h2, fun _ => h1, ⟨hr, hm⟩, h3, B1⟩
  obtain ⟨gk, hgk, hak, inv⟩ := INV0
  have HAK : Hid (0 < N → ak = some ⟨gk, 0, none⟩) := hak
  have INV : Hid (BInv w B n N gk ks c 0 w3) := inv
  rw [← hN]
  have KW : Hid (∀ j, j < N → In64 (ks.getD j 0)) := fun j hj => by
    have := HM.out.2
    by_cases hi : In64 (ks.getD j 0)
    · exact hi
    · have h1 := (this _ hi).2
      have h2 : ks.getD j 0 ∈ ks := by rw [getD_get 0 (by rw [KL.out]; exact hj)]; exact List.getElem_mem _
      have h3 := HAS.out.1.2 (ks.getD j 0, c (ks.getD j 0)) (List.mem_map.2 ⟨_, h2, rfl⟩)
      simp only at h3
      omega
  have hN6 : N ≤ 1000000 := by omega
  clear HS hks hak inv hN G1 B1 KA hrow1 hg1 hb3 hD hs HK HC
  go_wp2
  go_loopw [3, 13] (fun v i wr => ∃ k : Nat, k ≤ N ∧ i = .int .i64 k ∧ v = .slice (some ⟨w.heap.size, 0, none⟩) k N ∧ BInv w B n N gk ks c k wr) (fun _ i _ => N - (intOf i).toNat)
  case atStart => exact ⟨0, by omega, rfl, rfl, INV.out⟩
  case round =>
    obtain ⟨k, hk, rfl, rfl, hI⟩ := hrel
    have HI : Hid (BInv w B n N gk ks c k wr) := hI
    clear hI INV
    by_cases hlt : k < N
    · have hlt' : (k : Int) < N := by omega
      have ha := HAK.out (by omega)
      subst ha
      have c0 := HI.out.2.1 k hlt
      have hbl := World.block_lt_of_cell? wr _ c0
      have hin := KW.out k hlt
      have IN : Hid (In64 (ks.getD k 0)) := hin
      clear hin
      obtain ⟨m, hm⟩ : ∃ m, m = ks.getD k 0 := ⟨_, rfl⟩
      have EM : Hid (m = ks.getD k 0) := hm
      rw [← hm] at c0 IN
      clear hm
      have hws := HI.out.2.2.size
      go_wp2_with (first
        | (at_lookup; refine wp_look _ rfl _ _ rfl B n _ c rfl HI.out.1.2 m rfl IN.out ?_)
        | (at_builtin; refine wpList_append_fits _ rfl _ _ 23 rfl w.heap.size 39 i0 2 Try.underlying23 hi hz1 w.heap.size k N _ rfl (HI.out.1.1.alloc _) ⟨wr.heap.size, 0, none⟩ 1 1 [.int .i64 m, .int .i64 (c m)] rfl rfl (cells_two _ _ _ _) (by simp [Value.oneCell']) (by omega) ?_; intro w4 hown4 hg4)
        | go_in)
      have NX := HI.out.next hlt KL.out hBl hgk _ (by rw [← EM.out]; exact hown4) hg4
      go_roundw
      case rel => exact ⟨k + 1, by omega, by go_num, rfl, NX⟩
      case measure => simp [intOf]; omega
    · obtain rfl : k = N := by omega
      have R : Hid (rowsOf (ks.take k) c = rowsOf ks c) := by rw [List.take_of_length_le (by rw [KL.out]; omega)]; exact (rfl : rowsOf ks c = _)
      go_wp2
      go_ret
      refine ⟨_, k, k, rowsOf ks c, rfl, ⟨HAS.out, NN⟩, ⟨⟨by unfold rowsOf; rw [List.length_map]; exact KL.out, fun i hi => ?_⟩, ?_⟩, HI.out.2.2⟩
      · have hik : i < k := by unfold rowsOf at hi; rw [List.length_map, KL.out] at hi; exact hi
        have e : (rowsOf ks c).getD i zr = (ks.getD i 0, c (ks.getD i 0)) := by
          unfold rowsOf at hi ⊢
          rw [getD_get zr hi, List.getElem_map, getD_get 0 (by rw [KL.out]; exact hik)]
        have h3 := HAS.out.1.2 _ (getD_mem hi)
        rw [e] at h3 ⊢
        simp only at h3
        exact ⟨KW.out i hik, by unfold In64; simp only; omega⟩
      · rw [← R.out]; exact HI.out.1.1
end Go.Proofs.Ytoinepmlbcnbgaa.Bag
