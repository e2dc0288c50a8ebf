/- Number, Text of what is no member, and the colours of the small case: contracts of the calls, over the turned program. -/
import Derived.Test.YtlcbpkdggppkaaaDoorColWrite2
namespace Go.Proofs.YtlcbpkdggppkaaaDoor.Colour
open Go.RowKit Go.Proofs.YtlcbpkdggppkaaaDoor.Frame Go.Deep
set_option linter.unusedVariables false

set_option maxHeartbeats 1000000 in
theorem text_none (a : Option Addr) (len cap : Nat) (cs : List Col) (ns : List Int) (k : Nat) (m : Int) (w : World) (hC : Cols w a len cs) (hs : sizesF cs = some ns) (hk : k < len) (hm : withinB m (ns.getD k 0) = false) :
    Calls Tryd.prog 12 #[.slice a len cap, .int .i64 k, .int .i64 m] w fun e w' => e = .returned (.string ⟨#[63]⟩) ∧ Below w.heap.size w w' := by
  have HC : Hid (Cols w a len cs) := hC
  have H : Hid (sizesF cs = some ns) := hs
  have K : Hid (withinB k len = true) := withinB_nat hk
  obtain ⟨z, hz⟩ : ∃ z, z = ns.getD k 0 := ⟨_, rfl⟩
  have M : Hid (withinB m z = false) := by rw [hz]; exact hm
  have HZ : Hid (z = ns.getD k 0) := hz
  have hk' : (k : Int) < len := by omega
  clear hC hs hz hm
  go_enter Tryd.func12, Tryd.ntmps12
  go_wp2_with (first
    | (go_at_call 14; refine (sizes_yes _ _ _ cs ns _ HC.out H.out).mono ?_; rintro e w1 ⟨g, he, hg, hb⟩; subst he; have hcg := hg.2 k hk; rw [← HZ.out] at hcg; clear hg)
    | (go_at_call 15; refine (within_any _ _ _).mono ?_; rintro e w' ⟨he, hw⟩; subst he; have hw := hw.symm; subst hw; first | rw [K.out] | rw [M.out]))
  go_ret
  exact ⟨rfl, hb⟩

set_option maxRecDepth 100000 in
set_option maxHeartbeats 1000000 in
theorem number_in (a : Option Addr) (len cap : Nat) (cs : List Col) (k : Nat) (m x : Int) (w : World) (hC : Cols w a len cs) (hk : k < len) (hm : withinB m (sizeF cs k) = true) (hx : baseF (cs.getD k nilCol) + m = x) (x1 : -9223372036854775808 ≤ x) (x2 : x ≤ 9223372036854775807) :
    Calls Tryd.prog 11 #[.slice a len cap, .int .i64 k, .int .i64 m] w fun e w' => e = .returned (.tuple #[.int .i64 x, .bool true]) ∧ Below w.heap.size w w' := by
  have HC : Hid (Cols w a len cs) := hC
  have M : Hid (withinB m (sizeF cs k) = true) := hm
  obtain ⟨bb, off, rfl, hbl, hcol⟩ := hC.at hk
  generalize hcg : cs.getD k nilCol = c at *
  obtain ⟨⟨c0, c1, c2, c3, c4, c5, c6⟩, _, _⟩ := hcol
  have hk' : (k : Int) < len := by omega
  have hxx : wrap64 (baseF c + m) = x := by rw [hx]; unfold wrap64; omega
  clear hC hm hcg hx
  go_enter Tryd.func11, Tryd.ntmps11
  go_wp2_with (first
    | (go_at_call 7; refine (size_any _ _ _ cs _ _ HC.out).mono ?_; rintro e w1 ⟨he, hb⟩; subst he; have hcell := fun o => hb.cell (p := ⟨bb, o, none⟩) hbl)
    | (go_at_call 15; refine (within_any _ _ _).mono ?_; rintro e w' ⟨he, hw⟩; subst he; have hw := hw.symm; subst hw; rw [M.out])
    | (go_at_call 18; refine (base_any c _).mono ?_; rintro e w2 ⟨he, hb2⟩; subst he))
  go_ret2
  exact ⟨ret2b hxx, then_ hb hb2⟩

theorem mk_data (s : ByteArray) : (⟨s.data.toList.toArray⟩ : ByteArray) = s := rfl
theorem sortF_perm (zs : List ByteArray) : (sortF zs).Perm zs := by
  unfold sortF
  have h := ((zs.map fun s => s.data.toList).mergeSort_perm fun x y => decide (x ≤ y)).map fun l => (⟨l.toArray⟩ : ByteArray)
  rw [List.map_map] at h
  have e : (zs.map ((fun l => (⟨l.toArray⟩ : ByteArray)) ∘ fun s => s.data.toList)) = zs := by
    exact (List.map_congr_left (g := id) fun s _ => rfl).trans (List.map_id zs)
  rwa [e] at h
theorem adjB_nodup {zs : List ByteArray} (h : zs.Nodup) : adjB (sortF zs) = true := by
  have hn : (sortF zs).Nodup := (sortF_perm zs).nodup_iff.2 h
  unfold adjB
  rw [List.all_eq_true]
  intro i hi
  have hi' : i + 1 < (sortF zs).length := by simp at hi; omega
  rw [Bool.not_eq_true', beq_eq_false_iff_ne]
  intro he
  rw [ByteArray.toList_eq, ByteArray.toList_eq] at he
  have e : (sortF zs).getD (i + 1) ByteArray.empty = (sortF zs).getD i ByteArray.empty := by
    rw [← mk_data ((sortF zs).getD (i + 1) ByteArray.empty), he]
  rw [List.getD_eq_getElem?_getD, List.getD_eq_getElem?_getD, List.getElem?_eq_getElem hi', List.getElem?_eq_getElem (by omega)] at e
  exact absurd e.symm (List.pairwise_iff_getElem.1 hn i (i + 1) (by omega) hi' (by omega))
theorem allB_nodup {zs : List ByteArray} (h : zs.all nameB = true) (hn : zs.Nodup) : allB zs = true := by unfold allB; rw [h, adjB_nodup hn]; rfl

/-- the small case's colours; their names lie in the block G -/
def someCols (G : Nat) : List Col :=
  [⟨⟨#[110]⟩, 1, 3, 5, [], none, 0, 0, 0⟩, ⟨⟨#[99]⟩, 2, 0, 0, [⟨#[114, 101, 100]⟩, ⟨#[98, 108, 117, 101]⟩], some ⟨G, 0, none⟩, 2, 0, 0⟩, ⟨⟨#[112]⟩, 3, 0, 0, [], none, 0, 0, 1⟩, ⟨⟨#[113]⟩, 3, 0, 0, [], none, 0, 2, 2⟩]
theorem some_sizes (G : Nat) : sizesF (someCols G) = some [3, 2, 6, 36] := by
  have h1 : allB [⟨#[110]⟩, ⟨#[99]⟩, ⟨#[112]⟩, ⟨#[113]⟩] = true := allB_nodup (by decide +kernel) (by decide)
  have h2 : allB [⟨#[114, 101, 100]⟩, ⟨#[98, 108, 117, 101]⟩] = true := allB_nodup (by decide +kernel) (by decide)
  have hg : goSizes (someCols G) [] = some [3, 2, 6, 36] := by
    simp [goSizes, someCols, sizeOfF, intSizeF, h2, withinB]
  exact sizesF_good (by simp [someCols]) hg h1

set_option maxHeartbeats 1000000 in
theorem some_any (w : World) :
    Calls Tryd.prog 9 #[] w fun e w' => ∃ g G, e = .returned (.slice (some ⟨g, 0, none⟩) 4 4) ∧ Cols w' (some ⟨g, 0, none⟩) 4 (someCols G) ∧ Below w.heap.size w w' := by
  go_enter Tryd.func9, Tryd.ntmps9
  go_wp2
  go_ret
  refine ⟨w.heap.size + 1, w.heap.size, rfl, ⟨rfl, .inr ⟨_, 0, rfl, fun i hi => ?_⟩⟩, ((Below.refl _ _).alloc (Nat.le_refl _) _).alloc (by simp) _⟩
  have hi' : i = 0 ∨ i = 1 ∨ i = 2 ∨ i = 3 := by omega
  rcases hi' with rfl | rfl | rfl | rfl
  all_goals refine ⟨⟨?_, ?_, ?_, ?_, ?_, ?_, ?_⟩, ?_, ?_⟩
  all_goals first
    | (simp [go_sem, someCols, nilCol]; done)
    | (unfold Ints64; simp [someCols]; done)
    | (exact (⟨rfl, .inl rfl⟩ : Strs _ _ 0 []))
    | (show Strs _ _ 2 _
       refine ⟨rfl, .inr ⟨_, 0, rfl, fun j hj => ?_⟩⟩
       have hj' : j = 0 ∨ j = 1 := by
         have : j < 2 := hj
         omega
       rcases hj' with rfl | rfl
       all_goals simp [go_sem, someCols, nilCol])
end Go.Proofs.YtlcbpkdggppkaaaDoor.Colour
