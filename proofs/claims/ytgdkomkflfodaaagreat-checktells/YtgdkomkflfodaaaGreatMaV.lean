/- Contracts and plain mathematics, together: ChkCol, ChkWro. -/
import Derived.Test.YtgdkomkflfodaaaGreatMaL
import Derived.Test.YtgdkomkflfodaaaGreatMaM
import Derived.Test.YtgdkomkflfodaaaGreatMaB
/- Which colour is the first that is wrong: contracts of the calls, over the turned program. -/
namespace Go.Proofs.YtgdkomkflfodaaaGreat.Check
open Go.RowKit Go.Proofs.YtgdkomkflfodaaaGreat.Frame Go.Proofs.YtgdkomkflfodaaaGreat.Colour Go.Proofs.YtgdkomkflfodaaaGreat.Expr
set_option linter.unusedVariables false
set_option linter.unusedSimpArgs false

/-- a closure of a number that tells yes or no -/
def AskI (w : World) (v : Value) (n : Nat) (f : Nat → Bool) : Prop := ∃ K caps, v = .func (.func K) #[] caps ∧ Goes K ∧ ∀ W, Below w.heap.size w W → ∀ i : Nat, i < n → Calls Tryz.prog K (#[.int .i64 (i : Int)] ++ caps) W fun en W' => en = .returned (.bool (f i)) ∧ Below W.heap.size W W'
theorem AskI.below {w w' : World} {v : Value} {n : Nat} {f : Nat → Bool} (h : AskI w v n f) (hb : Below w.heap.size w w') : AskI w' v n f := by
  obtain ⟨K, caps, hv, hg, h⟩ := h
  exact ⟨K, caps, hv, hg, fun W hW => h W (then_ hb hW)⟩
/-- the first place at which f holds -/
def FirstAt (n : Nat) (f : Nat → Bool) (r : Nat) : Prop := r ≤ n ∧ (∀ j, j < r → f j = false) ∧ (r < n → f r = true)
theorem FirstAt.uniq {n r s : Nat} {f : Nat → Bool} (h : FirstAt n f r) (k : FirstAt n f s) : r = s := by
  rcases Nat.lt_trichotomy r s with g | g | g
  · have h1 := h.2.2 (by have := k.1; omega)
    rw [k.2.1 r g] at h1; cases h1
  · exact g
  · have h1 := k.2.2 (by have := h.1; omega)
    rw [h.2.1 s g] at h1; cases h1
def SearchPost (n : Nat) (f : Nat → Bool) (w : World) (e : Ending) (w' : World) : Prop := ∃ r : Nat, e = .returned (.int .i64 (r : Int)) ∧ FirstAt n f r ∧ Below w.heap.size w w'
set_option maxHeartbeats 1000000 in
theorem search_any (n : Nat) (v : Value) (f : Nat → Bool) (w : World) (hn : n ≤ 1000000) (hA : AskI w v n f) (hm : ∀ i j, i ≤ j → j < n → f i = true → f j = true) :
    Calls Tryz.prog 69 #[.int .i64 (n : Int), v] w (SearchPost n f w) := by
  obtain ⟨K, caps, hv, hG, hA⟩ := hA
  subst hv
  have H0 : Hid (∀ W, Below w.heap.size w W → ∀ i : Nat, i < n → Calls Tryz.prog K (#[.int .i64 (i : Int)] ++ caps) W fun en W' => en = .returned (.bool (f i)) ∧ Below W.heap.size W W') := hA
  have HM : Hid (∀ i j, i ≤ j → j < n → f i = true → f j = true) := hm
  unfold Goes at hG
  clear hA hm
  go_enter Tryz.func69, Tryz.ntmps69
  go_wp2_with fail
  go_loopw [5, 6] (fun v u wr => ∃ i j : Nat, v = .int .i64 (i : Int) ∧ u = .int .i64 (j : Int) ∧ i ≤ j ∧ j ≤ n ∧ Hid (Below w.heap.size w wr ∧ (∀ k, k < i → f k = false) ∧ ∀ k, j ≤ k → k < n → f k = true)) (fun v u _ => match v, u with | .int _ y, .int _ z => z.toNat - y.toNat | _, _ => 0)
  case atStart => exact ⟨0, n, rfl, rfl, by omega, by omega, ⟨Below.refl _ _, fun j hj => absurd hj (Nat.not_lt_zero _), fun k h1 h2 => by omega⟩⟩
  case round =>
    obtain ⟨i, j, rfl, rfl, hij, hj, HI⟩ := hrel
    by_cases hlt : i < j
    · have hlt' : (i : Int) < j := by omega
      obtain ⟨m, hm⟩ : ∃ m : Nat, m = (i + j) / 2 := ⟨_, rfl⟩
      have hm1 : i ≤ m ∧ m < j := by omega
      have CL : Hid (Calls Tryz.prog K (#[.int .i64 (m : Int)] ++ caps) wr fun en W' => en = .returned (.bool (f m)) ∧ Below wr.heap.size wr W') := H0.out wr HI.out.1 m (by omega)
      have em : ((i : Int) + (j : Int)) / 2 = (m : Int) := by omega
      have HMM : Hid (m = (i + j) / 2) := hm
      clear hm
      go_wp2_with fail
      refine CL.out.mono ?_
      rintro en w1 ⟨he, hb⟩
      subst he
      have B1 : Hid (Below w.heap.size w w1) := then_ HI.out.1 hb
      clear hb em CL
      cases hf : f m with
      | true =>
        have NX : Hid (Below w.heap.size w w1 ∧ (∀ k, k < i → f k = false) ∧ ∀ k, m ≤ k → k < n → f k = true) := ⟨B1.out, HI.out.2.1, fun k h1 h2 => HM.out m k h1 h2 hf⟩
        go_wp2_with fail
        go_roundw
        case rel => exact ⟨i, m, by simp, by simp, by omega, by omega, NX⟩
        case measure => simp; omega
      | false =>
        have NX : Hid (Below w.heap.size w w1 ∧ (∀ k, k < m + 1 → f k = false) ∧ ∀ k, j ≤ k → k < n → f k = true) := ⟨B1.out, (fun k hk => by
          cases hk2 : f k with
          | false => rfl
          | true => rw [HM.out k m (by omega) (by omega) hk2] at hf; cases hf), HI.out.2.2⟩
        go_wp2_with fail
        go_roundw
        case rel => exact ⟨m + 1, j, by simp, by simp, by omega, by omega, NX⟩
        case measure => simp; omega
    · have hlt' : ¬ (i : Int) < j := by omega
      have F : Hid (FirstAt n f i) := ⟨by omega, HI.out.2.1, fun h => HI.out.2.2 i (by omega) h⟩
      go_wp2_with fail
      go_ret
      exact ⟨i, rfl, F.out, HI.out.1⟩

/- free names of a colour's members -/
theorem notfree_any (s : ByteArray) (w : World) : Calls Tryz.prog 73 #[.string s] w fun e w' => e = .returned (.bool (!freeB s)) ∧ w' = w := by
  go_enter Tryz.func73, Tryz.ntmps73
  go_wp2_with (go_at_call 71; refine (free_any _ _).mono ?_; rintro e w' ⟨he, hw⟩; subst he; have hw := hw.symm; subst hw)
  go_ret
  exact ⟨rfl, rfl⟩
def anyF (l : List ByteArray) : Bool := l.any fun s => !freeB s
def IdxPost (l : List ByteArray) (w : World) (e : Ending) (w' : World) : Prop := ∃ z : Int, e = .returned (.int .i64 z) ∧ decide (0 ≤ z) = anyF l ∧ w' = w
set_option maxHeartbeats 1000000 in
theorem indexFunc_any (a : Option Addr) (cap : Nat) (l : List ByteArray) (w : World) (h : Strs w a l.length l) (hm : l.length ≤ 1000000) :
    Calls Tryz.prog 114 #[.slice a l.length cap, .func (.func 73) #[] #[]] w (IdxPost l w) := by
  have H0 : Hid (Strs w a l.length l) := h
  clear h
  go_enter Tryz.func114, Tryz.ntmps114
  go_wp2_with fail
  go_loopw [8] (fun v wr => ∃ i : Nat, v = .int .i64 (i : Int) ∧ i ≤ l.length ∧ Hid (wr = w ∧ ∀ j, j < i → freeB (l.getD j ByteArray.empty) = true)) (fun v _ => match v with | .int _ z => l.length - z.toNat | _ => 0)
  case atStart => exact ⟨0, rfl, by omega, ⟨rfl, fun j hj => absurd hj (Nat.not_lt_zero _)⟩⟩
  case round =>
    obtain ⟨i, rfl, hi, HI⟩ := hrel
    have hwr := HI.out.1
    subst hwr
    by_cases hlt : i < l.length
    · have hlt' : (i : Int) < l.length := by omega
      obtain ⟨b, off, ha, hc⟩ : ∃ b off, a = some ⟨b, off, none⟩ ∧ wr.cell? ⟨b, off + i, none⟩ = some (.string (l.getD i ByteArray.empty)) := by
        rcases H0.out.2 with g | ⟨b, off, ha, g⟩
        · omega
        · exact ⟨b, off, ha, g i hlt⟩
      subst ha
      obtain ⟨s, hs⟩ : ∃ s, s = l.getD i ByteArray.empty := ⟨_, rfl⟩
      rw [← hs] at hc
      have HS : Hid (s = l.getD i ByteArray.empty) := hs
      have CL : Hid (Calls Tryz.prog 73 #[.string s] wr fun e w' => e = .returned (.bool (!freeB s)) ∧ w' = wr) := notfree_any s wr
      clear hs
      cases hb : freeB s with
      | false =>
        rw [hb] at CL
        have R : Hid (anyF l = true) := by
          unfold anyF
          rw [List.any_eq_true]
          refine ⟨s, ?_, by rw [hb]; rfl⟩
          rw [HS.out, List.getD_eq_getElem?_getD, List.getElem?_eq_getElem hlt]
          exact List.getElem_mem hlt
        clear hb
        go_wp2_with fail
        refine CL.out.mono ?_
        rintro e w1 ⟨he, hw⟩
        subst he
        subst hw
        go_wp2_with fail
        go_ret
        exact ⟨_, rfl, by rw [R.out]; exact decide_eq_true (by omega), rfl⟩
      | true =>
        rw [hb] at CL
        have NX : Hid (∀ j, j < i + 1 → freeB (l.getD j ByteArray.empty) = true) := fun j hj => by
          rcases Nat.lt_succ_iff_lt_or_eq.1 hj with h | h
          · exact HI.out.2 j h
          · rw [h, ← HS.out]; exact hb
        clear hb
        go_wp2_with fail
        refine CL.out.mono ?_
        rintro e w1 ⟨he, hw⟩
        subst he
        subst hw
        go_wp2_with fail
        go_roundw
        case rel => exact ⟨i + 1, by simp, by omega, ⟨trivial, NX.out⟩⟩
        case measure => simp; omega
    · have hlt' : ¬ (i : Int) < l.length := by omega
      have R : Hid (anyF l = false) := by
        unfold anyF
        rw [List.any_eq_false]
        intro s hs
        obtain ⟨j, hj, rfl⟩ := List.getElem_of_mem hs
        have := HI.out.2 j (by omega)
        rw [List.getD_eq_getElem?_getD, List.getElem?_eq_getElem hj] at this
        have this : freeB l[j] = true := this
        rw [this]; simp
      go_wp2_with fail
      go_ret
      exact ⟨_, rfl, by rw [R.out]; rfl, rfl⟩
theorem containsFunc_any (a : Option Addr) (cap : Nat) (l : List ByteArray) (w : World) (h : Strs w a l.length l) (hm : l.length ≤ 1000000) :
    Calls Tryz.prog 72 #[.slice a l.length cap, .func (.func 73) #[] #[]] w fun e w' => e = .returned (.bool (anyF l)) ∧ w' = w := by
  have I1 : Hid (Calls Tryz.prog 114 #[.slice a l.length cap, .func (.func 73) #[] #[]] w (IdxPost l w)) := indexFunc_any a cap l w h hm
  clear h
  go_enter Tryz.func72, Tryz.ntmps72
  go_wp2_with fail
  refine I1.out.mono ?_
  rintro e w1 ⟨z, he, hz, hw⟩
  subst he
  subst hw
  have HZ : Hid (decide (0 ≤ z) = anyF l) := hz
  clear hz
  go_wp2_with fail
  go_ret
  exact ⟨by rw [← HZ.out]; rfl, rfl⟩
end Go.Proofs.YtgdkomkflfodaaaGreat.Check
/- The first colour that is wrong: a contract of the call, over the turned program. -/
namespace Go.Proofs.YtgdkomkflfodaaaGreat.Check
open Go.RowKit Go.Proofs.YtgdkomkflfodaaaGreat.Frame Go.Proofs.YtgdkomkflfodaaaGreat.Colour Go.Proofs.YtgdkomkflfodaaaGreat.Expr
set_option linter.unusedVariables false
set_option linter.unusedSimpArgs false

/-- are the colours up to k wrong together? -/
def cutB (cs : List Col) (k : Nat) : Bool := !(sizesF (cs.take (k + 1))).isSome
theorem goSizes_take : ∀ (l : List Col) (acc : List Int) (k : Nat), (goSizes l acc).isSome = true → (goSizes (l.take k) acc).isSome = true
  | [], acc, k, h => by simpa using h
  | c :: r, acc, 0, h => rfl
  | c :: r, acc, k + 1, h => by
    rw [List.take_succ_cons]
    unfold goSizes at h ⊢
    split at h
    · cases h
    · rename_i hb
      rw [if_neg hb]
      exact goSizes_take r _ k h
theorem mk_data (s : ByteArray) : (⟨s.data.toList.toArray⟩ : ByteArray) = s := rfl
theorem sortF_perm (zs : List ByteArray) : (sortF zs).Perm zs := by
  unfold sortF
  have h := ((zs.map fun s => s.data.toList).mergeSort_perm fun x y => decide (x ≤ y)).map fun l => (⟨l.toArray⟩ : ByteArray)
  rw [List.map_map] at h
  have e : (zs.map ((fun l => (⟨l.toArray⟩ : ByteArray)) ∘ fun s => s.data.toList)) = zs := by
    exact (List.map_congr_left (g := id) fun s _ => rfl).trans (List.map_id zs)
  rwa [e] at h
theorem adjB_nodup' {zs : List ByteArray} (h : zs.Nodup) : adjB (sortF zs) = true := by
  have hn : (sortF zs).Nodup := (sortF_perm zs).nodup_iff.2 h
  unfold adjB
  rw [List.all_eq_true]
  intro i hi
  have hi' : i + 1 < (sortF zs).length := by simp at hi; omega
  rw [Bool.not_eq_true', beq_eq_false_iff_ne]
  intro he
  rw [ByteArray.toList_eq, ByteArray.toList_eq] at he
  have e : (sortF zs).getD (i + 1) ByteArray.empty = (sortF zs).getD i ByteArray.empty := by
    rw [← mk_data ((sortF zs).getD (i + 1) ByteArray.empty), he]
  rw [List.getD_eq_getElem?_getD, List.getD_eq_getElem?_getD, List.getElem?_eq_getElem hi', List.getElem?_eq_getElem (by omega)] at e
  exact absurd e.symm (List.pairwise_iff_getElem.1 hn i (i + 1) (by omega) hi' (by omega))
theorem allB_nodup' {zs : List ByteArray} (h : zs.all nameB = true) (hn : zs.Nodup) : allB zs = true := by unfold allB; rw [h, adjB_nodup' hn]; rfl
theorem sorted_nodup {L : List (List UInt8)} (hs : L.Pairwise fun x y => x ≤ y) (ha : ∀ i (h : i + 1 < L.length), L[i + 1] ≠ L[i]) : L.Nodup := by
  rw [List.Nodup, List.pairwise_iff_getElem]
  intro i j hi hj hij e
  have h1 : L[i] ≤ L[i + 1] := List.pairwise_iff_getElem.1 hs i (i + 1) hi (by omega) (by omega)
  have h2 : L[i + 1] ≤ L[i] := by
    by_cases hh : i + 1 = j
    · subst hh; rw [e]; exact Std.le_refl _
    · have := List.pairwise_iff_getElem.1 hs (i + 1) j (by omega) hj (by omega)
      rwa [← e] at this
  exact ha i (by omega) (Std.le_antisymm h2 h1)
theorem adjB_mk {L : List (List UInt8)} (h : adjB (L.map fun l => (⟨l.toArray⟩ : ByteArray)) = true) : ∀ i (h : i + 1 < L.length), L[i + 1] ≠ L[i] := fun i hi e => by
  unfold adjB at h
  rw [List.all_eq_true] at h
  have := h i (by simp; omega)
  rw [Bool.not_eq_true', beq_eq_false_iff_ne] at this
  apply this
  rw [List.getD_eq_getElem?_getD, List.getD_eq_getElem?_getD, List.getElem?_map, List.getElem?_map, List.getElem?_eq_getElem hi, List.getElem?_eq_getElem (by omega), e]
theorem nodup_of_adjB {zs : List ByteArray} (h : adjB (sortF zs) = true) : zs.Nodup := by
  refine (sortF_perm zs).nodup_iff.1 ?_
  have hs : ((zs.map fun s => s.data.toList).mergeSort fun x y => decide (x ≤ y)).Pairwise fun x y => x ≤ y := by
    have := List.pairwise_mergeSort (le := fun (x y : List UInt8) => decide (x ≤ y)) (fun a b c h1 h2 => by simp at h1 h2 ⊢; exact Std.le_trans h1 h2) (fun a b => by have := Std.le_total (a := a) (b := b); simpa using this) (zs.map fun s => s.data.toList)
    exact this.imp fun h => by simpa using h
  unfold sortF at h ⊢
  have hn := sorted_nodup hs (adjB_mk h)
  exact List.Pairwise.map _ (fun a b hab e => hab (by injection e with e; simpa using e)) hn
theorem sizesF_take {cs : List Col} (k : Nat) (h : (sizesF cs).isSome = true) : (sizesF (cs.take k)).isSome = true := by
  unfold sizesF at h ⊢
  split at h
  · cases h
  · rename_i hl
    rw [if_neg (by rw [List.length_take]; omega)]
    have h2 : (goSizes cs []).isSome = true := by
      cases hg : goSizes cs [] with
      | none => rw [hg] at h; cases h
      | some ns => rfl
    have h3 := goSizes_take cs [] k h2
    obtain ⟨ns, hns⟩ := Option.isSome_iff_exists.1 h2
    obtain ⟨ms, hms⟩ := Option.isSome_iff_exists.1 h3
    rw [hns] at h
    rw [hms]
    dsimp only at h ⊢
    split at h
    · rename_i ha
      have hb : allB ((cs.take k).map (·.name)) = true := by
        unfold allB at ha
        rw [Bool.and_eq_true] at ha
        have hn := nodup_of_adjB ha.2
        refine allB_nodup' ?_ ?_
        · rw [List.all_eq_true] at ha ⊢
          intro x hx
          rw [List.map_take] at hx
          exact ha.1 x (List.mem_of_mem_take hx)
        · rw [List.map_take]; exact hn.sublist (List.take_sublist _ _)
      rw [hb]; rfl
    · cases h
theorem cut_mono {cs : List Col} {i j : Nat} (hij : i ≤ j) (h : cutB cs i = true) : cutB cs j = true := by
  unfold cutB at h ⊢
  cases hj : (sizesF (cs.take (j + 1))).isSome with
  | false => rfl
  | true =>
    have := sizesF_take (i + 1) hj
    rw [List.take_take, Nat.min_eq_left (by omega)] at this
    rw [this] at h; cases h
theorem Cols.take {w : World} {a : Option Addr} {len : Nat} {cs : List Col} (h : Cols w a len cs) {k : Nat} (hk : k ≤ len) : Cols w a k (cs.take k) := by
  have hl := h.1
  refine ⟨by rw [List.length_take]; omega, ?_⟩
  rcases h.2 with g | ⟨b, off, ha, g⟩
  · exact .inl (by omega)
  · refine .inr ⟨b, off, ha, fun i hi => ?_⟩
    have e : (cs.take k).getD i nilCol = cs.getD i nilCol := by rw [List.getD_eq_getElem?_getD, List.getElem?_take_of_lt hi, ← List.getD_eq_getElem?_getD]
    rw [e]; exact g i (by omega)

/-- is a colour wrong by its names? -/
def colBad (c : Col) : Bool := !freeB c.name || (c.kind == 2 && anyF c.names)
/-- the first place k below n at which f holds; n, if there is none -/
def firstF (f : Nat → Bool) : Nat → Nat
  | 0 => 0
  | n + 1 => if firstF f n < n then firstF f n else if f n then n else n + 1
theorem firstF_at (f : Nat → Bool) : ∀ n, FirstAt n f (firstF f n)
  | 0 => ⟨Nat.le_refl _, fun j hj => absurd hj (Nat.not_lt_zero _), fun h => absurd h (Nat.not_lt_zero _)⟩
  | n + 1 => by
    obtain ⟨h1, h2, h3⟩ := firstF_at f n
    unfold firstF
    split
    · rename_i h; exact ⟨by omega, h2, fun _ => h3 h⟩
    · rename_i h
      have e : firstF f n = n := by omega
      rw [e] at h2
      split
      · rename_i hf; exact ⟨by omega, h2, fun _ => hf⟩
      · rename_i hf
        refine ⟨Nat.le_refl _, fun j hj => ?_, fun h => absurd h (Nat.lt_irrefl _)⟩
        rcases Nat.lt_succ_iff_lt_or_eq.1 hj with g | g
        · exact h2 j g
        · rw [g]; simpa using hf
def rightN (cs : List Col) : Nat := firstF (cutB cs) cs.length
def badAt (cs : List Col) (k : Nat) : Bool := colBad (cs.getD k nilCol)
/-- the first colour that is wrong; how many there are, if none is -/
def wrongF (cs : List Col) : Nat := firstF (badAt cs) (rightN cs)

theorem wrong1_any (q j cp : Nat) (a : Option Addr) (cs : List Col) (w : World) (h : w.cell? ⟨q, 0, none⟩ = some (.slice a cs.length cp)) (hC : Cols w a cs.length cs) (hcp : cs.length ≤ cp) (hm : cs.length ≤ 1000000) (hj : j < cs.length) :
    Calls Tryz.prog 70 #[.int .i64 (j : Int), .pointer (some ⟨q, 0, none⟩)] w fun e w' => e = .returned (.bool (cutB cs j)) ∧ Below w.heap.size w w' := by
  obtain ⟨b, off, ha⟩ : ∃ b off, a = some ⟨b, off, none⟩ := by
    rcases hC.2 with g | ⟨b, off, ha, _⟩
    · omega
    · exact ⟨b, off, ha⟩
  have I1 : Hid (Calls Tryz.prog 17 #[.slice a (j + 1) cp, .bool true] w fun e w' => True) ∨ True := .inr trivial
  have I2 : Hid (Calls Tryz.prog 17 #[.slice (some ⟨b, off, none⟩) (j + 1) cp] w fun e w' => e = .returned (.bool (sizesF (cs.take (j + 1))).isSome) ∧ Below w.heap.size w w') := Colour.right_any _ _ _ _ _ (Cols.take (ha ▸ hC) (by omega))
  have hj' : ((j : Int) + 1) ≤ cp := by omega
  have hj0 : (0 : Int) ≤ (j : Int) + 1 := by omega
  have HR : Hid (cutB cs j = !(sizesF (cs.take (j + 1))).isSome) := rfl
  subst ha
  clear I1 hC
  generalize (sizesF (cs.take (j + 1))).isSome = z at *
  go_enter Tryz.func70, Tryz.ntmps70
  go_wp2_with fail
  refine I2.out.mono ?_
  rintro e w1 ⟨he, hb⟩
  subst he
  have B1 : Hid (Below w.heap.size w w1) := hb
  clear hb
  go_wp2_with fail
  go_ret
  exact ⟨by rw [HR.out]; rfl, B1.out⟩
theorem goes_wrong1 : Goes 70 := fun args W => by kernel_rfl
set_option maxHeartbeats 2000000 in
theorem wrongColour_any (a : Option Addr) (cp : Nat) (cs : List Col) (w : World) (hC : Cols w a cs.length cs) (hcp : cs.length ≤ cp) (hm : cs.length ≤ 1000000) (hn : ∀ c, c ∈ cs → c.names.length ≤ 1000000) :
    Calls Tryz.prog 27 #[.slice a cs.length cp] w fun e w' => e = .returned (.int .i64 (wrongF cs : Int)) ∧ Below w.heap.size w w' := by
  have H0 : Hid (Cols w a cs.length cs ∧ ∀ c, c ∈ cs → c.names.length ≤ 1000000) := ⟨hC, hn⟩
  obtain ⟨wz, hwz⟩ : ∃ wz, wz = w.alloc (.cells #[.slice a cs.length cp] 22) := ⟨_, rfl⟩
  have hz : Below w.heap.size w wz := by rw [hwz]; exact (Below.refl _ _).alloc (Nat.le_refl _) _
  have hx : wz.cell? ⟨w.heap.size, 0, none⟩ = some (.slice a cs.length cp) := by rw [hwz]; exact World.cell?_alloc_at _ _ _ _ rfl
  have AI : Hid (AskI wz (.func (.func 70) #[] #[.pointer (some ⟨w.heap.size, 0, none⟩)]) cs.length (cutB cs)) := ⟨_, _, rfl, goes_wrong1, fun W hW i hi => wrong1_any _ i cp a cs W (box_below hx hW) (hC.below (then_ hz hW)) hcp hm hi⟩
  have HZ : Hid (Below w.heap.size w wz ∧ wz.cell? ⟨w.heap.size, 0, none⟩ = some (.slice a cs.length cp)) := ⟨hz, hx⟩
  clear hz hx hC hn
  go_enter Tryz.func27, Tryz.ntmps27
  go_wp2_with fail
  rw [← hwz]
  refine (search_any _ _ _ _ hm AI.out (fun i j hij _ h => cut_mono hij h)).mono ?_
  rintro e w1 ⟨r, he, hr, hb⟩
  subst he
  have hr : r = rightN cs := hr.uniq (firstF_at _ _)
  have hrl : r ≤ cs.length := by rw [hr]; exact (firstF_at _ _).1
  have HR : Hid (r = rightN cs) := hr
  have hc1 := box_below HZ.out.2 hb
  have B1 : Hid (Below w.heap.size w w1) := then_ HZ.out.1 hb
  have hrc : (r : Int) ≤ cp := by omega
  clear hb hr AI
  go_wp2_with fail
  go_loopw [14] (fun v wr => ∃ i : Nat, v = .int .i64 (i : Int) ∧ i ≤ r ∧ Hid (Below w.heap.size w wr ∧ ∀ j, j < i → badAt cs j = false)) (fun v _ => match v with | .int _ z => r - z.toNat | _ => 0)
  case atStart => exact ⟨0, rfl, by omega, ⟨B1.out, fun j hj => absurd hj (Nat.not_lt_zero _)⟩⟩
  case round =>
    obtain ⟨i, rfl, hi, HI⟩ := hrel
    by_cases hlt : i < r
    · have hlt' : (i : Int) < r := by omega
      obtain ⟨b, off, ha, hcol⟩ : ∃ b off, a = some ⟨b, off, none⟩ ∧ ColAt wr b (off + i * 7) (cs.getD i nilCol) := by
        rcases (H0.out.1.below HI.out.1).2 with g | ⟨b, off, ha, g⟩
        · omega
        · exact ⟨b, off, ha, g i (by omega)⟩
      have hnm := H0.out.2 (cs.getD i nilCol) (by rw [List.getD_eq_getElem?_getD, List.getElem?_eq_getElem (show i < cs.length by omega)]; exact List.getElem_mem _)
      obtain ⟨c, hcc⟩ : ∃ c, c = cs.getD i nilCol := ⟨_, rfl⟩
      rw [← hcc] at hcol hnm
      have HB : Hid (badAt cs i = colBad c) := by unfold badAt; rw [← hcc]; rfl
      clear hcc
      obtain ⟨⟨d0, d1, d2, d3, d4, d5, d6⟩, hst, _⟩ := hcol
      have hbl : b < wr.heap.size := World.block_lt_of_cell? _ _ d0
      have hic : (i : Int) < cs.length := by omega
      subst ha
      have CF : Hid (∀ W, Calls Tryz.prog 71 #[.string c.name] W fun e w' => e = .returned (.bool (freeB c.name)) ∧ w' = W) := fun W => free_any _ W
      obtain ⟨wb, hwb⟩ : ∃ wb, wb = wr.alloc (.cells #[.string c.name, .int .i64 c.kind, .int .i64 c.lo, .int .i64 c.hi, .slice c.na c.names.length c.nc, .int .i64 c.first, .int .i64 c.thn] 62) := ⟨_, rfl⟩
      have hbb : Below wr.heap.size wr wb := by rw [hwb]; exact (Below.refl _ _).alloc (Nat.le_refl _) _
      have x0 : wb.cell? ⟨wr.heap.size, 0, none⟩ = some (.string c.name) := by rw [hwb]; exact World.cell?_alloc_at _ _ _ _ rfl
      have x1 : wb.cell? ⟨wr.heap.size, 1, none⟩ = some (.int .i64 c.kind) := by rw [hwb]; exact World.cell?_alloc_at _ _ _ _ rfl
      have x4 : wb.cell? ⟨wr.heap.size, 4, none⟩ = some (.slice c.na c.names.length c.nc) := by rw [hwb]; exact World.cell?_alloc_at _ _ _ _ rfl
      have CN : Hid (Calls Tryz.prog 72 #[.slice c.na c.names.length c.nc, .func (.func 73) #[] #[]] wb fun e w' => e = .returned (.bool (anyF c.names)) ∧ w' = wb) := containsFunc_any _ _ _ _ (hst.below hbb) hnm
      have BW : Hid (Below w.heap.size w wb) := then_ HI.out.1 hbb
      clear hbb hst hnm
      go_upto_region 5 with fail
      rw [← hwb]
      clear hwb d0 d1 d2 d3 d4 d5 d6 hbl
      cases h1 : freeB c.name with
      | false =>
        have BB : badAt cs i = true := by rw [HB.out]; unfold colBad; rw [h1]; rfl
        have R : Hid (wrongF cs = i) := by
          have h1 : FirstAt r (badAt cs) i := ⟨by omega, HI.out.2, fun _ => BB⟩
          unfold wrongF
          rw [← HR.out]
          exact (firstF_at _ _).uniq h1
        rw [h1] at CF
        clear h1 BB
        go_wp2_with fail
        refine (CF.out _).mono ?_
        rintro e w2 ⟨he, hw⟩
        subst he
        subst hw
        go_wp2_with fail
        go_ret
        exact ⟨by rw [R.out]; rfl, BW.out⟩
      | true =>
        cases h2 : c.kind == 2 with
        | false =>
          have BB : badAt cs i = false := by rw [HB.out]; unfold colBad; rw [h1, h2]; rfl
          have NX : Hid (Below w.heap.size w wb ∧ ∀ j, j < i + 1 → badAt cs j = false) := ⟨BW.out, fun j hj => by
            rcases Nat.lt_succ_iff_lt_or_eq.1 hj with h | h
            · exact HI.out.2 j h
            · rw [h]; exact BB⟩
          rw [h1] at CF
          clear h1 BB
          go_wp2_with fail
          refine (CF.out _).mono ?_
          rintro e w2 ⟨he, hw⟩
          subst he
          subst hw
          go_wp2_with fail
          go_roundw
          case rel => exact ⟨i + 1, by simp, by omega, NX⟩
          case measure => simp; omega
        | true =>
          cases h3 : anyF c.names with
          | true =>
            have BB : badAt cs i = true := by rw [HB.out]; unfold colBad; rw [h1, h2, h3]; rfl
            have R : Hid (wrongF cs = i) := by
              have h1 : FirstAt r (badAt cs) i := ⟨by omega, HI.out.2, fun _ => BB⟩
              unfold wrongF
              rw [← HR.out]
              exact (firstF_at _ _).uniq h1
            rw [h1] at CF
            rw [h3] at CN
            clear h1 h3 BB
            go_wp2_with fail
            refine (CF.out _).mono ?_
            rintro e w2 ⟨he, hw⟩
            subst he
            subst hw
            go_wp2_with fail
            refine CN.out.mono ?_
            rintro e w2 ⟨he, hw⟩
            subst he
            subst hw
            go_wp2_with fail
            go_ret
            exact ⟨by rw [R.out]; rfl, BW.out⟩
          | false =>
            have BB : badAt cs i = false := by rw [HB.out]; unfold colBad; rw [h1, h2, h3]; rfl
            have NX : Hid (Below w.heap.size w wb ∧ ∀ j, j < i + 1 → badAt cs j = false) := ⟨BW.out, fun j hj => by
              rcases Nat.lt_succ_iff_lt_or_eq.1 hj with h | h
              · exact HI.out.2 j h
              · rw [h]; exact BB⟩
            rw [h1] at CF
            rw [h3] at CN
            clear h1 h3 BB
            go_wp2_with fail
            refine (CF.out _).mono ?_
            rintro e w2 ⟨he, hw⟩
            subst he
            subst hw
            go_wp2_with fail
            refine CN.out.mono ?_
            rintro e w2 ⟨he, hw⟩
            subst he
            subst hw
            go_wp2_with fail
            go_roundw
            case rel => exact ⟨i + 1, by simp, by omega, NX⟩
            case measure => simp; omega
    · have hlt' : ¬ (i : Int) < r := by omega
      have R : Hid (wrongF cs = r) := by
        have h1 : FirstAt r (badAt cs) r := ⟨Nat.le_refl _, fun j hj => HI.out.2 j (by omega), fun h => absurd h (Nat.lt_irrefl _)⟩
        unfold wrongF
        rw [← HR.out]
        exact (firstF_at _ _).uniq h1
      go_wp2_with fail
      go_ret
      exact ⟨by rw [R.out]; rfl, HI.out.1⟩
end Go.Proofs.YtgdkomkflfodaaaGreat.Check
