/- variables of package expr: a contract of the call, over the turned program. -/
import Derived.Test.YtnhhajbfohjlbaaGreatDoorExMem
import Derived.Test.YtnhhajbfohjlbaaGreatDoorRows2
namespace Go.Proofs.YtnhhajbfohjlbaaGreatDoor.Expr
open Go.RowKit Go.Proofs.YtnhhajbfohjlbaaGreatDoor.Frame
set_option linter.unusedVariables false
set_option linter.unusedSimpArgs false

/-- a row of the call's own holds numbers, and some more at last -/
def VPost (B : Nat) (xs : List Value) (n : Nat) (zs : List Int) (w : World) (e : Ending) (w' : World) : Prop :=
  ∃ v', e = .returned v' ∧ w'.ownsRow B 3 1 v' (n + zs.length) (xs ++ zs.map (Value.int .i64)) ∧ Below B w w'

/-- the numbers that a row of the call's own holds behind xs -/
def VS (B n : Nat) (xs : List Value) (zs : List Int) (v : Value) (w : World) : Prop := w.ownsRow B 3 1 v (n + zs.length) (xs ++ zs.map (Value.int .i64))
theorem flat_step {ks : List Ex} {j : Nat} {x : Ex} (h : j < ks.length) (hx : x = ks.getD j nilEx) : ((ks.map varsF).take (j + 1)).flatten = ((ks.map varsF).take j).flatten ++ varsF x := by
  rw [take_snoc [] (by simpa using h), List.flatten_append, List.getD_eq_getElem?_getD, List.getElem?_map, List.getElem?_eq_getElem h, hx, List.getD_eq_getElem?_getD, List.getElem?_eq_getElem h]; simp
theorem flat_le (l : List (List Int)) (j : Nat) : (l.take j).flatten.length ≤ l.flatten.length := by
  have h : (l.take j ++ l.drop j).flatten.length = l.flatten.length := by rw [List.take_append_drop]
  rw [List.flatten_append, List.length_append] at h
  omega

theorem own_app {w : World} {B n : Nat} {v : Value} {xs : List Value} (hown : w.ownsRow B 3 1 v n xs) (hB : B ≤ w.heap.size) (hn : n ≤ 10000000) (z : Int) (ty : TypeId) (s : Nat) (hs : w.heap.size = s) :
    ∃ v' w', (Builtin.append_ #[32, 32] ty #[v, .slice (some ⟨s, 0, none⟩) 1 1]).run Tryz.prog (w.alloc (.cells #[.int .i64 z] 3)) = .ok v' w' ∧ w'.ownsRow B 3 1 v' (n + 1) (xs ++ [.int .i64 z]) ∧ Below B w w' ∧ ∀ b, b < w.heap.size → some b ≠ v.ownBlock → w'.heap[b]? = w.heap[b]? := by
  subst hs
  obtain ⟨i0, hi, hz0, hz1, hz2⟩ := info_parts intInfo
  obtain ⟨v', w', hr, ho, hg, _⟩ := run_append_own (P := Tryz.prog) (w.alloc (.cells #[.int .i64 z] 3)) B 32 ty 3 i0 _ 1 8 Tryz.underlying32 hi hz0 hz1 hz2 rfl (by decide) v n xs (hown.alloc _) ⟨w.heap.size, 0, none⟩ 1 1 [.int .i64 z] rfl
    (fun j u hu => by rw [Go.WideShapes.add_plain, Nat.zero_add, World.cell?_alloc_new]; rw [← hu]; simp) (fun u hu => by simp at hu; subst hu; rfl) (by unfold maxLen; omega) (by omega) (by simp; omega)
  exact ⟨v', w', hr, ho, ((Below.refl _ _).alloc hB _).grown hg (by simp; omega) (fun k hk => (hown.lt k hk).1), fun b hb hne => (hg.block b (by simp; omega) hne).trans (Below.heap_alloc _ _ _ hb)⟩

set_option maxRecDepth 100000 in
set_option maxHeartbeats 2000000 in
theorem variables_any (B : Nat) : ∀ (t : Ex) (w : World) (a : Option Addr) (c n : Nat) (v : Value) (xs : List Value), XG (fun b _ => b < B) w t a → w.ownsRow B 3 1 v n xs → B ≤ w.heap.size → n + (varsF t).length ≤ 10000000 → sizeF t ≤ 1000000 →
      Calls Tryz.prog 30 #[v, .agg #[.int .i64 t.kind, .int .i64 t.num, .slice a t.kids.length c]] w (VPost B xs n (varsF t) w) := by
  refine Ex.ind fun k m ks ih w a c n v xs hX hown hB hn hs => ?_
  have HX : Hid (XG (fun b _ => b < B) w ⟨k, m, ks⟩ a) := hX
  have HI : Hid (∀ (x : Ex), x ∈ ks → ∀ (w : World) (a : Option Addr) (c n : Nat) (v : Value) (xs : List Value), XG (fun b _ => b < B) w x a → w.ownsRow B 3 1 v n xs → B ≤ w.heap.size → n + (varsF x).length ≤ 10000000 → sizeF x ≤ 1000000 →
      Calls Tryz.prog 30 #[v, .agg #[.int .i64 x.kind, .int .i64 x.num, .slice a x.kids.length c]] w (VPost B xs n (varsF x) w)) := ih
  have hlen : ks.length ≤ 1000000 := by have := len_size k m ks; omega
  have HS : Hid (sizeF ⟨k, m, ks⟩ ≤ 1000000) := hs
  obtain ⟨pre, hpre⟩ : ∃ pre : List Int, pre = if k = 2 then [m] else [] := ⟨_, rfl⟩
  have HV : Hid (varsF ⟨k, m, ks⟩ = pre ++ (ks.map varsF).flatten) := by rw [Hid, vars_eq, hpre]
  rw [HV.out, List.length_append] at hn
  have HO : Hid (w.ownsRow B 3 1 v n xs) := hown
  clear ih hX hs hown
  show Calls Tryz.prog 30 #[v, .agg #[.int .i64 k, .int .i64 m, .slice a ks.length c]] w _
  obtain ⟨len, hl⟩ : ∃ len, len = ks.length := ⟨_, rfl⟩
  rw [← hl] at hlen ⊢
  have HL : Hid (len = ks.length) := hl
  clear hl
  have LP : Hid (∀ (j : Nat) (wr : World) (vr : Value), j < len → Below B w wr → VS B n xs (pre ++ ((ks.map varsF).take j).flatten) vr wr →
      ∃ (b off : Nat) (x : Ex) (ai : Option Addr) (ci : Nat), a = some ⟨b, off, none⟩ ∧ b < wr.heap.size ∧ wr.cell? ⟨b, off + j * 3, none⟩ = some (.int .i64 x.kind) ∧ wr.cell? ⟨b, off + j * 3 + 1, none⟩ = some (.int .i64 x.num) ∧ wr.cell? ⟨b, off + j * 3 + 2, none⟩ = some (.slice ai x.kids.length ci) ∧
        ∀ o, Calls Tryz.prog 30 #[vr, .agg #[.int .i64 x.kind, .int .i64 x.num, .slice ai x.kids.length ci]] (wr.alloc o) fun e w' => ∃ v', e = .returned v' ∧ Hid (VS B n xs (pre ++ ((ks.map varsF).take (j + 1)).flatten) v' w') ∧ Hid (Below B w w')) := by
    intro j wr vr hj hb ho
    have hjk : j < ks.length := by rw [← HL.out]; exact hj
    obtain ⟨b, off, x, ai, ci, ha, hbl, _, hm, he, c0, c1, c2, hx⟩ := kid_lt (HX.out.belowB (fun _ _ h => h) hb) hjk
    refine ⟨b, off, x, ai, ci, ha, hbl, c0, c1, c2, fun o => ?_⟩
    have hsz : B ≤ wr.heap.size := Nat.le_trans hB hb.size
    have e1 := flat_step hjk he
    have e2 := flat_le (ks.map varsF) (j + 1)
    rw [e1, List.length_append] at e2
    refine (HI.out x hm (wr.alloc o) ai ci _ vr _ (hx.below ((Below.refl _ _).alloc (Nat.le_refl _) _)) (ho.alloc _) (by simp; omega) (by rw [List.length_append]; omega) (by have h1 := size_kid (k := k) (n := m) hm; have h2 := HS.out; omega)).mono ?_
    rintro e w' ⟨v', he', ho', hb'⟩
    refine ⟨v', he', ?_, hb.trans (((Below.refl _ _).alloc hsz _).trans hb')⟩
    rw [Hid, e1]
    unfold VS
    rw [← List.append_assoc, List.map_append (l₂ := varsF x), ← List.append_assoc, List.length_append (bs := varsF x), ← Nat.add_assoc]
    exact ho'
  have EN : Hid (∀ (j : Nat), len ≤ j → pre ++ ((ks.map varsF).take j).flatten = varsF ⟨k, m, ks⟩) := fun j hj => by rw [HV.out, List.take_of_length_le (by rw [List.length_map, ← HL.out]; exact hj)]
  have hOP : Hid (¬ k = 2 → VS B n xs (pre ++ ((ks.map varsF).take 0).flatten) v w) := fun hk => by
    rw [if_neg hk] at hpre
    rw [hpre]; unfold VS; simpa using HO.out
  clear HX HI HS HV HL
  by_cases hk : k = 2
  · subst hk
    rw [if_pos rfl] at hpre
    obtain ⟨v1, w1, hr, ho1, hb1, hk1⟩ := own_app (w := w.alloc (Obj.cells #[Value.int IntKind.i64 2, Value.int IntKind.i64 m, Value.slice a len c] 24)) (HO.out.alloc _) (by simp; omega) (by omega) m 32 (w.heap.size + 1) (by simp)
    have HR : Hid (_ = _) := hr
    have hz1 : w.heap.size < w1.heap.size := by have := hb1.size; simp at this; omega
    have O1 : Hid (VS B n xs (pre ++ ((ks.map varsF).take 0).flatten) v1 w1) := by rw [hpre, Hid]; unfold VS; simpa using ho1
    have B1 : Hid (Below B w w1) := ((Below.refl _ _).alloc hB _).trans hb1
    have hbox : w1.cell? ⟨w.heap.size, 2, none⟩ = some (.slice a len c) := by
      have e : w1.heap[w.heap.size]? = (w.alloc (Obj.cells #[Value.int IntKind.i64 2, Value.int IntKind.i64 m, Value.slice a len c] 24)).heap[w.heap.size]? := hk1 _ (by simp) (fun h => by have := (HO.out.lt _ h.symm).2; omega)
      rw [World.cell?_of_block (w := w.alloc (Obj.cells #[Value.int IntKind.i64 2, Value.int IntKind.i64 m, Value.slice a len c] 24)) (a := ⟨w.heap.size, 2, none⟩) e]
      exact World.cell?_alloc_at _ _ _ _ rfl
    clear hr ho1 hb1 hk1 hpre hOP
    go_enter Tryz.func30, Tryz.ntmps30
    go_wp2_with (at_builtin; refine wpList_append_run rfl _ _ _ _ rfl rfl rfl HR.out ?_)
    go_loopw [0, 18] (fun vr i wr => ∃ j : Nat, j ≤ len ∧ i = .int .i64 j ∧ Hid (VS B n xs (pre ++ ((ks.map varsF).take j).flatten) vr wr) ∧ Hid (Below B w wr)) (fun _ i _ => len - (intOf i).toNat)
    case atStart => exact ⟨0, by omega, rfl, O1, B1⟩
    case round =>
      obtain ⟨j, hj, rfl, hO, hBw⟩ := hrel
      by_cases hlt : j < len
      · have hlt' : (j : Int) < len := by omega
        obtain ⟨b, off, x, ai, ci, ha, hbl, c0, c1, c2, hC⟩ := LP.out j wr _ hlt hBw.out hO.out
        subst ha
        have CL : Hid (∀ o : Obj, _) := hC
        clear hC LP
        go_wp2_with (go_at_call 30; refine (CL.out _).mono ?_; rintro e w2 ⟨v2, he, hO2, hB2⟩; subst he)
        go_roundw
        case rel => exact ⟨j + 1, by omega, by go_num, hO2, hB2⟩
        case measure => simp [intOf]; omega
      · have hO' := hO.out
        rw [EN.out j (by omega)] at hO'
        have O2 : Hid (VS B n xs (varsF ⟨_, m, ks⟩) _ wr ∧ Below B w wr) := ⟨hO', hBw.out⟩
        clear hO' LP
        go_wp2_with fail
        go_ret
        exact ⟨_, rfl, O2.out.1, O2.out.2⟩
  · have O1 : Hid (VS B n xs (pre ++ ((ks.map varsF).take 0).flatten) v w) := hOP.out hk
    have B1 : Hid (Below B w (w.alloc (Obj.cells #[Value.int IntKind.i64 k, Value.int IntKind.i64 m, Value.slice a len c] 24))) := (Below.refl _ _).alloc hB _
    have hkb : (k == 2) = false := by simpa using hk
    clear hpre hOP
    go_enter Tryz.func30, Tryz.ntmps30
    go_wp2_with fail
    go_loopw [0, 18] (fun vr i wr => ∃ j : Nat, j ≤ len ∧ i = .int .i64 j ∧ Hid (VS B n xs (pre ++ ((ks.map varsF).take j).flatten) vr wr) ∧ Hid (Below B w wr)) (fun _ i _ => len - (intOf i).toNat)
    case atStart => exact ⟨0, by omega, rfl, World.ownsRow.alloc O1.out _, B1⟩
    case round =>
      obtain ⟨j, hj, rfl, hO, hBw⟩ := hrel
      by_cases hlt : j < len
      · have hlt' : (j : Int) < len := by omega
        obtain ⟨b, off, x, ai, ci, ha, hbl, c0, c1, c2, hC⟩ := LP.out j wr _ hlt hBw.out hO.out
        subst ha
        have CL : Hid (∀ o : Obj, _) := hC
        clear hC LP
        go_wp2_with (go_at_call 30; refine (CL.out _).mono ?_; rintro e w2 ⟨v2, he, hO2, hB2⟩; subst he)
        go_roundw
        case rel => exact ⟨j + 1, by omega, by go_num, hO2, hB2⟩
        case measure => simp [intOf]; omega
      · have hO' := hO.out
        rw [EN.out j (by omega)] at hO'
        have O2 : Hid (VS B n xs (varsF ⟨_, m, ks⟩) _ wr ∧ Below B w wr) := ⟨hO', hBw.out⟩
        clear hO' LP
        go_wp2_with fail
        go_ret
        exact ⟨_, rfl, O2.out.1, O2.out.2⟩
end Go.Proofs.YtnhhajbfohjlbaaGreatDoor.Expr
