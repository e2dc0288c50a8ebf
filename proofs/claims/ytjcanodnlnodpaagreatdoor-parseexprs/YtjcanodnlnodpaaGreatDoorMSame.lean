/- Contracts and plain mathematics, together: ParSame, ParSame2. -/
import Derived.Test.YtjcanodnlnodpaaGreatDoorMReadN
import Derived.Test.YtjcanodnlnodpaaGreatDoorMPlain
import Derived.Test.YtjcanodnlnodpaaGreatDoorMInts
import Derived.ChangeKeysEq
import Derived.Deep.QuietTactic
import Derived.BigQuiet
/- What is alike (the document's own Strings, Rows, Ints, Same of expressions, arcs), of what is one: contracts of the calls, over the turned program. -/
namespace Go.Proofs.YtjcanodnlnodpaaGreatDoor.Parse
open Go.RowKit Go.Maps Go.Proofs.YtjcanodnlnodpaaGreatDoor.Frame Go.Proofs.YtjcanodnlnodpaaGreatDoor.Token Go.Proofs.YtjcanodnlnodpaaGreatDoor.Expr Go.Proofs.YtjcanodnlnodpaaGreatDoor.Calc
set_option linter.unusedVariables false
set_option linter.unusedSimpArgs false

theorem intInfo' : ∃ i, Tryz.prog.info? 3 = some i := Option.isSome_iff_exists.1 (by kernel_rfl)
theorem intCells : Tryz.prog.cellsOf 3 = 1 := by kernel_rfl
theorem eqI_run (a : Int) (w : World) : (Op.equalIn 9999 3 (.int .i64 a) (.int .i64 a)).run Tryz.prog w = .ok true w := by
  have := run_equalIn_int (P := Tryz.prog) w 9998 3 .i64 .i64 a a Tryz.underlying3
  rw [this]; simp
theorem eq2_run (x c : Int) (w : World) : (Op.equalIn 10000 71 (.agg #[.int .i64 x, .int .i64 c]) (.agg #[.int .i64 x, .int .i64 c])).run Tryz.prog w = .ok true w := by
  obtain ⟨i, hi⟩ := intInfo'
  rw [run_equalIn_array w 9999 _ _ Tryz.underlying71 hi, intCells]
  have p : ∀ (j : Nat) (v : Value), (#[.int .i64 x, .int .i64 c] : Array Value)[j]? = some v → (part 3 #[.int .i64 x, .int .i64 c] j).run Tryz.prog w = .ok v w := fun j v h => by
    simp [part, isAgg, run_underlying Tryz.underlying3, h]
  show (Op.eqItems 9999 3 1 _ _ [0, 1]).run Tryz.prog w = _
  have e1 := eqI_run x w
  have e2 := eqI_run c w
  have p1 := p 0 (.int .i64 x) rfl
  have p2 := p 1 (.int .i64 c) rfl
  clear p
  simp [Op.eqItems, p1, p2, e1, e2]
theorem eq3_run (x c d : Int) (w : World) : (Op.equalIn 10000 61 (.agg #[.int .i64 x, .int .i64 c, .int .i64 d]) (.agg #[.int .i64 x, .int .i64 c, .int .i64 d])).run Tryz.prog w = .ok true w := by
  obtain ⟨i, hi⟩ := intInfo'
  rw [run_equalIn_array w 9999 _ _ Tryz.underlying61 hi, intCells]
  have p : ∀ (j : Nat) (v : Value), (#[.int .i64 x, .int .i64 c, .int .i64 d] : Array Value)[j]? = some v → (part 3 #[.int .i64 x, .int .i64 c, .int .i64 d] j).run Tryz.prog w = .ok v w := fun j v h => by
    simp [part, isAgg, run_underlying Tryz.underlying3, h]
  show (Op.eqItems 9999 3 1 _ _ [0, 1, 2]).run Tryz.prog w = _
  have e1 := eqI_run x w
  have e2 := eqI_run c w
  have e3 := eqI_run d w
  have p1 := p 0 (.int .i64 x) rfl
  have p2 := p 1 (.int .i64 c) rfl
  have p3 := p 2 (.int .i64 d) rfl
  clear p
  simp [Op.eqItems, p1, p2, p3, e1, e2, e3]

theorem Cs.at {w : World} {a : Option Addr} {vs : List Value} (h : Cs w a vs) {j : Nat} {v : Value} (hj : vs[j]? = some v) : ∃ b off, a = some ⟨b, off, none⟩ ∧ b < w.heap.size ∧ ∀ (i : Nat) (u : Value), vs[i]? = some u → w.cell? ⟨b, off + i, none⟩ = some u := by
  rcases h with h | ⟨b, off, ha, hc⟩
  · rw [h] at hj; cases hj
  · exact ⟨b, off, ha, World.block_lt_of_cell? w _ (hc j v hj), hc⟩
theorem strs_at {l : List (List UInt8)} {k : Nat} (hk : k < l.length) : (strs l)[k]? = some (.string (str (l.getD k []))) := by
  unfold strs
  rw [List.getElem?_map, List.getD_eq_getElem?_getD, List.getElem?_eq_getElem hk]; rfl
theorem ints_at {l : List Int} {k : Nat} (hk : k < l.length) : (ints l)[k]? = some (.int .i64 (l.getD k 0)) := by
  unfold ints
  rw [List.getElem?_map, List.getD_eq_getElem?_getD, List.getElem?_eq_getElem hk]; rfl
theorem prs_two {l : List Row} {k : Nat} (hk : k < l.length) : (prs l)[k * 2]? = some (.int .i64 (l.getD k (0, 0)).1) ∧ (prs l)[k * 2 + 1]? = some (.int .i64 (l.getD k (0, 0)).2) := by
  have hm : (l.map fun x => [Value.int .i64 x.1, Value.int .i64 x.2])[k]? = some [Value.int .i64 (l.getD k (0, 0)).1, Value.int .i64 (l.getD k (0, 0)).2] := by
    rw [List.getElem?_map, List.getD_eq_getElem?_getD, List.getElem?_eq_getElem hk]; rfl
  have hk2 : ∀ us, us ∈ (l.map fun x => [Value.int .i64 x.1, Value.int .i64 x.2]) → us.length = 2 := fun us hu => by
    obtain ⟨x, _, rfl⟩ := List.mem_map.1 hu; rfl
  exact ⟨flat_at _ hk2 k _ hm 0 (by decide), flat_at _ hk2 k _ hm 1 (by decide)⟩
theorem RwsAt.at {α : Type} {R : World → α → List Value → Prop} {w : World} {a : Option Addr} {l : List α} {n : Nat} (h : RwsAt R w a l) (hk : ∀ x us, R w x us → us.length = n) (h0 : 0 < n) {i : Nat} {x : α} (hi : l[i]? = some x) :
    ∃ b off us, a = some ⟨b, off, none⟩ ∧ b < w.heap.size ∧ R w x us ∧ ∀ (j : Nat) (v : Value), us[j]? = some v → w.cell? ⟨b, off + (i * n + j), none⟩ = some v := by
  obtain ⟨vs, hc, hr⟩ := h
  obtain ⟨us, hu, he⟩ := hr.at hk hi
  have hl := hk _ _ hu
  obtain ⟨v0, hv0⟩ : ∃ v0, us[0]? = some v0 := ⟨_, List.getElem?_eq_getElem (by omega)⟩
  obtain ⟨b, off, ha, hb, hcc⟩ := hc.at ((he 0 h0).trans hv0)
  refine ⟨b, off, us, ha, hb, hu, fun j v hv => ?_⟩
  have hj : j < n := by rw [← hl]; exact (List.getElem?_eq_some_iff.1 hv).1
  exact hcc _ _ ((he j hj).trans hv)
theorem col_len {w : World} : ∀ x us, ColR w x us → us.length = 7 := fun x us h => by obtain ⟨_, _, rfl, _⟩ := h; rfl
theorem place_len {w : World} : ∀ x us, PlaceR w x us → us.length = 3 := fun x us h => by obtain ⟨_, _, rfl, _⟩ := h; rfl
theorem arc_len {w : World} : ∀ x us, ArcR w x us → us.length = 4 := fun x us h => by obtain ⟨_, _, rfl, _⟩ := h; rfl
theorem var_len {w : World} : ∀ x us, (fun (_ : World) => VarR) w x us → us.length = 2 := fun x us h => by have h : us = _ := h; rw [h]; rfl
theorem task_len {w : World} : ∀ x us, TaskR w x us → us.length = 14 := fun x us h => by obtain ⟨_, _, _, _, _, _, _, _, _, _, rfl, _⟩ := h; rfl
theorem get_at {α : Type} {l : List α} {k : Nat} (z : α) (hk : k < l.length) : l[k]? = some (l.getD k z) := by
  rw [List.getD_eq_getElem?_getD, List.getElem?_eq_getElem hk]; rfl

set_option maxHeartbeats 1000000 in
theorem rstrs_yes (a b : Option Addr) (ca cb : Nat) (l : List (List UInt8)) (w : World) (ha : Cs w a (strs l)) (hb : Cs w b (strs l)) (hl : l.length ≤ 1000001) :
    Calls Tryz.prog 44 #[.slice a l.length ca, .slice b l.length cb] w fun e w' => e = .returned (.bool true) ∧ Below w.heap.size w w' := by
  have HA : Hid (Cs w a (strs l)) := ha
  have HB : Hid (Cs w b (strs l)) := hb
  obtain ⟨n, hn⟩ : ∃ n, n = l.length := ⟨_, rfl⟩
  have HN : Hid (n = l.length) := hn
  rw [← hn] at hl ⊢
  clear ha hb hn
  go_enter Tryz.func44, Tryz.ntmps44
  go_wp2
  go_loopw [5] (fun i wr => ∃ k : Nat, k ≤ n ∧ i = .int .i64 k ∧ Below w.heap.size w wr) (fun i _ => n - (intOf i).toNat)
  case atStart => exact ⟨0, by omega, rfl, Below.refl _ _⟩
  case round =>
    obtain ⟨k, hk, rfl, hnx⟩ := hrel
    by_cases hlt : k < n
    · have hlt' : (k : Int) < n := by omega
      have hs := strs_at (l := l) (k := k) (by rw [← HN.out]; exact hlt)
      obtain ⟨b1, o1, h1, l1, t1⟩ := (HA.out.below hnx).at hs
      obtain ⟨b2, o2, h2, l2, t2⟩ := (HB.out.below hnx).at hs
      subst h1 h2
      have c0 := t1 k _ hs
      have d0 := t2 k _ hs
      clear t1 t2 hs
      generalize str (l.getD k []) = s at *
      go_wp2
      go_quiet (fail)
      go_wp2
      go_roundw
      case rel => exact ⟨k + 1, by omega, by go_num, dn' hnx _⟩
      case measure => simp [intOf]; omega
    · go_wp2
      go_ret
      exact ⟨rfl, hnx⟩

set_option maxHeartbeats 1000000 in
theorem rints_yes (a b : Option Addr) (ca cb : Nat) (l : List Int) (w : World) (ha : Cs w a (ints l)) (hb : Cs w b (ints l)) (hl : l.length ≤ 1000001) :
    Calls Tryz.prog 94 #[.slice a l.length ca, .slice b l.length cb] w fun e w' => e = .returned (.bool true) ∧ Below w.heap.size w w' := by
  have HA : Hid (Cs w a (ints l)) := ha
  have HB : Hid (Cs w b (ints l)) := hb
  obtain ⟨n, hn⟩ : ∃ n, n = l.length := ⟨_, rfl⟩
  have HN : Hid (n = l.length) := hn
  rw [← hn] at hl ⊢
  clear ha hb hn
  go_enter Tryz.func94, Tryz.ntmps94
  go_wp2
  go_loopw [5] (fun i wr => ∃ k : Nat, k ≤ n ∧ i = .int .i64 k ∧ Below w.heap.size w wr) (fun i _ => n - (intOf i).toNat)
  case atStart => exact ⟨0, by omega, rfl, Below.refl _ _⟩
  case round =>
    obtain ⟨k, hk, rfl, hnx⟩ := hrel
    by_cases hlt : k < n
    · have hlt' : (k : Int) < n := by omega
      have hs := ints_at (l := l) (k := k) (by rw [← HN.out]; exact hlt)
      obtain ⟨b1, o1, h1, l1, t1⟩ := (HA.out.below hnx).at hs
      obtain ⟨b2, o2, h2, l2, t2⟩ := (HB.out.below hnx).at hs
      subst h1 h2
      have c0 := t1 k _ hs
      have d0 := t2 k _ hs
      clear t1 t2 hs
      generalize l.getD k 0 = s at *
      go_wp2
      go_quiet (fail)
      go_wp2
      go_roundw
      case rel => exact ⟨k + 1, by omega, by go_num, dn' hnx _⟩
      case measure => simp [intOf]; omega
    · go_wp2
      go_ret
      exact ⟨rfl, hnx⟩

set_option maxHeartbeats 1000000 in
theorem rrows_yes (a b : Option Addr) (ca cb : Nat) (l : List Row) (w : World) (ha : Cs w a (prs l)) (hb : Cs w b (prs l)) (hl : l.length ≤ 1000001) :
    Calls Tryz.prog 34 #[.slice a l.length ca, .slice b l.length cb] w fun e w' => e = .returned (.bool true) ∧ Below w.heap.size w w' := by
  have HA : Hid (Cs w a (prs l)) := ha
  have HB : Hid (Cs w b (prs l)) := hb
  have he := eq2_run
  obtain ⟨n, hn⟩ : ∃ n, n = l.length := ⟨_, rfl⟩
  have HN : Hid (n = l.length) := hn
  rw [← hn] at hl ⊢
  clear ha hb hn
  go_enter Tryz.func34, Tryz.ntmps34
  go_wp2
  go_loopw [5] (fun i wr => ∃ k : Nat, k ≤ n ∧ i = .int .i64 k ∧ Below w.heap.size w wr) (fun i _ => n - (intOf i).toNat)
  case atStart => exact ⟨0, by omega, rfl, Below.refl _ _⟩
  case round =>
    obtain ⟨k, hk, rfl, hnx⟩ := hrel
    by_cases hlt : k < n
    · have hlt' : (k : Int) < n := by omega
      obtain ⟨hs, hs2⟩ := prs_two (l := l) (k := k) (by rw [← HN.out]; exact hlt)
      obtain ⟨b1, o1, h1, l1, t1⟩ := (HA.out.below hnx).at hs
      obtain ⟨b2, o2, h2, l2, t2⟩ := (HB.out.below hnx).at hs
      subst h1 h2
      have c0 := t1 _ _ hs
      have d0 := t2 _ _ hs
      have c1 : wr.cell? ⟨b1, o1 + k * 2 + 1, none⟩ = _ := t1 _ _ hs2
      have d1 : wr.cell? ⟨b2, o2 + k * 2 + 1, none⟩ = _ := t2 _ _ hs2
      clear t1 t2 hs hs2
      generalize l.getD k (0, 0) = s at *
      obtain ⟨x, y⟩ := s
      simp only at c0 c1 d0 d1
      go_wp2
      go_quiet (fail)
      go_wp2
      go_roundw
      case rel => exact ⟨k + 1, by omega, by go_num, dn' hnx _⟩
      case measure => simp [intOf]; omega
    · go_wp2
      go_ret
      exact ⟨rfl, hnx⟩
end Go.Proofs.YtjcanodnlnodpaaGreatDoor.Parse
/- What is alike (the document's own Same of expressions, arcs, tasks), of what is one: contracts of the calls, over the turned program. -/
namespace Go.Proofs.YtjcanodnlnodpaaGreatDoor.Parse
open Go.RowKit Go.Maps Go.Proofs.YtjcanodnlnodpaaGreatDoor.Frame Go.Proofs.YtjcanodnlnodpaaGreatDoor.Token Go.Proofs.YtjcanodnlnodpaaGreatDoor.Expr Go.Proofs.YtjcanodnlnodpaaGreatDoor.Calc
set_option linter.unusedVariables false
set_option linter.unusedSimpArgs false

theorem cast_drew' {w w' : World} (h : Below w.drew.heap.size w.drew w') : Below w.heap.size w w' := ⟨h.os, h.tape, h.output, h.size, h.block⟩
theorem two_al' (w : World) (o p : Obj) : Below w.heap.size w ((w.alloc o).alloc p) := ((Below.refl _ _).alloc (Nat.le_refl _) _).alloc (by simp) _

set_option maxRecDepth 100000 in
set_option maxHeartbeats 4000000 in
theorem rsame_yes : ∀ (t : Ex) (w : World) (a b : Option Addr) (c d : Nat), RdE t → X w t a → X w t b →
    Calls Tryz.prog 20 #[.agg #[.int .i64 t.kind, .int .i64 t.num, .slice a t.kids.length c], .agg #[.int .i64 t.kind, .int .i64 t.num, .slice b t.kids.length d]] w fun e w' => e = .returned (.bool true) ∧ Below w.heap.size w w' := by
  refine Ex.ind fun k n ks ih w a b c d hr hx hy => ?_
  show Calls Tryz.prog 20 #[.agg #[.int .i64 k, .int .i64 n, .slice a ks.length c], .agg #[.int .i64 k, .int .i64 n, .slice b ks.length d]] w _
  have hl : ks.length ≤ 3 := hr.len.1
  have HX : Hid (X w ⟨k, n, ks⟩ a) := hx
  have HY : Hid (X w ⟨k, n, ks⟩ b) := hy
  have HI : Hid (∀ (x : Ex), x ∈ ks → ∀ (w : World) (a b : Option Addr) (c d : Nat), X w x a → X w x b → Calls Tryz.prog 20 #[.agg #[.int .i64 x.kind, .int .i64 x.num, .slice a x.kids.length c], .agg #[.int .i64 x.kind, .int .i64 x.num, .slice b x.kids.length d]] w fun e w' => e = .returned (.bool true) ∧ Below w.heap.size w w') := fun x hxm w a b c d hxx hyy => ih x hxm w a b c d (hr.len.2 x hxm) hxx hyy
  clear ih hx hy hr
  obtain ⟨len, hlen⟩ : ∃ len, len = ks.length := ⟨_, rfl⟩
  rw [← hlen] at hl ⊢
  have HL : Hid (len = ks.length) := hlen
  clear hlen
  go_enter Tryz.func20, Tryz.ntmps20
  go_wp2_with fail
  go_loopw [5] (fun i wr => ∃ j : Nat, j ≤ len ∧ i = .int .i64 j ∧ wr.cell? ⟨w.heap.size, 2, none⟩ = some (.slice a len c) ∧ wr.cell? ⟨w.heap.size + 1, 2, none⟩ = some (.slice b len d) ∧ Below w.heap.size w wr) (fun i _ => len - (intOf i).toNat)
  case atStart => exact ⟨0, by omega, rfl, by simp, by simp, two_al' _ _ _⟩
  case round =>
    obtain ⟨j, hj, rfl, hc1, hc2, hnx⟩ := hrel
    by_cases hlt : j < len
    · have hlt' : (j : Int) < len := by omega
      obtain ⟨b1, o1, x, ax, cx, ha, hbl, hxm, hxe, c0, c1, c2, hxx⟩ := (HX.out.below hnx).kid (i := j) (by rw [← HL.out]; exact hlt)
      obtain ⟨b2, o2, y, ay, cy, ha2, hbl2, hym, hye, d0, d1, d2, hyy⟩ := (HY.out.below hnx).kid (i := j) (by rw [← HL.out]; exact hlt)
      obtain rfl : y = x := hye.trans hxe.symm
      subst ha ha2
      have hz1 : w.heap.size < wr.heap.size := World.block_lt_of_cell? wr _ hc1
      have hz2 : w.heap.size + 1 < wr.heap.size := World.block_lt_of_cell? wr _ hc2
      have CL : Hid (Calls Tryz.prog 20 #[.agg #[.int .i64 y.kind, .int .i64 y.num, .slice ax y.kids.length cx], .agg #[.int .i64 y.kind, .int .i64 y.num, .slice ay y.kids.length cy]] wr.drew fun e w' => e = .returned (.bool true) ∧
          ((w'.cell? ⟨w.heap.size, 2, none⟩ = some (.slice (some ⟨b1, o1, none⟩) len c) ∧ w'.cell? ⟨w.heap.size + 1, 2, none⟩ = some (.slice (some ⟨b2, o2, none⟩) len d)) ∧ (w'.cell? ⟨b1, o1 + j * 3, none⟩ = some (.int .i64 y.kind) ∧ w'.cell? ⟨b1, o1 + j * 3 + 1, none⟩ = some (.int .i64 y.num) ∧ w'.cell? ⟨b1, o1 + j * 3 + 2, none⟩ = some (.slice ax y.kids.length cx)) ∧ (w'.cell? ⟨b2, o2 + j * 3, none⟩ = some (.int .i64 y.kind) ∧ w'.cell? ⟨b2, o2 + j * 3 + 1, none⟩ = some (.int .i64 y.num) ∧ w'.cell? ⟨b2, o2 + j * 3 + 2, none⟩ = some (.slice ay y.kids.length cy))) ∧ Hid (Below w.heap.size w w')) :=
        (HI.out y hxm wr.drew ax ay cx cy (hxx.below ((Below.refl _ _).drew)) (hyy.below ((Below.refl _ _).drew))).mono fun e w' h => by
          obtain ⟨h1, h3⟩ := h
          replace h3 : Below wr.heap.size wr w' := cast_drew' h3
          exact ⟨h1, ⟨⟨(h3.cell (p := ⟨w.heap.size, 2, none⟩) hz1).trans hc1, (h3.cell (p := ⟨w.heap.size + 1, 2, none⟩) hz2).trans hc2⟩, ⟨(h3.cell (p := ⟨b1, _, none⟩) hbl).trans c0, (h3.cell (p := ⟨b1, _, none⟩) hbl).trans c1, (h3.cell (p := ⟨b1, _, none⟩) hbl).trans c2⟩, (h3.cell (p := ⟨b2, _, none⟩) hbl2).trans d0, (h3.cell (p := ⟨b2, _, none⟩) hbl2).trans d1, (h3.cell (p := ⟨b2, _, none⟩) hbl2).trans d2⟩, then_ hnx h3⟩
      clear hxx hyy hxm hym hxe hye
      go_wp2_with fail
      go_region_held3 (fun w' => (w'.cell? ⟨w.heap.size, 2, none⟩ = some (.slice (some ⟨b1, o1, none⟩) len c) ∧ w'.cell? ⟨w.heap.size + 1, 2, none⟩ = some (.slice (some ⟨b2, o2, none⟩) len d)) ∧ (w'.cell? ⟨b1, o1 + j * 3, none⟩ = some (.int .i64 y.kind) ∧ w'.cell? ⟨b1, o1 + j * 3 + 1, none⟩ = some (.int .i64 y.num) ∧ w'.cell? ⟨b1, o1 + j * 3 + 2, none⟩ = some (.slice ax y.kids.length cx)) ∧ (w'.cell? ⟨b2, o2 + j * 3, none⟩ = some (.int .i64 y.kind) ∧ w'.cell? ⟨b2, o2 + j * 3 + 1, none⟩ = some (.int .i64 y.num) ∧ w'.cell? ⟨b2, o2 + j * 3 + 2, none⟩ = some (.slice ay y.kids.length cy))) (go_keep)
        (first | (go_at_call 20; refine CL.out.mono ?_; rintro e w1 ⟨he, ⟨⟨q1, q2⟩, ⟨q3, q4, q5⟩, q6, q7, q8⟩, hb1⟩; subst he))
      all_goals
        go_wp2_with fail
        go_roundw
        case rel => exact ⟨j + 1, by omega, by go_num, q1, q2, hb1.out⟩
        case measure => simp [intOf]; omega
    · have hlt' : ¬ (j : Int) < len := by omega
      go_wp2_with fail
      go_ret
      exact ⟨rfl, hnx⟩

set_option maxRecDepth 100000 in
set_option maxHeartbeats 4000000 in
theorem rarcs_yes (a b : Option Addr) (ca cb : Nat) (l : List (Int × Ex)) (w : World) (ha : RwsAt ArcR w a l) (hb : RwsAt ArcR w b l) (hr : ∀ x, x ∈ l → RdE x.2) (hl : l.length ≤ 1000001) :
    Calls Tryz.prog 93 #[.slice a l.length ca, .slice b l.length cb] w fun e w' => e = .returned (.bool true) ∧ Below w.heap.size w w' := by
  have HA : Hid (RwsAt ArcR w a l) := ha
  have HB : Hid (RwsAt ArcR w b l) := hb
  have HR : Hid (∀ x, x ∈ l → RdE x.2) := hr
  obtain ⟨n, hn⟩ : ∃ n, n = l.length := ⟨_, rfl⟩
  have HN : Hid (n = l.length) := hn
  rw [← hn] at hl ⊢
  clear ha hb hn hr
  go_enter Tryz.func93, Tryz.ntmps93
  go_wp2_with fail
  go_loopw [5] (fun i wr => ∃ k : Nat, k ≤ n ∧ i = .int .i64 k ∧ Below w.heap.size w wr) (fun i _ => n - (intOf i).toNat)
  case atStart => exact ⟨0, by omega, rfl, Below.refl _ _⟩
  case round =>
    obtain ⟨k, hk, rfl, hnx⟩ := hrel
    by_cases hlt : k < n
    · have hlt' : (k : Int) < n := by omega
      have hkl : k < l.length := by rw [← HN.out]; exact hlt
      have hx := get_at (0, nilEx) hkl
      have hm : l.getD k (0, nilEx) ∈ l := List.mem_of_getElem? hx
      obtain ⟨b1, o1, us, h1, l1, hu, t1⟩ := (HA.out.below (fun _ _ h => h.below hnx) hnx).at arc_len (by decide) hx
      obtain ⟨b2, o2, us2, h2, l2, hu2, t2⟩ := (HB.out.below (fun _ _ h => h.below hnx) hnx).at arc_len (by decide) hx
      have hrd := HR.out _ hm
      generalize l.getD k (0, nilEx) = x at *
      obtain ⟨z, t⟩ := x
      obtain ⟨ax, cx, rfl, hxx⟩ := hu
      obtain ⟨ay, cy, rfl, hyy⟩ := hu2
      subst h1 h2
      have c0 : wr.cell? ⟨b1, o1 + k * 4, none⟩ = some (.int .i64 z) := t1 0 _ rfl
      have c1 : wr.cell? ⟨b1, o1 + k * 4 + 1, none⟩ = some (.int .i64 t.kind) := t1 1 _ rfl
      have c2 : wr.cell? ⟨b1, o1 + k * 4 + 2, none⟩ = some (.int .i64 t.num) := t1 2 _ rfl
      have c3 : wr.cell? ⟨b1, o1 + k * 4 + 3, none⟩ = some (.slice ax t.kids.length cx) := t1 3 _ rfl
      have d0 : wr.cell? ⟨b2, o2 + k * 4, none⟩ = some (.int .i64 z) := t2 0 _ rfl
      have d1 : wr.cell? ⟨b2, o2 + k * 4 + 1, none⟩ = some (.int .i64 t.kind) := t2 1 _ rfl
      have d2 : wr.cell? ⟨b2, o2 + k * 4 + 2, none⟩ = some (.int .i64 t.num) := t2 2 _ rfl
      have d3 : wr.cell? ⟨b2, o2 + k * 4 + 3, none⟩ = some (.slice ay t.kids.length cy) := t2 3 _ rfl
      have CL : Hid (Calls Tryz.prog 20 #[.agg #[.int .i64 t.kind, .int .i64 t.num, .slice ax t.kids.length cx], .agg #[.int .i64 t.kind, .int .i64 t.num, .slice ay t.kids.length cy]] wr.drew fun e w' => e = .returned (.bool true) ∧
          ((w'.cell? ⟨b1, o1 + k * 4, none⟩ = some (.int .i64 z) ∧ w'.cell? ⟨b1, o1 + k * 4 + 1, none⟩ = some (.int .i64 t.kind) ∧ w'.cell? ⟨b1, o1 + k * 4 + 2, none⟩ = some (.int .i64 t.num) ∧ w'.cell? ⟨b1, o1 + k * 4 + 3, none⟩ = some (.slice ax t.kids.length cx)) ∧ (w'.cell? ⟨b2, o2 + k * 4, none⟩ = some (.int .i64 z) ∧ w'.cell? ⟨b2, o2 + k * 4 + 1, none⟩ = some (.int .i64 t.kind) ∧ w'.cell? ⟨b2, o2 + k * 4 + 2, none⟩ = some (.int .i64 t.num) ∧ w'.cell? ⟨b2, o2 + k * 4 + 3, none⟩ = some (.slice ay t.kids.length cy))) ∧ Hid (Below w.heap.size w w')) :=
        (rsame_yes t wr.drew ax ay cx cy hrd (hxx.below ((Below.refl _ _).drew)) (hyy.below ((Below.refl _ _).drew))).mono fun e w' h => by
          obtain ⟨h1, h3⟩ := h
          replace h3 : Below wr.heap.size wr w' := cast_drew' h3
          exact ⟨h1, ⟨⟨(h3.cell (p := ⟨b1, _, none⟩) l1).trans c0, (h3.cell (p := ⟨b1, _, none⟩) l1).trans c1, (h3.cell (p := ⟨b1, _, none⟩) l1).trans c2, (h3.cell (p := ⟨b1, _, none⟩) l1).trans c3⟩, (h3.cell (p := ⟨b2, _, none⟩) l2).trans d0, (h3.cell (p := ⟨b2, _, none⟩) l2).trans d1, (h3.cell (p := ⟨b2, _, none⟩) l2).trans d2, (h3.cell (p := ⟨b2, _, none⟩) l2).trans d3⟩, then_ hnx h3⟩
      clear hxx hyy t1 t2 hrd hm hx
      go_wp2_with fail
      go_region_held3 (fun w' => (w'.cell? ⟨b1, o1 + k * 4, none⟩ = some (.int .i64 z) ∧ w'.cell? ⟨b1, o1 + k * 4 + 1, none⟩ = some (.int .i64 t.kind) ∧ w'.cell? ⟨b1, o1 + k * 4 + 2, none⟩ = some (.int .i64 t.num) ∧ w'.cell? ⟨b1, o1 + k * 4 + 3, none⟩ = some (.slice ax t.kids.length cx)) ∧ (w'.cell? ⟨b2, o2 + k * 4, none⟩ = some (.int .i64 z) ∧ w'.cell? ⟨b2, o2 + k * 4 + 1, none⟩ = some (.int .i64 t.kind) ∧ w'.cell? ⟨b2, o2 + k * 4 + 2, none⟩ = some (.int .i64 t.num) ∧ w'.cell? ⟨b2, o2 + k * 4 + 3, none⟩ = some (.slice ay t.kids.length cy))) (go_keep)
        (first | (go_at_call 20; refine CL.out.mono ?_; rintro e w1 ⟨he, ⟨⟨q1, q2, q3, q4⟩, q5, q6, q7, q8⟩, hb1⟩; subst he))
      all_goals
        go_wp2_with fail
        go_roundw
        case rel => exact ⟨k + 1, by omega, by go_num, hb1.out⟩
        case measure => simp [intOf]; omega
    · have hlt' : ¬ (k : Int) < n := by omega
      go_wp2_with fail
      go_ret
      exact ⟨rfl, hnx⟩
end Go.Proofs.YtjcanodnlnodpaaGreatDoor.Parse
