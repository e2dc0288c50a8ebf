/- Encode of markings, the document's own: a contract of the call, over the turned program. -/
import Derived.Test.YtnjpblmplneojaaGreatDoorMbC
import Derived.Test.YtnjpblmplneojaaGreatDoorMaL
import Derived.Deep.RegionLaw
namespace Go.Proofs.YtnjpblmplneojaaGreatDoor.Mark
open Go.RowKit Go.Proofs.YtnjpblmplneojaaGreatDoor.Frame Go.Proofs.YtnjpblmplneojaaGreatDoor.Bag
open Go.Proofs.YtnjpblmplneojaaGreatDoor.Expr (Keep Keep.refl Keep.trans Keep.of Row.up TPost byteInfo bytes_append)
set_option linter.unusedVariables false
set_option linter.unusedSimpArgs false

/-- 'append(out, c0, c1, ..)', as a step of a walk -/
theorem wp_appL {ops : Array Oper} {rest : List Oper} {o : Oper} {a : Act} {Q : Exit → Act → World → Prop} {w : World} {B q : Nat} {bs : List UInt8} {v : Value} {n : Nat} (cs : List UInt8) (hgd : o.guard = none) (s x : Operand)
    (ho : o.op = .call { callee := .builtin .append, args := #[s, x], argTypes := #[28, 28] }) (hs : a.eval s = v) (hx : a.eval x = .slice (some ⟨q, 0, none⟩) n n) (hn : cs.length = n)
    (hr : Expr.Row B bs v w) (hc : ∀ j (h : j < cs.length), w.cell? ⟨q, j, none⟩ = some (.int .u8 cs[j].toNat)) (hl : bs.length ≤ 10000000) (hn2 : n ≤ 100)
    (h : ∀ v' w', Expr.Row B (bs ++ cs) v' w' → Keep B w w' → wpList Tryz.prog ops Q rest (a.put o.dst v') w') : wpList Tryz.prog ops Q (o :: rest) a w := by
  obtain ⟨i0, hi, hz0, hz1, hz2⟩ := info_parts byteInfo
  subst hn
  obtain ⟨v', w', hrun, hown, hg, _⟩ := run_append_own (P := Tryz.prog) w B 28 o.type 5 i0 _ 1 1 Tryz.underlying28 hi hz0 hz1 hz2 rfl (by decide) v bs.length (Lib.byteCells bs) hr.1 ⟨q, 0, none⟩ cs.length cs.length (Lib.byteCells cs) (by rw [Lib.byteCells_length, Nat.mul_one])
    (fun j u hu => by
      have hj : j < cs.length := by have := (List.getElem?_eq_some_iff.1 hu).1; rwa [Lib.byteCells_length] at this
      rw [Go.WideShapes.add_plain, Nat.zero_add, hc j hj]
      unfold Lib.byteCells at hu
      rw [List.getElem?_map, List.getElem?_eq_getElem hj] at hu
      exact hu) (fun u hu => by
      unfold Lib.byteCells at hu
      obtain ⟨x, _, rfl⟩ := List.mem_map.1 hu; rfl) (by unfold maxLen; omega) (by omega) hr.2
  refine wpList_append_run hgd s x _ _ ho hs hx hrun (h v' w' ⟨?_, Nat.le_trans hr.2 hg.size⟩ (Keep.grown hr hg))
  rw [bytes_append, List.length_append]
  exact hown
/-- .. as a step of a region that draws -/
theorem step_appL {ops : Array Oper} {o : Oper} {a : Act} {Q : Exit → Act → World → Prop} {K : Act → World → Prop} {w : World} {B q : Nat} {bs : List UInt8} {v : Value} {n : Nat} (cs : List UInt8) (hgd : o.guard = none) (s x : Operand)
    (ho : o.op = .call { callee := .builtin .append, args := #[s, x], argTypes := #[28, 28] }) (hs : a.eval s = v) (hx : a.eval x = .slice (some ⟨q, 0, none⟩) n n) (hn : cs.length = n)
    (hr : Expr.Row B bs v w) (hc : ∀ j (h : j < cs.length), w.cell? ⟨q, j, none⟩ = some (.int .u8 cs[j].toNat)) (hl : bs.length ≤ 10000000) (hn2 : n ≤ 100)
    (h : ∀ v' w', Expr.Row B (bs ++ cs) v' w' → Keep B w w' → K (a.put o.dst v') w') : if Region.wanted o (yielded ops a.tmps) = true then Oper.wp Tryz.prog o a w K Q else K (a.put o.dst undef) w := by
  rw [if_pos (by simp [Region.wanted, hgd])]
  obtain ⟨i0, hi, hz0, hz1, hz2⟩ := info_parts byteInfo
  subst hn
  obtain ⟨v', w', hrun, hown, hg, _⟩ := run_append_own (P := Tryz.prog) w B 28 o.type 5 i0 _ 1 1 Tryz.underlying28 hi hz0 hz1 hz2 rfl (by decide) v bs.length (Lib.byteCells bs) hr.1 ⟨q, 0, none⟩ cs.length cs.length (Lib.byteCells cs) (by rw [Lib.byteCells_length, Nat.mul_one])
    (fun j u hu => by
      have hj : j < cs.length := by have := (List.getElem?_eq_some_iff.1 hu).1; rwa [Lib.byteCells_length] at this
      rw [Go.WideShapes.add_plain, Nat.zero_add, hc j hj]
      unfold Lib.byteCells at hu
      rw [List.getElem?_map, List.getElem?_eq_getElem hj] at hu
      exact hu) (fun u hu => by
      unfold Lib.byteCells at hu
      obtain ⟨x, _, rfl⟩ := List.mem_map.1 hu; rfl) (by unfold maxLen; omega) (by omega) hr.2
  unfold Oper.wp execOp
  simp only [ho, resolve, invoke, builtin, Sem.run_bind, Sem.run_pure, Result.andThen_ok, List.map_toArray, List.map_cons, List.map_nil, hs, hx, hrun]
  refine h v' w' ⟨?_, Nat.le_trans hr.2 hg.size⟩ (Keep.grown hr hg)
  rw [bytes_append, List.length_append]
  exact hown
theorem u8_int (n : Nat) : ((UInt8.ofNat n).toNat : Int) = (n : Int) % 256 := by rw [u8_nat, Int.natCast_emod]; rfl
theorem bytes4 (w : World) (n : Nat) (hn : n ≤ 4294967295) : ∀ j (h : j < (four n).length), (w.alloc (.cells #[.int .u8 ((n : Int) / 16777216), .int .u8 ((n : Int) / 65536 % 256), .int .u8 ((n : Int) / 256 % 256), .int .u8 ((n : Int) % 256)] 5)).cell? ⟨w.heap.size, j, none⟩ = some (.int .u8 (four n)[j].toNat) := fun j hj => by
  have hj4 : j < 4 := hj
  rw [World.cell?_alloc_at _ _ _ _ rfl]
  match j, hj4 with
  | 0, _ =>
    show some (Value.int .u8 ((n : Int) / 16777216)) = some (.int .u8 ((UInt8.ofNat (n / 16777216)).toNat : Int))
    have e : ((n / 16777216 : Nat) : Int) % 256 = (n : Int) / 16777216 := by omega
    rw [u8_int, e]
  | 1, _ => show some (Value.int .u8 ((n : Int) / 65536 % 256)) = some (.int .u8 ((UInt8.ofNat (n / 65536)).toNat : Int)); rw [u8_int, Int.natCast_ediv]; rfl
  | 2, _ => show some (Value.int .u8 ((n : Int) / 256 % 256)) = some (.int .u8 ((UInt8.ofNat (n / 256)).toNat : Int)); rw [u8_int, Int.natCast_ediv]; rfl
  | 3, _ => show some (Value.int .u8 ((n : Int) % 256)) = some (.int .u8 ((UInt8.ofNat n).toNat : Int)); rw [u8_int]
theorem bytes2 (w : World) (n : Nat) {x y : Int} (hx : x = ((n : Int) / 256) % 256) (hy : y = (n : Int) % 256) : ∀ j (h : j < (two n).length), (w.alloc (.cells #[.int .u8 x, .int .u8 y] 5)).cell? ⟨w.heap.size, j, none⟩ = some (.int .u8 (two n)[j].toNat) := fun j hj => by
  have hj4 : j < 2 := hj
  rw [World.cell?_alloc_at _ _ _ _ rfl, hx, hy]
  match j, hj4 with
  | 0, _ => show some (Value.int .u8 ((n : Int) / 256 % 256)) = some (.int .u8 ((UInt8.ofNat (n / 256)).toNat : Int)); rw [u8_int, Int.natCast_ediv]; rfl
  | 1, _ => show some (Value.int .u8 ((n : Int) % 256)) = some (.int .u8 ((UInt8.ofNat n).toNat : Int)); rw [u8_int]

set_option maxRecDepth 100000 in
set_option maxHeartbeats 1000000 in
theorem four_any (B n : Nat) (bs : List UInt8) (v : Value) (w : World) (hr : Expr.Row B bs v w) (hn : n ≤ 4294967295) (hl : bs.length ≤ 9000000) :
    Calls Tryz.prog 45 #[v, .int .i64 n] w (TPost B (bs ++ four n) w) := by
  have HR : Hid (Expr.Row B bs v w) := hr
  clear hr
  go_enter Tryz.func45, Tryz.ntmps45
  go_wp2_with (at_builtin; refine wp_appL (B := B) (bs := bs) (four n) rfl _ _ rfl rfl rfl rfl (HR.out.up ((Below.refl _ _).alloc (Nat.le_refl _) _)) (bytes4 _ _ (by omega)) (by omega) (by decide) ?_; intro v' w' hr' hk'; have R1 : Hid (Expr.Row B (bs ++ four n) v' w') := hr'; have K1 : Hid (Keep B w w') := (Keep.of HR.out.2 ((Below.refl _ _).alloc (Nat.le_refl _) _)).trans hk'; clear hr' hk')
  go_ret
  exact ⟨_, rfl, R1.out, K1.out⟩

theorem row_one (w : World) (z : Nat) (hz : z ≤ 255) : Expr.Row w.heap.size [UInt8.ofNat z] (.slice (some ⟨w.heap.size, 0, none⟩) 1 1) (w.alloc (.cells #[.int .u8 (z : Int)] 5)) := by
  refine ⟨⟨rfl, .inr ⟨w.heap.size, 1, #[.int .u8 (z : Int)], rfl, Nat.le_refl _, heap_alloc_new w _, Nat.le_refl _, by decide, rfl, ?_⟩⟩, by simp⟩
  have e : ((UInt8.ofNat z).toNat : Int) = z := by rw [u8_nat]; omega
  unfold Lib.byteCells
  rw [List.map_cons, List.map_nil, e]; rfl
theorem cellB {W w2 : World} {b o : Nat} {v : Value} (h : W.cell? ⟨b, o, none⟩ = some v) (hb : Below W.heap.size W w2) : w2.cell? ⟨b, o, none⟩ = some v :=
  (hb.cell (p := ⟨b, o, none⟩) (World.block_lt_of_cell? W _ h)).trans h
theorem okM_no {gs : List Bg} {k : Nat} (hk : k < gs.length) (h : okB (gs.getD k nilBg).rows = false) : okM (mkOf gs) = false := by
  unfold okM
  rw [Bool.and_eq_false_iff]
  right
  rw [List.all_eq_false]
  refine ⟨at_ (mkOf gs) k, at_mem (by rw [mkOf_len]; exact hk), ?_⟩
  rw [mkOf_at gs hk, h]; simp
theorem okM_yes {gs : List Bg} (hl : gs.length ≤ 64) (h : ∀ k, k < gs.length → okB (gs.getD k nilBg).rows = true) : okM (mkOf gs) = true := by
  unfold okM
  rw [Bool.and_eq_true, decide_eq_true_eq, List.all_eq_true]
  refine ⟨by rw [mkOf_len]; exact hl, fun x hx => ?_⟩
  obtain ⟨i, hi, rfl⟩ := List.mem_iff_getElem.1 hx
  have hi' : i < gs.length := by rw [← mkOf_len]; exact hi
  have := h i hi'
  rw [← mkOf_at gs hi', at_get hi] at this
  exact this
theorem okB_yes {rs : List Row} (hr : rightB rs = true) (hl : rs.length ≤ 10000) (h : ∀ j, j < rs.length → (rs.getD j zr).1 ≤ 4294967295) : okB rs = true := by
  unfold okB
  rw [hr, decide_eq_true (show rs.length ≤ 65535 by omega), Bool.true_and, Bool.true_and, List.all_eq_true]
  intro x hx
  obtain ⟨i, hi, rfl⟩ := List.mem_iff_getElem.1 hx
  have := h i hi
  rw [getD_get zr hi] at this
  exact decide_eq_true this
theorem okB_many {rs : List Row} {j : Nat} (hj : j < rs.length) (h : ¬ (rs.getD j zr).1 ≤ 4294967295) : okB rs = false := by
  unfold okB
  rw [Bool.and_eq_false_iff]
  right
  rw [List.all_eq_false]
  exact ⟨_, getD_mem hj, by rw [decide_eq_false h]; simp⟩
theorem okB_wrong {rs : List Row} (h : rightB rs = false) : okB rs = false := by unfold okB; rw [h]; rfl

set_option maxRecDepth 100000 in
set_option maxHeartbeats 20000000 in
theorem rencode_m (a : Option Addr) (la ca : Nat) (xs : List Bg) (w : World) (ha : Mks w a la xs) (sx : Sm xs) :
    Calls Tryz.prog 17 #[.slice a la ca] w (EncPost (mkOf xs) w) := by
  have HA : Hid (Mks w a la xs) := ha
  have SX : Hid (Sm xs) := sx
  have LA : Hid (xs.length = la) := ha.1
  have hla : la ≤ 1000 := by have := sx.1; rw [ha.1] at this; exact this
  clear ha sx
  by_cases h64 : (64 : Int) < la
  · obtain ⟨e1, e2⟩ := enc_no (m := mkOf xs) (by unfold okM; rw [decide_eq_false (by rw [mkOf_len, LA.out]; omega)]; rfl)
    have E1 : Hid (encE (mkOf xs) = 1) := e1
    have E2 : Hid (encL (mkOf xs) = []) := e2
    clear e1 e2
    go_enter Tryz.func17, Tryz.ntmps17
    go_wp2
    go_ret2
    exact ⟨.slice none 0 0, by rw [E1.out]; rfl, by rw [E2.out]; exact Expr.row_nil w, Below.refl _ _⟩
  have tl : (UInt8.ofNat la :: bagsE (mkOf xs)).length ≤ 8000000 := by
    have := bagsE_len SX.out
    rw [LA.out] at this
    rw [List.length_cons]; omega
  have TL : Hid ((UInt8.ofNat la :: bagsE (mkOf xs)).length ≤ 8000000) := tl
  have NO : Hid (∀ k, k < la → okB (xs.getD k nilBg).rows = false → encE (mkOf xs) = 1 ∧ encL (mkOf xs) = []) := fun k hk h => enc_no (okM_no (by rw [LA.out]; exact hk) h)
  have YES : Hid ((∀ k, k < la → okB (xs.getD k nilBg).rows = true) → encE (mkOf xs) = 0 ∧ encL (mkOf xs) = UInt8.ofNat la :: bagsE (mkOf xs)) := fun h => by
    have := enc_yes (m := mkOf xs) (okM_yes (by rw [LA.out]; omega) fun k hk => h k (by rw [LA.out] at hk; exact hk))
    rw [mkOf_len, LA.out] at this
    exact this
  have FOUR : Hid (∀ (W : World) (v : Value) (bs : List UInt8) (n : Nat), Expr.Row w.heap.size bs v W → n ≤ 4294967295 → bs.length ≤ 9000000 → Calls Tryz.prog 45 #[v, .int .i64 n] W (TPost w.heap.size (bs ++ four n) W)) := fun W v bs n h1 h2 h3 => four_any _ n bs v W h1 h2 h3
  have hl64 : la ≤ 64 := by omega
  clear tl
  go_enter Tryz.func17, Tryz.ntmps17
  go_wp2
  have R2 : Hid (Expr.Row w.heap.size [UInt8.ofNat la] (.slice (some ⟨w.heap.size, 0, none⟩) 1 1) (w.alloc (.cells #[.int .u8 (la : Int)] 5))) := row_one w la (by omega)
  have B2 : Hid (Below w.heap.size w (w.alloc (.cells #[.int .u8 (la : Int)] 5))) := (Below.refl _ _).alloc (Nat.le_refl _) _
  generalize w.alloc (.cells #[.int .u8 (la : Int)] 5) = w2 at *
  go_loopw [4, 5] (fun u i wr => ∃ (k : Nat) (cur : List UInt8), k ≤ la ∧ i = .int .i64 k ∧ Hid (Expr.Row w.heap.size cur u wr) ∧ Hid (cur ++ bagsE ((mkOf xs).drop k) = UInt8.ofNat la :: bagsE (mkOf xs)) ∧ Hid (∀ j, j < k → okB (xs.getD j nilBg).rows = true) ∧ Hid (Below w.heap.size w wr)) (fun _ i _ => la - (intOf i).toNat)
  case atStart => exact ⟨0, _, by omega, rfl, R2.out, rfl, (fun j h => by omega), B2.out⟩
  case round =>
    clear R2 B2
    obtain ⟨k, cur, hk, rfl, hcur, heq, hok, hnx⟩ := hrel
    by_cases hlt : k < la
    case neg =>
      obtain ⟨e1, e2⟩ := YES.out fun j hj => hok.out j (by omega)
      have E1 : Hid (encE (mkOf xs) = 0) := e1
      have e3 : cur = UInt8.ofNat la :: bagsE (mkOf xs) := by
        have := heq.out
        rw [List.drop_of_length_le (by rw [mkOf_len, LA.out]; omega)] at this
        have h : cur ++ [] = UInt8.ofNat la :: bagsE (mkOf xs) := this
        rwa [List.append_nil] at h
      have E3 : Hid (encL (mkOf xs) = cur) := e2.trans e3.symm
      clear e1 e2 e3
      go_wp2
      go_ret2
      exact ⟨_, by rw [E1.out]; rfl, by rw [E3.out]; exact hcur.out, hnx.out⟩
    have hlt' : (k : Int) < la := by omega
    have hkx : k < xs.length := by rw [LA.out]; exact hlt
    obtain ⟨ba, oa, hae, hal0, ac0, aok⟩ := HA.out.row (k := k) hlt
    have lx := SX.out.at hkx
    have nok := NO.out k hlt
    have hd := bagsE_drop hkx
    have hoks : ∀ j, okB (xs.getD k nilBg).rows = true → j < k + 1 → okB (xs.getD j nilBg).rows = true := fun j h hj => by
      rcases Nat.lt_or_ge j k with g | g
      · exact hok.out j g
      · obtain rfl : j = k := by omega
        exact h
    subst hae
    have HXK : Hid (∀ j, okB (xs.getD k nilBg).rows = true → j < k + 1 → okB (xs.getD j nilBg).rows = true) := hoks
    have NOK : Hid (okB (xs.getD k nilBg).rows = false → encE (mkOf xs) = 1 ∧ encL (mkOf xs) = []) := nok
    have HD : Hid (bagsE ((mkOf xs).drop k) = two (xs.getD k nilBg).rows.length ++ (rowsE (xs.getD k nilBg).rows ++ bagsE ((mkOf xs).drop (k + 1)))) := hd
    clear hoks nok hd hok
    generalize xs.getD k nilBg = g at *
    have KG : Hid (Bags w g.a g.rows.length g.rows) := aok.1
    have LG : Hid (g.rows.length ≤ 10000) := lx
    have CA : Hid (w.cell? ⟨ba, oa + k, none⟩ = some (.slice g.a g.rows.length g.c)) := ac0
    have ac := cellB CA.out hnx.out
    have hal : ba < wr.heap.size := Nat.lt_of_lt_of_le hal0 hnx.out.size
    have hcl : cur.length ≤ 8000000 := by
      have := congrArg List.length heq.out
      rw [List.length_append] at this
      have := TL.out
      omega
    have CL : Hid (cur.length ≤ 8000000) := hcl
    clear aok hcl ac0
    go_wp2_with fail
    refine (rright_q _ _ _ g.rows _ (KG.out.below hnx.out) (by omega)).mono ?_
    rintro e w1 ⟨he, nn, hw1⟩
    subst he
    have hb1 : Below wr.heap.size wr w1 := by rw [hw1]; exact below_drewN (Below.refl _ _) _
    clear hw1
    have H1 : Hid (Below w.heap.size w w1) := then_ hnx.out hb1
    have ac1 := cellB CA.out H1.out
    have hal1 : ba < w1.heap.size := Nat.lt_of_lt_of_le hal0 H1.out.size
    have C1 : Hid (Expr.Row w.heap.size cur u4 w1) := hcur.out.up hb1
    clear hb1 hcur hnx ac hal
    cases hs : rightB g.rows with
    | false =>
      obtain ⟨e1, e2⟩ := NOK.out (okB_wrong hs)
      have E1 : Hid (encE (mkOf xs) = 1) := e1
      have E2 : Hid (encL (mkOf xs) = []) := e2
      clear e1 e2 hs
      go_wp2
      go_ret2
      exact ⟨.slice none 0 0, by rw [E1.out]; rfl, by rw [E2.out]; exact (Expr.row_nil w).up H1.out, H1.out⟩
    | true =>
    have RT : Hid (rightB g.rows = true) := hs
    have hq1 : IntKind.u8.wrap (IntKind.i64.wrap ((g.rows.length : Int) / 256)) = (g.rows.length : Int) / 256 % 256 := by
      simp [IntKind.wrap, IntKind.signed, IntKind.bits]; omega
    have hq2 : IntKind.u8.wrap (g.rows.length : Int) = (g.rows.length : Int) % 256 := by
      simp [IntKind.wrap, IntKind.signed, IntKind.bits]
    clear hs
    go_wp2_with fail
    go_region_law (first
      | (refine step_appL (B := w.heap.size) (bs := cur) (two g.rows.length) rfl _ _ rfl rfl rfl rfl (C1.out.up (by repeat (first | exact Below.refl _ _ | refine Below.drew ?_ | refine Below.alloc ?_ (by simp) _))) (bytes2 _ _ (by first | rfl | exact hq1) (by first | rfl | exact hq2)) (by have := CL.out; omega) (by decide) ?_; intro v3 w3 hr3 hk3; have R3 : Hid (Expr.Row w.heap.size (cur ++ two g.rows.length) v3 w3) := hr3; have K3 : Hid (Below w.heap.size w w3) := (Below.trans (by repeat (first | exact H1.out | refine Below.drew ?_ | refine Below.alloc ?_ (by first | exact H1.out.size | (simp; exact H1.out.size)) _)) hk3.1); clear hr3 hk3))
    all_goals
      have ac3 := cellB CA.out K3.out
      have hal3 : ba < w3.heap.size := Nat.lt_of_lt_of_le hal0 K3.out.size
      have Q3 : Hid ((cur ++ two g.rows.length) ++ (rowsE g.rows ++ bagsE ((mkOf xs).drop (k + 1))) = UInt8.ofNat la :: bagsE (mkOf xs)) := by
        have := heq.out
        rw [HD.out, ← List.append_assoc] at this
        exact this
      clear C1 H1 hal1 ac1 heq HD CL hq1 hq2
      generalize cur ++ two g.rows.length = cur3 at *
      go_wp2_with fail
      go_loopw [4, 7] (fun u i ws => ∃ (j : Nat) (cur2 : List UInt8), j ≤ g.rows.length ∧ i = .int .i64 j ∧ Hid (Expr.Row w.heap.size cur2 u ws) ∧ Hid (cur2 ++ rowsE (g.rows.drop j) = cur3 ++ rowsE g.rows) ∧ Hid (∀ i, i < j → (g.rows.getD i zr).1 ≤ 4294967295) ∧ Hid (Below w.heap.size w ws)) (fun _ i _ => g.rows.length - (intOf i).toNat)
      case atStart => exact ⟨0, cur3, by omega, rfl, R3.out, rfl, (fun i h => by omega), K3.out⟩
      case round =>
        clear R3 K3 ac3 hal3
        obtain ⟨j, cur2, hj, rfl, hcur2, heq2, hfew, hnx2⟩ := hrel
        have acs := cellB CA.out hnx2.out
        have hals : ba < wr.heap.size := Nat.lt_of_lt_of_le hal0 hnx2.out.size
        have SPL : Hid (∀ (i j : Nat), i < j + 1 → (i < j → (g.rows.getD i zr).1 ≤ 4294967295) → (g.rows.getD j zr).1 ≤ 4294967295 → (g.rows.getD i zr).1 ≤ 4294967295) := fun i j h h1 h2 => by
          rcases Nat.lt_or_ge i j with h3 | h3
          · exact h1 h3
          · obtain rfl : i = j := by omega
            exact h2
        by_cases hjl : j < g.rows.length
        case neg =>
          have e2 : cur2 = cur3 ++ rowsE g.rows := by
            have := heq2.out
            rw [List.drop_of_length_le (by omega)] at this
            have h : cur2 ++ [] = cur3 ++ rowsE g.rows := this
            rwa [List.append_nil] at h
          have Q6 : Hid (cur2 ++ bagsE ((mkOf xs).drop (k + 1)) = UInt8.ofNat la :: bagsE (mkOf xs)) := by
            have := Q3.out
            rw [← List.append_assoc, ← e2] at this
            exact this
          have OKB : Hid (okB g.rows = true) := okB_yes RT.out LG.out fun i hi => hfew.out i (by omega)
          clear e2
          go_wp2
          go_roundw
          case rel => exact ⟨k + 1, cur2, by omega, by go_num, hcur2.out, Q6.out, (fun i hi => HXK.out i OKB.out hi), hnx2.out⟩
          case measure => simp [intOf]; omega
        have hjl' : (j : Int) < g.rows.length := by omega
        obtain ⟨bb, off, hbe, hbl0, hat⟩ := KG.out.row (k := j) hjl
        obtain ⟨c0, c1⟩ := hat j hjl
        have hrr : 0 ≤ (g.rows.getD j zr).1 ∧ 0 ≤ (g.rows.getD j zr).2 ∧ (g.rows.getD j zr).2 ≤ 4294967295 := by
          have := rightB_iff.1 RT.out
          have h1 := this.2 _ (getD_mem hjl)
          omega
        have hdr := rowsE_drop hjl
        have MANY : Hid (¬ (g.rows.getD j zr).1 ≤ 4294967295 → okB g.rows = false) := okB_many hjl
        have SP : Hid ((g.rows.getD j zr).1 ≤ 4294967295 → ∀ i, i < j + 1 → (g.rows.getD i zr).1 ≤ 4294967295) := fun h i hi => SPL.out i j hi (fun h3 => hfew.out i h3) h
        clear SPL hfew
        generalize g.rows.getD j zr = r at *
        obtain ⟨r1, r2⟩ := r
        obtain ⟨p1, p3, p4⟩ := hrr
        obtain ⟨m, rfl⟩ : ∃ m : Nat, r1 = m := ⟨r1.toNat, by simp at p1; omega⟩
        obtain ⟨c, rfl⟩ : ∃ c : Nat, r2 = c := ⟨r2.toNat, by simp at p3; omega⟩
        simp only [Int.toNat_natCast] at hdr c0 c1 p4
        have HC4 : Hid (c ≤ 4294967295) := by show c ≤ 4294967295; omega
        have DR : Hid (rowsE (g.rows.drop j) = (four m ++ four c) ++ rowsE (g.rows.drop (j + 1))) := hdr
        have hcl : cur2.length ≤ 8000000 := by
          have h1 := congrArg List.length heq2.out
          have h2 := congrArg List.length Q3.out
          have h3 := TL.out
          simp only [List.length_append] at h1 h2
          omega
        have CL2 : Hid (cur2.length ≤ 8000000) := hcl
        have KA : Hid (g.a = some ⟨bb, off, none⟩) := hbe
        clear hat hdr hcl p1 p3 p4 hbe
        obtain ⟨gr, ga, gc⟩ := g
        simp only at *
        have KA2 := KA.out
        subst KA2
        have D0 : Hid (w.cell? ⟨bb, off + j * 2, none⟩ = some (.int .i64 m)) := c0
        have D1 : Hid (w.cell? ⟨bb, off + j * 2 + 1, none⟩ = some (.int .i64 c)) := c1
        have d0 := cellB c0 hnx2.out
        have d1 := cellB c1 hnx2.out
        clear c0 c1
        have hbl : bb < wr.heap.size := Nat.lt_of_lt_of_le hbl0 hnx2.out.size
        by_cases hm : (m : Int) ≤ 4294967295
        case neg =>
          obtain ⟨e1, e2⟩ := NOK.out (MANY.out hm)
          have E1 : Hid (encE (mkOf xs) = 1) := e1
          have E2 : Hid (encL (mkOf xs) = []) := e2
          have hm' : (4294967295 : Int) < m := by omega
          clear e1 e2 hm
          go_wp2
          go_ret2
          exact ⟨.slice none 0 0, by rw [E1.out]; rfl, by rw [E2.out]; exact (Expr.row_nil w).up hnx2.out, hnx2.out⟩
        have HM4 : Hid (m ≤ 4294967295) := by show m ≤ 4294967295; omega
        have hm' : ¬ (4294967295 : Int) < m := by omega
        have SPM : Hid (∀ i, i < j + 1 → (gr.getD i zr).1 ≤ 4294967295) := SP.out hm
        have CS : Hid (wr.cell? ⟨ba, oa + k, none⟩ = some (.slice (some ⟨bb, off, none⟩) gr.length gc)) := acs
        have DS0 : Hid (wr.cell? ⟨bb, off + j * 2, none⟩ = some (.int .i64 m)) := d0
        have DS1 : Hid (wr.cell? ⟨bb, off + j * 2 + 1, none⟩ = some (.int .i64 c)) := d1
        have F1 : Hid (∀ W, Below wr.heap.size wr W → Calls Tryz.prog 45 #[u4, .int .i64 m] W (TPost w.heap.size (cur2 ++ four m) W)) := fun W hW => FOUR.out W u4 cur2 m (hcur2.out.up hW) HM4.out (by have := CL2.out; omega)
        have F2 : Hid (∀ (W : World) (v : Value), Expr.Row w.heap.size (cur2 ++ four m) v W → Calls Tryz.prog 45 #[v, .int .i64 c] W (TPost w.heap.size ((cur2 ++ four m) ++ four c) W)) := fun W v hW => FOUR.out W v _ c hW HC4.out (by have := CL2.out; rw [List.length_append]; have : (four m).length = 4 := rfl; omega)
        clear hm SP MANY
        go_wp2_with fail
        go_region_held3 (fun w' => w'.cell? ⟨ba, oa + k, none⟩ = some (.slice (some ⟨bb, off, none⟩) gr.length gc) ∧ w'.cell? ⟨bb, off + j * 2, none⟩ = some (.int .i64 m) ∧ w'.cell? ⟨bb, off + j * 2 + 1, none⟩ = some (.int .i64 c)) (go_keep)
          (first
            | (go_at_call 45; refine (F2.out _ _ (R5.out.up (by repeat (first | exact Below.refl _ _ | refine Below.drew ?_)))).mono ?_; rintro e w6 ⟨v6, he, hr6, hk6⟩; subst he; have R6 : Hid (Expr.Row w.heap.size ((cur2 ++ four m) ++ four c) v6 w6) := hr6; have K6 : Hid (Below w.heap.size w w6) := (Below.trans (by repeat (first | exact K5.out | refine Below.drew ?_)) hk6.1); have g5 := cellB CA.out K6.out; have g6 := cellB D0.out K6.out; have g7 := cellB D1.out K6.out; have g8 : ba < w6.heap.size := Nat.lt_of_lt_of_le hal0 K6.out.size; have g9 : bb < w6.heap.size := Nat.lt_of_lt_of_le hbl0 K6.out.size; clear hr6 hk6)
            | (go_at_call 45; refine (F1.out _ (by repeat (first | exact Below.refl _ _ | refine Below.drew ?_))).mono ?_; rintro e w5 ⟨v5, he, hr5, hk5⟩; subst he; have R5 : Hid (Expr.Row w.heap.size (cur2 ++ four m) v5 w5) := hr5; have K5 : Hid (Below w.heap.size w w5) := (Below.trans (by repeat (first | exact hnx2.out | refine Below.drew ?_)) hk5.1); have g0 := cellB CA.out K5.out; have g1 := cellB D0.out K5.out; have g2 := cellB D1.out K5.out; have g3 : ba < w5.heap.size := Nat.lt_of_lt_of_le hal0 K5.out.size; have g4 : bb < w5.heap.size := Nat.lt_of_lt_of_le hbl0 K5.out.size; clear hr5 hk5))
        have Q5 : Hid (((cur2 ++ four m) ++ four c) ++ rowsE (gr.drop (j + 1)) = cur3 ++ rowsE gr) := by
          have := heq2.out
          rw [DR.out, ← List.append_assoc, ← List.append_assoc] at this
          exact this
        go_wp2
        go_roundw
        case rel => exact ⟨j + 1, _, by omega, by go_num, R6.out, Q5.out, SPM.out, K6.out⟩
        case measure => simp [intOf]; omega
end Go.Proofs.YtnjpblmplneojaaGreatDoor.Mark
