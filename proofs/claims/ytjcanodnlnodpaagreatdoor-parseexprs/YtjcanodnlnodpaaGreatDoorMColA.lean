/- Contracts and plain mathematics, together: ParOwn, ParColA. -/
import Derived.Test.YtjcanodnlnodpaaGreatDoorMNK
import Derived.Test.YtjcanodnlnodpaaGreatDoorMChoice
import Derived.Test.YtjcanodnlnodpaaGreatDoorMRows2
import Derived.Deep.CutRange
import Derived.Deep.CutBlock
import Derived.Deep.RegionLaw
/- Appending one part to a row of the call's own, as a step of a walk and of a region that draws; boxes that are written into. -/
namespace Go.Proofs.YtjcanodnlnodpaaGreatDoor.Parse
open Go.RowKit Go.Maps Go.Proofs.YtjcanodnlnodpaaGreatDoor.Frame Go.Proofs.YtjcanodnlnodpaaGreatDoor.Token Go.Proofs.YtjcanodnlnodpaaGreatDoor.Expr Go.Proofs.YtjcanodnlnodpaaGreatDoor.Calc
set_option linter.unusedVariables false
set_option linter.unusedSimpArgs false

theorem run_own {w : World} {B : Nat} {t ty e : TypeId} {z : Value} {size bytes : Nat} {sa : Option Addr} {n c q : Nat} {xs news : List Value} (ht : Tryz.prog.underlying t = some (.slice e)) (hinf : (Tryz.prog.info? e).map (fun i => (i.zero, i.size, i.bytes)) = some (some z, size, bytes)) (hzs : z.cells.size = size) (hsz : 0 < size) (hby : bytes ≤ 1000)
    (hown : w.ownsRow B e size (.slice sa n c) n xs) (hl : news.length = size) (hnews : ∀ (j : Nat) (u : Value), news[j]? = some u → w.cell? ⟨q, j, none⟩ = some u) (h1 : ∀ u ∈ news, u.oneCell' = true) (hn : n ≤ 1000001) (hbase : B ≤ w.heap.size) :
    ∃ a' c' w', (Builtin.append_ #[t, t] ty #[.slice sa n c, .slice (some ⟨q, 0, none⟩) 1 1]).run Tryz.prog w = .ok (.slice a' (n + 1) c') w' ∧ w'.ownsRow B e size (.slice a' (n + 1) c') (n + 1) (xs ++ news) ∧ w.grownBy w' (sa.map Addr.block) ∧ (a'.map Addr.block = sa.map Addr.block ∨ a'.map Addr.block = some w.heap.size) := by
  obtain ⟨i0, hi, hz0, hz1, hz2⟩ := info_parts hinf
  have hml : (1000001 : Nat) + 1 ≤ maxLen := by decide
  obtain ⟨v', w', hr, h2, h3, h4, h5⟩ := run_append_own_at (P := Tryz.prog) w B t ty e i0 z size bytes ht hi hz0 hz1 hz2 hzs hsz (.slice sa n c) n xs hown ⟨q, 0, none⟩ 1 1 news (by rw [hl, Nat.one_mul]) (fun j u hu => by rw [Go.WideShapes.add_plain, Nat.zero_add]; exact hnews j u hu) h1 (by omega) (by
    have : (n + 1) * bytes ≤ 1000002 * 1000 := Nat.mul_le_mul (by omega) hby
    omega) hbase
  obtain ⟨a', c', rfl⟩ := own_slice h2
  rw [own_block] at h3 h5
  rw [own_block] at h5
  exact ⟨a', c', w', hr, h2, h3, h5⟩
theorem step_own {ops : Array Oper} {o : Oper} {a : Act} {Q : Exit → Act → World → Prop} {K : Act → World → Prop} {w : World} {B : Nat} {t e : TypeId} {z : Value} {size bytes : Nat} {sa : Option Addr} {n c q : Nat} {xs news : List Value} (hgd : o.guard = none) (s x : Operand)
    (ho : o.op = .call { callee := .builtin .append, args := #[s, x], argTypes := #[t, t] }) (hs : a.eval s = .slice sa n c) (hx : a.eval x = .slice (some ⟨q, 0, none⟩) 1 1)
    (ht : Tryz.prog.underlying t = some (.slice e)) (hinf : (Tryz.prog.info? e).map (fun i => (i.zero, i.size, i.bytes)) = some (some z, size, bytes)) (hzs : z.cells.size = size) (hsz : 0 < size) (hby : bytes ≤ 1000)
    (hown : w.ownsRow B e size (.slice sa n c) n xs) (hl : news.length = size) (hnews : ∀ (j : Nat) (u : Value), news[j]? = some u → w.cell? ⟨q, j, none⟩ = some u) (h1 : ∀ u ∈ news, u.oneCell' = true) (hn : n ≤ 1000001) (hbase : B ≤ w.heap.size)
    (h : ∀ a' c' w', w'.ownsRow B e size (.slice a' (n + 1) c') (n + 1) (xs ++ news) → w.grownBy w' (sa.map Addr.block) → (a'.map Addr.block = sa.map Addr.block ∨ a'.map Addr.block = some w.heap.size) → K (a.put o.dst (.slice a' (n + 1) c')) w') :
    if Region.wanted o (yielded ops a.tmps) = true then Oper.wp Tryz.prog o a w K Q else K (a.put o.dst undef) w := by
  rw [if_pos (by simp [Region.wanted, hgd])]
  obtain ⟨a', c', w', hr, g1, g2, g3⟩ := run_own (ty := o.type) ht hinf hzs hsz hby hown hl hnews h1 hn hbase
  unfold Oper.wp execOp
  simp only [ho, resolve, invoke, builtin, Sem.run_bind, Sem.run_pure, Result.andThen_ok, List.map_toArray, List.map_cons, List.map_nil, hs, hx, hr]
  exact h a' c' w' g1 g2 g3
theorem wp_own {ops : Array Oper} {rest : List Oper} {o : Oper} {a : Act} {Q : Exit → Act → World → Prop} {w : World} {B : Nat} {t e : TypeId} {z : Value} {size bytes : Nat} {sa : Option Addr} {n c q : Nat} {xs news : List Value} (hgd : o.guard = none) (s x : Operand)
    (ho : o.op = .call { callee := .builtin .append, args := #[s, x], argTypes := #[t, t] }) (hs : a.eval s = .slice sa n c) (hx : a.eval x = .slice (some ⟨q, 0, none⟩) 1 1)
    (ht : Tryz.prog.underlying t = some (.slice e)) (hinf : (Tryz.prog.info? e).map (fun i => (i.zero, i.size, i.bytes)) = some (some z, size, bytes)) (hzs : z.cells.size = size) (hsz : 0 < size) (hby : bytes ≤ 1000)
    (hown : w.ownsRow B e size (.slice sa n c) n xs) (hl : news.length = size) (hnews : ∀ (j : Nat) (u : Value), news[j]? = some u → w.cell? ⟨q, j, none⟩ = some u) (h1 : ∀ u ∈ news, u.oneCell' = true) (hn : n ≤ 1000001) (hbase : B ≤ w.heap.size)
    (h : ∀ a' c' w', w'.ownsRow B e size (.slice a' (n + 1) c') (n + 1) (xs ++ news) → w.grownBy w' (sa.map Addr.block) → (a'.map Addr.block = sa.map Addr.block ∨ a'.map Addr.block = some w.heap.size) → wpList Tryz.prog ops Q rest (a.put o.dst (.slice a' (n + 1) c')) w') :
    wpList Tryz.prog ops Q (o :: rest) a w := by
  obtain ⟨a', c', w', hr, g1, g2, g3⟩ := run_own (ty := o.type) ht hinf hzs hsz hby hown hl hnews h1 hn hbase
  exact wpList_append_run hgd s x _ _ ho hs hx hr (h a' c' w' g1 g2 g3)
theorem new_part (w : World) (us : List Value) (t : TypeId) : ∀ (j : Nat) (u : Value), us[j]? = some u → (w.alloc (.cells us.toArray t)).cell? ⟨w.heap.size, j, none⟩ = some u := fun j u hj => by
  rw [World.cell?_alloc_at _ _ _ _ rfl]; simpa using hj
theorem Bx.put {w : World} {q : Nat} {vs : List Value} (h : Bx w q vs) (i : Nat) (v : Value) (hi : i < vs.length) : Bx (w.setCell ⟨q, i, none⟩ v) q (vs.set i v) := by
  refine ⟨fun j => ?_, fun j => by simpa using h.2.1 j, by simpa [World.setCell] using h.2.2⟩
  by_cases e : i = j
  · subst e
    have h0 : w.cell? ⟨q, i, none⟩ = some vs[i] := (h.1 i).trans (List.getElem?_eq_getElem hi)
    rw [cell_set_eq h0, List.getElem?_set, if_pos rfl, if_pos hi]
  · rw [cell_set_ne (by omega), h.1 j, List.getElem?_set, if_neg e]
theorem RCh.drew {p : Nat} {w w' : World} (h : RCh p w w') : RCh p w w'.drew := ⟨⟨h.1.os, h.1.tape, h.1.output, h.1.size, h.1.block⟩, h.2⟩
def CB (B p : Nat) (en : Int) (w : World) (q : Nat) (us : List Value) (st : St) (W : World) : Prop := RS B W p en st ∧ RCh p w W ∧ Bx W q us ∧ w.heap.size ≤ q ∧ p < w.heap.size
theorem CB.on {B p : Nat} {en : Int} {w : World} {q : Nat} {us : List Value} {st st' : St} {W W' : World} (h : CB B p en w q us st W) (hr : RS B W' p en st') (hc : RCh p W W') : CB B p en w q us st' W' :=
  ⟨hr, h.2.1.trans hc, h.2.2.1.ch hc.1 (by have := h.2.2.2; omega), h.2.2.2⟩
theorem CB.below {B p : Nat} {en : Int} {w : World} {q : Nat} {us : List Value} {st : St} {W W' : World} (h : CB B p en w q us st W) (hb : Below W.heap.size W W') : CB B p en w q us st W' := h.on (h.1.below hb) (RCh.of_below h.1.lt hb)
theorem CB.drew {B p : Nat} {en : Int} {w : World} {q : Nat} {us : List Value} {st : St} {W : World} (h : CB B p en w q us st W) : CB B p en w q us st W.drew := h.below (Below.refl _ _).drew
theorem CB.st {B p : Nat} {en : Int} {w : World} {q : Nat} {us : List Value} {st : St} {W : World} (h : CB B p en w q us st W) (i : Nat) (v : Value) (hi : i < us.length) : CB B p en w q (us.set i v) st (W.setCell ⟨q, i, none⟩ v) := by
  have hq := h.2.2.2
  have hB := h.1.1.1
  have hc : Ch (fun b => b = q) W (W.setCell ⟨q, i, none⟩ v) := (Ch.refl (fun b => b = q) W).setCell (b := q) (o := i) (.inl rfl) v
  exact ⟨h.1.ch hc (fun b hb => by subst hb; omega) (by omega), rch_own (L := w.heap.size) (Nat.le_refl _) h.2.1 (hc.mono fun b _ e => by subst e; exact hq.1) hq.2, h.2.2.1.put i v hi, hq⟩
theorem CB.new {B p : Nat} {en : Int} {w w1 : World} {st : St} (h : RS B w1 p en st) (hr : RCh p w w1) (hp : p < w.heap.size) (cs : Array Value) (t : TypeId) : CB B p en w w1.heap.size cs.toList st (w1.alloc (.cells cs t)) :=
  have hal : Below w1.heap.size w1 (w1.alloc (.cells cs t)) := (Below.refl _ _).alloc (Nat.le_refl _) _
  ⟨h.below hal, hr.trans (RCh.of_below h.lt hal), Bx.new w1 cs t, hr.1.size, hp⟩
theorem alive_back {α : Type} {en : Int} {st st' : St} {x : List KT → PR α} {P : α → Prop} (h : Res en st x st' P) {s : List TI} (hs : st' = .ok s) : ∃ r, st = .ok r ∧ s.length ≤ r.length := by
  cases st with
  | error e => have := h.dead rfl; rw [hs] at this; cases this
  | ok r => exact ⟨r, rfl, res_rest h hs⟩
theorem took_le {st : St} {x : List UInt8} {s : List TI} (hs : tookS st x = .ok s) : ∃ r, st = .ok r ∧ s.length ≤ r.length := by
  cases st with
  | error e => cases hs
  | ok r =>
    refine ⟨r, rfl, ?_⟩
    have hs : (if peekL (r.map ktI) = x then (Except.ok r.tail : St) else .ok r) = .ok s := hs
    split at hs
    · injection hs with hs; subst hs; simp
    · injection hs with hs; subst hs; exact Nat.le_refl _
theorem rest_of {B p : Nat} {en : Int} {W : World} {st : St} {N : Nat} (h : RS B W p en st) (hN : ∀ s, st = .ok s → s.length ≤ N) : restLen W p ≤ N := by
  cases st with
  | error e => rw [restLen_dead h]; exact Nat.zero_le _
  | ok r => rw [restLen_ok h]; exact hN r rfl
theorem rs_fr {B p : Nat} {en : Int} {W : World} {st : St} (h : RS B W p en st) (o : Nat) : W.frozen? ⟨p, o, none⟩ = false := by
  obtain ⟨_, h⟩ := h
  cases st with
  | ok r => obtain ⟨_, _, h, _⟩ := h; exact h.2.2.2.2 o
  | error e => exact h.1.2.2.2.2 o
theorem fresh_alive {en : Int} {f : List UInt8 → Option Nat} {st : St} {s : List TI} (h : freshF en f st = .ok s) : f (nameF en st).1 = none := by
  unfold freshF at h
  split at h
  · rename_i hs
    cases hn : (nameF en st).2 with
    | error e => rw [hn] at h; cases h
    | ok r => rw [hn] at h; cases h
  · rename_i hs
    cases hf : f (nameF en st).1 with
    | none => rfl
    | some k => rw [hf] at hs; exact absurd rfl hs
def FreshPost (B p : Nat) (en : Int) (f : List UInt8 → Option Nat) (names : List (List UInt8)) (st : St) (w : World) (e : Ending) (w' : World) : Prop := ∃ s st', e = .returned (.string (str s)) ∧ RS B w' p en st' ∧ RCh p w w' ∧ s.length ≤ 140737488355328 ∧ Res en st (freshP names) st' (fun u => u = s) ∧ ∀ r, st' = .ok r → f s = none
theorem fresh_post (B p b n kk : Nat) (f : List UInt8 → Option Nat) (names : List (List UInt8)) (hf : f = nameAt names) (en : Int) (st : St) (w : World) (h : RS B w p en st) (hm : SMp w b n kk f) (hb : b ≠ p) :
    Calls Tryz.prog 190 #[ptr p, .map (some b)] w (FreshPost B p en f names st w) :=
  (fresh_any B p b n kk f en st w h hm hb).mono fun e w' ⟨he, h1, h2⟩ => ⟨_, _, he, h1, h2, nameF_len h, fresh_res en st hf, fun r hr => fresh_alive hr⟩
def KnownPost (B p : Nat) (en : Int) (names : List (List UInt8)) (st : St) (w : World) (e : Ending) (w' : World) : Prop := ∃ (z : Int) (st' : St), e = .returned (.int .i64 z) ∧ RS B w' p en st' ∧ RCh p w w' ∧ Res en st (findP names) st' (fun u => u = z) ∧ In64 z
theorem nameAt_le {names : List (List UInt8)} {s : List UInt8} {k : Nat} (h : nameAt names s = some k) : k < names.length := by
  unfold nameAt at h
  split at h
  · rename_i hm; injection h with h; subst h; exact List.idxOf_lt_length_iff.2 hm
  · cases h
theorem known_post (B p b n kk : Nat) (f : List UInt8 → Option Nat) (names : List (List UInt8)) (hf : f = nameAt names) (hl : names.length ≤ 3000000) (en : Int) (st : St) (w : World) (h : RS B w p en st) (hm : SMp w b n kk f) (hb : b ≠ p) :
    Calls Tryz.prog 82 #[ptr p, .map (some b)] w (KnownPost B p en names st w) :=
  (known_any B p b n kk f en st w h hm hb).mono fun e w' ⟨he, h1, h2⟩ => ⟨_, _, he, h1, h2, known_res en st hf, by
    cases hk : f (nameF en st).1 with
    | none => exact ⟨by show (-9223372036854775808 : Int) ≤ ((0 : Nat) : Int); decide, by show ((0 : Nat) : Int) ≤ 9223372036854775807; decide⟩
    | some k =>
      have := nameAt_le (hf ▸ hk)
      exact ⟨by show (-9223372036854775808 : Int) ≤ ((k : Nat) : Int); omega, by show ((k : Nat) : Int) ≤ 9223372036854775807; omega⟩⟩
def IntPost (B p : Nat) (en : Int) (x : List KT → PR Int) (st : St) (w : World) (e : Ending) (w' : World) : Prop := ∃ (z : Int) (st' : St), e = .returned (.int .i64 z) ∧ RS B w' p en st' ∧ RCh p w w' ∧ Res en st x st' (fun u => u = z)
theorem integer_post (B p : Nat) (en : Int) (st : St) (w : World) (h : RS B w p en st) : Calls Tryz.prog 191 #[ptr p] w (IntPost B p en intP st w) :=
  (integer_any B p en st w h).mono fun e w' ⟨he, h1, h2⟩ => ⟨_, _, he, h1, h2, integer_res en st⟩
theorem number_post (B p : Nat) (en : Int) (st : St) (w : World) (h : RS B w p en st) : Calls Tryz.prog 200 #[ptr p] w (IntPost B p en numP st w) :=
  (number_any B p en st w h).mono fun e w' ⟨he, h1, h2⟩ => ⟨_, _, he, h1, h2, number_res en st⟩
end Go.Proofs.YtjcanodnlnodpaaGreatDoor.Parse
/- A colour that is read: a contract of the call, over the turned program. -/
namespace Go.Proofs.YtjcanodnlnodpaaGreatDoor.Parse
open Go.RowKit Go.Maps Go.Proofs.YtjcanodnlnodpaaGreatDoor.Frame Go.Proofs.YtjcanodnlnodpaaGreatDoor.Token Go.Proofs.YtjcanodnlnodpaaGreatDoor.Expr Go.Proofs.YtjcanodnlnodpaaGreatDoor.Calc
set_option linter.unusedVariables false
set_option linter.unusedSimpArgs false

theorem infoCol : (Tryz.prog.info? 87).map (fun i => (i.zero, i.size, i.bytes)) = some (some (.agg #[.string ByteArray.empty, .int .i64 0, .int .i64 0, .int .i64 0, .slice none 0 0, .int .i64 0, .int .i64 0]), 7, 80) := by kernel_rfl
def colourK (cs : List PCol) (s : List UInt8) (r1 : List KT) : PR PCol :=
  if peekL r1 = [105, 110, 116] then (intP r1.tail).bind fun lo => (wantL [46, 46] lo.2).bind fun r2 => (intP r2).bind fun hi => (.ok (⟨s, 1, lo.1, hi.1, [], 0, 0⟩, hi.2) : PR PCol)
  else if peekL r1 = [101, 110, 117, 109] then (enumP (r1.length + 1) [] r1.tail).bind fun l => .ok (⟨s, 2, 0, 0, l.1, 0, 0⟩, l.2)
  else if peekL r1 = [112, 97, 105, 114] then (findP (cs.map PCol.name) r1.tail).bind fun a => (wantL [44] a.2).bind fun r2 => (findP (cs.map PCol.name) r2).bind fun b => .ok (⟨s, 3, 0, 0, [], a.1, b.1⟩, b.2)
  else .error (r1, 4)
theorem colour_eq (cs : List PCol) (r : List KT) : colourP cs r = (freshP (cs.map PCol.name) r).bind fun s => (wantL [61] s.2).bind fun r1 => (colourK cs s.1 r1).bind fun c => (wantL [59] c.2).bind fun r3 => .ok (c.1, r3) := rfl
theorem colour_res {en : Int} {cs : List PCol} {s0 s1 s2 s3 s4 : St} {s : List UInt8} {c : PCol} (h1 : Res en s0 (freshP (cs.map PCol.name)) s1 fun u => u = s) (h2 : Res en s1 (wantP [61]) s2 fun _ => True) (h3 : Res en s2 (colourK cs s) s3 fun u => u = c) (h4 : Res en s3 (wantP [59]) s4 fun _ => True) : Res en s0 (colourP cs) s4 fun u => u = c := by
  refine Res.congr ?_ (fun r => (colour_eq cs r).symm)
  refine Res.bindp h1 ?_
  dsimp only
  refine Res.want h2 (Res.bindp h3 ?_)
  dsimp only
  exact Res.want h4 (Res.pure rfl)
theorem colK_int {en : Int} {cs : List PCol} {nm : List UInt8} {s2 s3 s4 s5 : St} {lo hi : Int} (b : tookB s2 [105, 110, 116] = true) (h1 : Res en (tookS s2 [105, 110, 116]) intP s3 fun u => u = lo) (h2 : Res en s3 (wantP [46, 46]) s4 fun _ => True) (h3 : Res en s4 intP s5 fun u => u = hi) : Res en s2 (colourK cs nm) s5 fun u => u = ⟨nm, 1, lo, hi, [], 0, 0⟩ := by
  refine took_res (x := fun r => (intP r).bind fun lo => (wantL [46, 46] lo.2).bind fun r2 => (intP r2).bind fun hi => (.ok (⟨nm, 1, lo.1, hi.1, [], 0, 0⟩, hi.2) : PR PCol)) (by decide) b ?_ (fun r hr => by unfold colourK; rw [if_pos hr])
  refine Res.bindp h1 ?_
  dsimp only
  refine Res.want h2 (Res.bindp h3 ?_)
  dsimp only
  exact Res.pure rfl
theorem colK_enum {en : Int} {cs : List PCol} {nm : List UInt8} {s2 s3 : St} {l : List (List UInt8)} (b0 : tookB s2 [105, 110, 116] = false) (b : tookB s2 [101, 110, 117, 109] = true) (h1 : Res en (tookS s2 [101, 110, 117, 109]) (enumR []) s3 fun u => u = l) : Res en s2 (colourK cs nm) s3 fun u => u = ⟨nm, 2, 0, 0, l, 0, 0⟩ := by
  refine took_res (x := fun r => (enumR [] r).bind fun l => .ok (⟨nm, 2, 0, 0, l.1, 0, 0⟩, l.2)) (by decide) b (Res.map h1 (f := fun l => (⟨nm, 2, 0, 0, l, 0, 0⟩ : PCol)) (fun u hu => by rw [hu])) (fun r hr => ?_)
  unfold colourK
  rw [if_neg (by rw [hr]; decide), if_pos hr, enum_R _ _ _ (by have := tail_len hr (by decide); omega)]
theorem colK_pair {en : Int} {cs : List PCol} {nm : List UInt8} {s2 s3 s4 s5 : St} {x y : Int} (b0 : tookB s2 [105, 110, 116] = false) (b1 : tookB s2 [101, 110, 117, 109] = false) (b : tookB s2 [112, 97, 105, 114] = true) (h1 : Res en (tookS s2 [112, 97, 105, 114]) (findP (cs.map PCol.name)) s3 fun u => u = x) (h2 : Res en s3 (wantP [44]) s4 fun _ => True) (h3 : Res en s4 (findP (cs.map PCol.name)) s5 fun u => u = y) : Res en s2 (colourK cs nm) s5 fun u => u = ⟨nm, 3, 0, 0, [], x, y⟩ := by
  refine took_res (x := fun r => (findP (cs.map PCol.name) r).bind fun a => (wantL [44] a.2).bind fun r2 => (findP (cs.map PCol.name) r2).bind fun b => (.ok (⟨nm, 3, 0, 0, [], a.1, b.1⟩, b.2) : PR PCol)) (by decide) b ?_ (fun r hr => by unfold colourK; rw [if_neg (by rw [hr]; decide), if_neg (by rw [hr]; decide), if_pos hr])
  refine Res.bindp h1 ?_
  dsimp only
  refine Res.want h2 (Res.bindp h3 ?_)
  dsimp only
  exact Res.pure rfl
theorem colK_no {en : Int} {cs : List PCol} {nm : List UInt8} {s2 : St} (b0 : tookB s2 [105, 110, 116] = false) (b1 : tookB s2 [101, 110, 117, 109] = false) (b2 : tookB s2 [112, 97, 105, 114] = false) {P : PCol → Prop} : Res en s2 (colourK cs nm) (failS s2 (hereF en s2).at_ 4) P := by
  cases s2 with
  | error x => exact Res.of_dead x
  | ok r =>
    show Res en (.ok r) _ (.error ((hereF en (.ok r)).at_, 4)) _
    rw [here_plc]
    refine Res.of_err (z := r.map ktI) ?_ List.suffix_rfl rfl
    unfold colourK
    rw [if_neg (of_decide_eq_false b0), if_neg (of_decide_eq_false b1), if_neg (of_decide_eq_false b2)]
theorem held_none {M : Nat → Prop} {W : World} : Held M W fun W' => Cs W' none (strs []) := fun _ _ => .inl rfl
theorem held_row {M : Nat → Prop} {L : Nat} {W : World} {a : Option Addr} {c : Nat} {l : List (List UInt8)} (h : SRow L W a c l) (hM : ∀ b, M b → b < L) : Held M W fun W' => Cs W' a (strs l) := own_held h hM
theorem row_set {L : Nat} {W : World} {a : Option Addr} {c : Nat} {l : List (List UInt8)} (h : SRow L W a c l) {q o : Nat} {v : Value} (hq : q < L) : SRow L (W.setCell ⟨q, o, none⟩ v) a c l :=
  own_ch2 h ((Ch.refl (fun b => b = q) W).setCell (b := q) (o := o) (.inl rfl) v) fun k hk e => by
    have := (World.ownsRow.lt h k hk).1
    omega
def colV (c : PCol) (a : Option Addr) (cap : Nat) : List Value := [.string (str c.name), .int .i64 c.kind, .int .i64 c.lo, .int .i64 c.hi, .slice a c.names.length cap, .int .i64 c.first, .int .i64 c.thn]
theorem seven {W : World} {q : Nat} {x0 x1 x2 x3 x4 x5 x6 : Value} (h : Bx W q [x0, x1, x2, x3, x4, x5, x6]) : (W.cell? ⟨q, 0, none⟩ = some x0 ∧ W.cell? ⟨q, 1, none⟩ = some x1 ∧ W.cell? ⟨q, 2, none⟩ = some x2 ∧ W.cell? ⟨q, 3, none⟩ = some x3 ∧ W.cell? ⟨q, 4, none⟩ = some x4 ∧ W.cell? ⟨q, 5, none⟩ = some x5 ∧ W.cell? ⟨q, 6, none⟩ = some x6 ∧ q < W.heap.size) ∧ (W.frozen? ⟨q, 0, none⟩ = false ∧ W.frozen? ⟨q, 1, none⟩ = false ∧ W.frozen? ⟨q, 2, none⟩ = false ∧ W.frozen? ⟨q, 3, none⟩ = false ∧ W.frozen? ⟨q, 4, none⟩ = false ∧ W.frozen? ⟨q, 5, none⟩ = false ∧ W.frozen? ⟨q, 6, none⟩ = false) :=
  ⟨⟨h.1 0, h.1 1, h.1 2, h.1 3, h.1 4, h.1 5, h.1 6, h.2.2⟩, h.2.1 0, h.2.1 1, h.2.1 2, h.2.1 3, h.2.1 4, h.2.1 5, h.2.1 6⟩
def CI (B p : Nat) (en : Int) (n : PNet) (m : NM) (w : World) (s : List UInt8) (s2 : St) (q : Nat) (W : World) : Prop := ∃ (c : PCol) (a : Option Addr) (cap : Nat) (st' : St), CB B p en w q (colV c a cap) st' W ∧ Held (m.H p B) W (fun W' => Cs W' a (strs c.names)) ∧ c.names.length ≤ 1000001 ∧ c.name = s ∧ Res en s2 (colourK n.colours s) st' fun u => u = c
def ColPost (B p : Nat) (en : Int) (r : List TI) (n : PNet) (w : World) (e : Ending) (w' : World) : Prop := e = .returned (.tuple #[]) ∧ ∃ (c : PCol) (st' : St) (m' : NM), RS B w' p en st' ∧ NK B w' p { n with colours := n.colours ++ [c] } m' ∧ (∀ s, st' = .ok s → NA { n with colours := n.colours ++ [c] } m') ∧ Ch (fun b => B ≤ b) w w' ∧ Res en (.ok r) (colourP n.colours) st' fun u => u = c

set_option maxRecDepth 100000 in
set_option maxHeartbeats 8000000 in
theorem readColour_any (B p : Nat) (en : Int) (r : List TI) (n : PNet) (m : NM) (w : World) (h : RS B w p en (.ok r)) (hK : NK B w p n m) (hA : NA n m) (hn : n.colours.length ≤ 1000000) (hr : r.length ≤ 1000000) : Calls Tryz.prog 139 #[ptr p] w (ColPost B p en r n w) := by
  have hp := h.lt
  have H0 : Hid (RS B w p en (.ok r) ∧ NK B w p n m ∧ NA n m) := ⟨h, hK, hA⟩
  have HNE : Hid (m.mc ≠ p) := hK.ne.1
  have c9 := hK.1.2.2.1
  have FR : Hid (∀ W, Below w.heap.size w W → Calls Tryz.prog 190 #[ptr p, .map (some m.mc)] W (FreshPost B p en m.fc (n.colours.map PCol.name) (.ok r) W)) :=
    fun W hW => fresh_post B p m.mc _ _ m.fc _ hA.1.1 en (.ok r) W (h.below hW) (hK.2.2.1.1.below hW) hK.ne.1
  have hBA : Below w.heap.size w w.drew := (Below.refl _ _).drew
  have hBZ : Below w.heap.size w (w.alloc (.cells #[.string ⟨#[]⟩, .int .i64 0, .int .i64 0, .int .i64 0, .slice none 0 0, .int .i64 0, .int .i64 0] 87)).drew := ((Below.refl _ _).alloc (Nat.le_refl _) _).drew
  have HBB : Hid (_ ∧ _) := ⟨hBA, hBZ⟩
  have HZ : Hid (Bx (w.alloc (.cells #[.string ⟨#[]⟩, .int .i64 0, .int .i64 0, .int .i64 0, .slice none 0 0, .int .i64 0, .int .i64 0] 87)).drew w.heap.size [.string ⟨#[]⟩, .int .i64 0, .int .i64 0, .int .i64 0, .slice none 0 0, .int .i64 0, .int .i64 0]) := (Bx.new w #[.string ⟨#[]⟩, .int .i64 0, .int .i64 0, .int .i64 0, .slice none 0 0, .int .i64 0, .int .i64 0] 87).below (Below.refl _ _).drew
  clear hBA hBZ
  generalize hst : (Except.ok r : St) = st at *
  have HST : Hid (Except.ok r = st) := hst
  clear h hK hA hst
  unfold ptr at *
  go_enter Tryz.func139, Tryz.ntmps139
  go_upto_region 0 with fail
  go_cut [2] from 3 (fun s wr => ∃ q nm s1, s = .pointer (some ⟨q, 0, none⟩) ∧ Hid (CB B p en w q (colV ⟨nm, 0, 0, 0, [], 0, 0⟩ none 0) s1 wr ∧ nm.length ≤ 140737488355328 ∧ Res en st (freshP (n.colours.map PCol.name)) s1 (fun u => u = nm) ∧ ∀ r', s1 = .ok r' → m.fc nm = none))
  case first =>
    go_region_law (first
      | (go_simp; go_at_call 190; refine (FR.out w.drew HBB.out.1).mono ?_; rintro e w1 ⟨nm, s1, he, h1, hr1, hl1, R1, al1⟩; subst he; have KA : Hid (∀ cs t, CB B p en w w1.heap.size cs.toList s1 (w1.alloc (.cells cs t))) := (fun cs t => CB.new h1 ((RCh.refl p w).drew.trans hr1) hp cs t); have KB : Hid (nm.length ≤ 140737488355328 ∧ Res en st (freshP (n.colours.map PCol.name)) s1 (fun u => u = nm) ∧ ∀ r', s1 = .ok r' → m.fc nm = none) := ⟨hl1, R1, al1⟩; clear h1 hr1 hl1 R1 al1)
      | (go_simp; go_at_call 190; refine (FR.out _ HBB.out.2).mono ?_; rintro e w1 ⟨nm, s1, he, h1, hr1, hl1, R1, al1⟩; subst he; have KA : Hid (CB B p en w w.heap.size [.string ⟨#[]⟩, .int .i64 0, .int .i64 0, .int .i64 0, .slice none 0 0, .int .i64 0, .int .i64 0] s1 w1) := (show CB _ _ _ _ _ _ _ _ from ⟨h1, (RCh.of_below hp HBB.out.2).trans hr1, HZ.out.ch hr1.1 (by show ¬ w.heap.size = p; omega), Nat.le_refl _, hp⟩); have KB : Hid (nm.length ≤ 140737488355328 ∧ Res en st (freshP (n.colours.map PCol.name)) s1 (fun u => u = nm) ∧ ∀ r', s1 = .ok r' → m.fc nm = none) := ⟨hl1, R1, al1⟩; obtain ⟨⟨g0, g1, g2, g3, g4, g5, g6, gl⟩, f0, f1, f2, f3, f4, f5, f6⟩ := seven KA.out.2.2.1; clear h1 hr1 hl1 R1 al1))
    all_goals
      go_wp2_with fail
      go_meet
      case rel =>
        refine ⟨_, nm, s1, rfl, ?_⟩
        first
          | exact ⟨KA.out _ _, KB.out⟩
          | exact ⟨((((((KA.out.st 0 _ (by simp)).st 1 _ (by simp)).st 2 _ (by simp)).st 3 _ (by simp)).st 4 _ (by simp)).st 5 _ (by simp)).st 6 _ (by simp), KB.out⟩
  case rest =>
    obtain ⟨q, nm, s1, rfl, HC⟩ := hcut
    clear FR HBB HZ
    go_wp2_with fail
    refine (must_l B p en s1 _ [61] wc HC.out.1.1 rfl (by decide)).mono ?_
    rintro e w2 ⟨he, s2, h2, hr2, R2⟩
    subst he
    have H2 : Hid (CB B p en w q (colV ⟨nm, 0, 0, 0, [], 0, 0⟩ none 0) s2 w2 ∧ Res en s1 (wantP [61]) s2 fun _ => True) := ⟨HC.out.1.on h2 hr2, R2⟩
    have HN2 : Hid (∀ s, s2 = .ok s → s.length ≤ 1000000) := fun s hs => by
      obtain ⟨z1, e1, l1⟩ := alive_back R2 hs
      obtain ⟨z0, e0, l0⟩ := alive_back HC.out.2.2.1 e1
      rw [← HST.out] at e0
      injection e0 with e0
      subst e0
      omega
    have H2A : Hid (CB B p en w q [.string (str nm), .int .i64 0, .int .i64 0, .int .i64 0, .slice none 0 0, .int .i64 0, .int .i64 0] s2 w2) := H2.out.1
    clear h2 hr2 R2
    --WALK
    go_upto_block 0 with fail
    go_cut [2] from 3 (fun s wr => s = .pointer (some ⟨q, 0, none⟩) ∧ Hid (CI B p en n m w nm s2 q wr))
    case first =>
      cases b0 : tookB s2 [105, 110, 116] with
      | true =>
        have B0 : Hid (tookB s2 [105, 110, 116] = true) := b0
        clear b0
        go_wp2_with fail
        refine (took_t B p en s2 _ [105, 110, 116] w2 H2A.out.1 rfl (by decide) B0.out).mono ?_
        rintro e w1 ⟨he, h1, hr1⟩
        subst he
        have K1 : Hid (CB B p en w q [.string (str nm), .int .i64 0, .int .i64 0, .int .i64 0, .slice none 0 0, .int .i64 0, .int .i64 0] (tookS s2 [105, 110, 116]) w1) := H2A.out.on h1 hr1
        clear h1 hr1
        have g1 : w1.cell? ⟨q, 1, none⟩ = some (.int .i64 0) := K1.out.2.2.1.1 1
        have f1 : w1.frozen? ⟨q, 1, none⟩ = false := K1.out.2.2.1.2.1 1
        have gl : q < w1.heap.size := K1.out.2.2.1.2.2
        have K2 : Hid (CB B p en w q [.string (str nm), .int .i64 1, .int .i64 0, .int .i64 0, .slice none 0 0, .int .i64 0, .int .i64 0] (tookS s2 [105, 110, 116]) (w1.setCell ⟨q, 1, none⟩ (.int .i64 1))) := K1.out.st 1 (.int .i64 1) (by simp)
        go_wp2_with fail
        refine (integer_post B p en (tookS s2 [105, 110, 116]) (w1.setCell ⟨q, 1, none⟩ (.int .i64 1)) K2.out.1).mono ?_
        rintro e w3 ⟨z3, s3, he, h3, hr3, r3⟩
        subst he
        have K3 : Hid (CB B p en w q [.string (str nm), .int .i64 1, .int .i64 0, .int .i64 0, .slice none 0 0, .int .i64 0, .int .i64 0] s3 w3) := K2.out.on h3 hr3
        clear g1 f1 gl
        clear h3 hr3
        have R3 : Hid (Res en (tookS s2 [105, 110, 116]) intP s3 fun u => u = z3) := r3
        clear r3
        have g2 : w3.cell? ⟨q, 2, none⟩ = some (.int .i64 0) := K3.out.2.2.1.1 2
        have f2 : w3.frozen? ⟨q, 2, none⟩ = false := K3.out.2.2.1.2.1 2
        have gl : q < w3.heap.size := K3.out.2.2.1.2.2
        have K4 : Hid (CB B p en w q [.string (str nm), .int .i64 1, .int .i64 z3, .int .i64 0, .slice none 0 0, .int .i64 0, .int .i64 0] s3 (w3.setCell ⟨q, 2, none⟩ (.int .i64 z3))) := K3.out.st 2 (.int .i64 z3) (by simp)
        go_wp2_with fail
        refine (must_l B p en s3 _ [46, 46] (w3.setCell ⟨q, 2, none⟩ (.int .i64 z3)) K4.out.1 rfl (by decide)).mono ?_
        rintro e w5 ⟨he, s5, h5, hr5, r5⟩
        subst he
        have K5 : Hid (CB B p en w q [.string (str nm), .int .i64 1, .int .i64 z3, .int .i64 0, .slice none 0 0, .int .i64 0, .int .i64 0] s5 w5) := K4.out.on h5 hr5
        clear g2 f2 gl
        clear h5 hr5
        have R5 : Hid (Res en s3 (wantP [46, 46]) s5 fun _ => True) := r5
        clear r5
        go_wp2_with fail
        refine (integer_post B p en s5 w5 K5.out.1).mono ?_
        rintro e w6 ⟨z6, s6, he, h6, hr6, r6⟩
        subst he
        have K6 : Hid (CB B p en w q [.string (str nm), .int .i64 1, .int .i64 z3, .int .i64 0, .slice none 0 0, .int .i64 0, .int .i64 0] s6 w6) := K5.out.on h6 hr6
        clear h6 hr6
        have R6 : Hid (Res en s5 intP s6 fun u => u = z6) := r6
        clear r6
        have g3 : w6.cell? ⟨q, 3, none⟩ = some (.int .i64 0) := K6.out.2.2.1.1 3
        have f3 : w6.frozen? ⟨q, 3, none⟩ = false := K6.out.2.2.1.2.1 3
        have gl : q < w6.heap.size := K6.out.2.2.1.2.2
        have K7 : Hid (CB B p en w q [.string (str nm), .int .i64 1, .int .i64 z3, .int .i64 z6, .slice none 0 0, .int .i64 0, .int .i64 0] s6 (w6.setCell ⟨q, 3, none⟩ (.int .i64 z6))) := K6.out.st 3 (.int .i64 z6) (by simp)
        have RR : Hid (Res en s2 (colourK n.colours nm) s6 fun u => u = ⟨nm, 1, z3, z6, [], 0, 0⟩) := colK_int B0.out R3.out R5.out R6.out
        go_wp2_with fail
        go_meet
        case rel =>
          refine ⟨rfl, ?_⟩
          exact ⟨⟨nm, 1, z3, z6, [], 0, 0⟩, none, 0, s6, K7.out, held_none, by simp, rfl, RR.out⟩
      | false =>
        have B0 : Hid (tookB s2 [105, 110, 116] = false) := b0
        clear b0
        cases b1 : tookB s2 [101, 110, 117, 109] with
        | true =>
          have B1 : Hid (tookB s2 [101, 110, 117, 109] = true) := b1
          clear b1
          go_wp2_with fail
          refine (took_f B p en s2 _ [105, 110, 116] w2 H2A.out.1 rfl (by decide) B0.out).mono ?_
          rintro e w8 ⟨he, h8, hr8⟩
          subst he
          have K8 : Hid (CB B p en w q [.string (str nm), .int .i64 0, .int .i64 0, .int .i64 0, .slice none 0 0, .int .i64 0, .int .i64 0] s2 w8) := H2A.out.on h8 hr8
          clear h8 hr8
          go_wp2_with fail
          refine (took_t B p en s2 _ [101, 110, 117, 109] w8 K8.out.1 rfl (by decide) B1.out).mono ?_
          rintro e w9 ⟨he, h9, hr9⟩
          subst he
          have K9 : Hid (CB B p en w q [.string (str nm), .int .i64 0, .int .i64 0, .int .i64 0, .slice none 0 0, .int .i64 0, .int .i64 0] (tookS s2 [101, 110, 117, 109]) w9) := K8.out.on h9 hr9
          clear h9 hr9
          have g1 : w9.cell? ⟨q, 1, none⟩ = some (.int .i64 0) := K9.out.2.2.1.1 1
          have f1 : w9.frozen? ⟨q, 1, none⟩ = false := K9.out.2.2.1.2.1 1
          have gl : q < w9.heap.size := K9.out.2.2.1.2.2
          have K10 : Hid (CB B p en w q [.string (str nm), .int .i64 2, .int .i64 0, .int .i64 0, .slice none 0 0, .int .i64 0, .int .i64 0] (tookS s2 [101, 110, 117, 109]) (w9.setCell ⟨q, 1, none⟩ (.int .i64 2))) := K9.out.st 1 (.int .i64 2) (by simp)
          have HL : Hid (restLen (w9.setCell ⟨q, 1, none⟩ (.int .i64 2)) p ≤ 1000000) := rest_of K10.out.1 (fun s hs => by obtain ⟨z, e, l⟩ := took_le hs; have := HN2.out z e; omega)
          go_wp2_with fail
          refine (members_any B p en (tookS s2 [101, 110, 117, 109]) (w9.setCell ⟨q, 1, none⟩ (.int .i64 2)) K10.out.1 HL.out).mono ?_
          rintro e w11 ⟨l11, a11, c11, s11, he, h11, hr11, m11, -, le11, r11⟩
          subst he
          have K11 : Hid (CB B p en w q [.string (str nm), .int .i64 2, .int .i64 0, .int .i64 0, .slice none 0 0, .int .i64 0, .int .i64 0] s11 w11) := K10.out.on h11 hr11
          clear g1 f1 gl
          clear h11 hr11
          have R11 : Hid (Res en (tookS s2 [101, 110, 117, 109]) (enumR []) s11 fun u => u = l11) := r11
          have HC11 : Hid (SRow (w9.setCell ⟨q, 1, none⟩ (.int .i64 2)).heap.size w11 a11 c11 l11 ∧ l11.length ≤ 1000001 ∧ w.heap.size ≤ (w9.setCell ⟨q, 1, none⟩ (.int .i64 2)).heap.size) := ⟨m11, by have := HL.out; omega, K10.out.2.1.1.size⟩
          clear r11 m11 le11
          have g4 : w11.cell? ⟨q, 4, none⟩ = some (.slice none 0 0) := K11.out.2.2.1.1 4
          have f4 : w11.frozen? ⟨q, 4, none⟩ = false := K11.out.2.2.1.2.1 4
          have gl : q < w11.heap.size := K11.out.2.2.1.2.2
          have K12 : Hid (CB B p en w q [.string (str nm), .int .i64 2, .int .i64 0, .int .i64 0, .slice a11 l11.length c11, .int .i64 0, .int .i64 0] s11 (w11.setCell ⟨q, 4, none⟩ (.slice a11 l11.length c11))) := K11.out.st 4 (.slice a11 l11.length c11) (by simp)
          have RR : Hid (Res en s2 (colourK n.colours nm) s11 fun u => u = ⟨nm, 2, 0, 0, l11, 0, 0⟩) := colK_enum B0.out B1.out R11.out
          have HH : Hid (Held (m.H p B) (w11.setCell ⟨q, 4, none⟩ (.slice a11 l11.length c11)) fun W' => Cs W' a11 (strs l11)) := held_row (row_set HC11.out.1 (K10.out.2.2.1.2.2)) (fun b hb => by have h9 := HC11.out.2.2; rcases hb with hb | hb; exact Nat.lt_of_lt_of_le (H0.out.2.1.2.2.2.1.2 b hb).2 h9; have h8 := H0.out.1.1.2.1; omega)
          go_wp2_with fail
          go_meet
          case rel =>
            refine ⟨rfl, ?_⟩
            exact ⟨⟨nm, 2, 0, 0, l11, 0, 0⟩, a11, c11, s11, K12.out, HH.out, HC11.out.2.1, rfl, RR.out⟩
        | false =>
          have B1 : Hid (tookB s2 [101, 110, 117, 109] = false) := b1
          clear b1
          cases b2 : tookB s2 [112, 97, 105, 114] with
          | true =>
            have B2 : Hid (tookB s2 [112, 97, 105, 114] = true) := b2
            clear b2
            go_wp2_with fail
            refine (took_f B p en s2 _ [105, 110, 116] w2 H2A.out.1 rfl (by decide) B0.out).mono ?_
            rintro e w13 ⟨he, h13, hr13⟩
            subst he
            have K13 : Hid (CB B p en w q [.string (str nm), .int .i64 0, .int .i64 0, .int .i64 0, .slice none 0 0, .int .i64 0, .int .i64 0] s2 w13) := H2A.out.on h13 hr13
            clear h13 hr13
            go_wp2_with fail
            refine (took_f B p en s2 _ [101, 110, 117, 109] w13 K13.out.1 rfl (by decide) B1.out).mono ?_
            rintro e w14 ⟨he, h14, hr14⟩
            subst he
            have K14 : Hid (CB B p en w q [.string (str nm), .int .i64 0, .int .i64 0, .int .i64 0, .slice none 0 0, .int .i64 0, .int .i64 0] s2 w14) := K13.out.on h14 hr14
            clear h14 hr14
            go_wp2_with fail
            refine (took_t B p en s2 _ [112, 97, 105, 114] w14 K14.out.1 rfl (by decide) B2.out).mono ?_
            rintro e w15 ⟨he, h15, hr15⟩
            subst he
            have K15 : Hid (CB B p en w q [.string (str nm), .int .i64 0, .int .i64 0, .int .i64 0, .slice none 0 0, .int .i64 0, .int .i64 0] (tookS s2 [112, 97, 105, 114]) w15) := K14.out.on h15 hr15
            clear h15 hr15
            have g1 : w15.cell? ⟨q, 1, none⟩ = some (.int .i64 0) := K15.out.2.2.1.1 1
            have f1 : w15.frozen? ⟨q, 1, none⟩ = false := K15.out.2.2.1.2.1 1
            have gl : q < w15.heap.size := K15.out.2.2.1.2.2
            have K16 : Hid (CB B p en w q [.string (str nm), .int .i64 3, .int .i64 0, .int .i64 0, .slice none 0 0, .int .i64 0, .int .i64 0] (tookS s2 [112, 97, 105, 114]) (w15.setCell ⟨q, 1, none⟩ (.int .i64 3))) := K15.out.st 1 (.int .i64 3) (by simp)
            have hc9 : (w15.setCell ⟨q, 1, none⟩ (.int .i64 3)).cell? ⟨p, 9, none⟩ = some (.map (some m.mc)) := (H0.out.2.1.on K16.out.2.1).1.2.2.1
            have CL : Hid (∀ W, Below (w15.setCell ⟨q, 1, none⟩ (.int .i64 3)).heap.size (w15.setCell ⟨q, 1, none⟩ (.int .i64 3)) W → Calls Tryz.prog 82 #[.pointer (some ⟨p, 0, none⟩), .map (some m.mc)] W (KnownPost B p en (n.colours.map PCol.name) (tookS s2 [112, 97, 105, 114]) W)) := fun W hW => known_post B p m.mc _ _ m.fc _ H0.out.2.2.1.1 (by rw [List.length_map]; omega) en (tookS s2 [112, 97, 105, 114]) W (K16.out.1.below hW) ((H0.out.2.1.on K16.out.2.1).2.2.1.1.below hW) HNE.out
            go_upto_region 13 with fail
            go_cut [2] from 3 (fun s wr => s = .pointer (some ⟨q, 0, none⟩) ∧ ∃ z17 s17, Hid (CB B p en w q [.string (str nm), .int .i64 3, .int .i64 0, .int .i64 0, .slice none 0 0, .int .i64 z17, .int .i64 0] s17 wr ∧ Res en (tookS s2 [112, 97, 105, 114]) (findP (n.colours.map PCol.name)) s17 fun u => u = z17))
            case first =>
              go_region_law (first
                | (go_simp; go_at_call 82; refine (CL.out _ (by first | exact (Below.refl _ _).drew | exact Below.refl _ _)).mono ?_; rintro e w17 ⟨z17, s17, he, h17, hr17, r17, -⟩; subst he; have K17 : Hid (CB B p en w q [.string (str nm), .int .i64 3, .int .i64 0, .int .i64 0, .slice none 0 0, .int .i64 0, .int .i64 0] s17 w17) := K16.out.drew.on h17 hr17; have g5 : w17.cell? ⟨q, 5, none⟩ = some (.int .i64 0) := K17.out.2.2.1.1 5; have f5 : w17.frozen? ⟨q, 5, none⟩ = false := K17.out.2.2.1.2.1 5; have gl : q < w17.heap.size := K17.out.2.2.1.2.2; have R17 : Hid (Res en (tookS s2 [112, 97, 105, 114]) (findP (n.colours.map PCol.name)) s17 fun u => u = z17) := r17; clear h17 hr17 r17))
              all_goals
                go_wp2_with fail
                go_meet
                case rel =>
                  exact ⟨rfl, z17, s17, ⟨K17.out.st 5 _ (by simp), R17.out⟩⟩
            case rest =>
              obtain ⟨rfl, z17, s17, HX⟩ := hcut
              have K17 : Hid (CB B p en w q [.string (str nm), .int .i64 3, .int .i64 0, .int .i64 0, .slice none 0 0, .int .i64 z17, .int .i64 0] s17 wc) := HX.out.1
              have R17 : Hid (Res en (tookS s2 [112, 97, 105, 114]) (findP (n.colours.map PCol.name)) s17 fun u => u = z17) := HX.out.2
              clear HX hc9 CL
              generalize hwx : wc = v17 at *
              clear hwx wc
              go_wp2_with fail
              refine (must_l B p en s17 _ [44] v17 K17.out.1 rfl (by decide)).mono ?_
              rintro e w18 ⟨he, s18, h18, hr18, r18⟩
              subst he
              have K18 : Hid (CB B p en w q [.string (str nm), .int .i64 3, .int .i64 0, .int .i64 0, .slice none 0 0, .int .i64 z17, .int .i64 0] s18 w18) := K17.out.on h18 hr18
              clear h18 hr18
              have R18 : Hid (Res en s17 (wantP [44]) s18 fun _ => True) := r18
              clear r18
              have hc9 : w18.cell? ⟨p, 9, none⟩ = some (.map (some m.mc)) := (H0.out.2.1.on K18.out.2.1).1.2.2.1
              have CL : Hid (∀ W, Below w18.heap.size w18 W → Calls Tryz.prog 82 #[.pointer (some ⟨p, 0, none⟩), .map (some m.mc)] W (KnownPost B p en (n.colours.map PCol.name) s18 W)) := fun W hW => known_post B p m.mc _ _ m.fc _ H0.out.2.2.1.1 (by rw [List.length_map]; omega) en s18 W (K18.out.1.below hW) ((H0.out.2.1.on K18.out.2.1).2.2.1.1.below hW) HNE.out
              go_upto_region 15 with fail
              go_region_law (first
                | (go_simp; go_at_call 82; refine (CL.out _ (by first | exact (Below.refl _ _).drew | exact Below.refl _ _)).mono ?_; rintro e w19 ⟨z19, s19, he, h19, hr19, r19, -⟩; subst he; have K19 : Hid (CB B p en w q [.string (str nm), .int .i64 3, .int .i64 0, .int .i64 0, .slice none 0 0, .int .i64 z17, .int .i64 0] s19 w19) := K18.out.drew.on h19 hr19; have g6 : w19.cell? ⟨q, 6, none⟩ = some (.int .i64 0) := K19.out.2.2.1.1 6; have f6 : w19.frozen? ⟨q, 6, none⟩ = false := K19.out.2.2.1.2.1 6; have gl : q < w19.heap.size := K19.out.2.2.1.2.2; have R19 : Hid (Res en s18 (findP (n.colours.map PCol.name)) s19 fun u => u = z19) := r19; clear h19 hr19 r19))
              all_goals
                go_wp2_with fail
                go_meet
                case rel =>
                  exact ⟨rfl, ⟨nm, 3, 0, 0, [], z17, z19⟩, none, 0, s19, K19.out.st 6 _ (by simp), held_none, by simp, rfl, colK_pair B0.out B1.out B2.out R17.out R18.out R19.out⟩
          | false =>
            have B2 : Hid (tookB s2 [112, 97, 105, 114] = false) := b2
            clear b2
            go_wp2_with fail
            refine (took_f B p en s2 _ [105, 110, 116] w2 H2A.out.1 rfl (by decide) B0.out).mono ?_
            rintro e w20 ⟨he, h20, hr20⟩
            subst he
            have K20 : Hid (CB B p en w q [.string (str nm), .int .i64 0, .int .i64 0, .int .i64 0, .slice none 0 0, .int .i64 0, .int .i64 0] s2 w20) := H2A.out.on h20 hr20
            clear h20 hr20
            go_wp2_with fail
            refine (took_f B p en s2 _ [101, 110, 117, 109] w20 K20.out.1 rfl (by decide) B1.out).mono ?_
            rintro e w21 ⟨he, h21, hr21⟩
            subst he
            have K21 : Hid (CB B p en w q [.string (str nm), .int .i64 0, .int .i64 0, .int .i64 0, .slice none 0 0, .int .i64 0, .int .i64 0] s2 w21) := K20.out.on h21 hr21
            clear h21 hr21
            go_wp2_with fail
            refine (took_f B p en s2 _ [112, 97, 105, 114] w21 K21.out.1 rfl (by decide) B2.out).mono ?_
            rintro e w22 ⟨he, h22, hr22⟩
            subst he
            have K22 : Hid (CB B p en w q [.string (str nm), .int .i64 0, .int .i64 0, .int .i64 0, .slice none 0 0, .int .i64 0, .int .i64 0] s2 w22) := K21.out.on h22 hr22
            clear h22 hr22
            go_wp2_with fail
            refine (wrong_any B p en s2 w22 K22.out.1).mono ?_
            rintro e w23 ⟨he, h23, hr23⟩
            subst he
            have K23 : Hid (CB B p en w q [.string (str nm), .int .i64 0, .int .i64 0, .int .i64 0, .slice none 0 0, .int .i64 0, .int .i64 0] (failS s2 (hereF en s2).at_ 4) w23) := K22.out.on h23 hr23
            clear h23 hr23
            have RR : Hid (Res en s2 (colourK n.colours nm) (failS s2 (hereF en s2).at_ 4) fun u => u = ⟨nm, 0, 0, 0, [], 0, 0⟩) := colK_no B0.out B1.out B2.out
            go_wp2_with fail
            go_meet
            case rel =>
              refine ⟨rfl, ?_⟩
              exact ⟨⟨nm, 0, 0, 0, [], 0, 0⟩, none, 0, (failS s2 (hereF en s2).at_ 4), K23.out, held_none, by simp, rfl, RR.out⟩
    case rest =>
      obtain ⟨rfl, c, a, cap, s3, HB3, HH3, hl3, hnm, R3⟩ := hcut
      have HB3 : Hid (CB B p en w q (colV c a cap) s3 wc) := HB3
      have E3 : Hid (Held (m.H p B) wc (fun W' => Cs W' a (strs c.names)) ∧ c.names.length ≤ 1000001 ∧ c.name = nm ∧ Res en s2 (colourK n.colours nm) s3 fun u => u = c) := ⟨HH3, hl3, hnm, R3⟩
      clear HH3 hl3 hnm R3
      go_wp2_with fail
      refine (must_l B p en s3 _ [59] wc HB3.out.1 rfl (by decide)).mono ?_
      rintro e w4 ⟨he, s4, h4, hr4, R4⟩
      subst he
      have K4 : Hid (CB B p en w q (colV c a cap) s4 w4) := HB3.out.on h4 hr4
      have N4 : Hid (NK B w4 p n m) := H0.out.2.1.on K4.out.2.1
      have E4 : Hid (Held (m.H p B) w4 (fun W' => Cs W' a (strs c.names))) := E3.out.1.on (hr4.1.mono fun b _ e => .inl (by subst e; exact H0.out.2.1.p_in))
      have RR : Hid (Res en st (colourP n.colours) s4 fun u => u = c) := by
        have h3 := E3.out.2.2.2
        exact colour_res HC.out.2.2.1 H2.out.2 h3 R4
      have AL : Hid (∀ z, s4 = .ok z → m.fc c.name = none) := fun z hz => by
        obtain ⟨z3, e3, _⟩ := alive_back R4 hz
        obtain ⟨z2, e2, _⟩ := alive_back E3.out.2.2.2 e3
        obtain ⟨z1, e1, _⟩ := alive_back H2.out.2 e2
        rw [E3.out.2.2.1]
        exact HC.out.2.2.2 z1 e1
      have hcl : Hid (c.name.length ≤ 140737488355328) := (show _ ≤ _ by rw [E3.out.2.2.1]; exact HC.out.2.1)
      clear h4 hr4 R4 HB3 H2 H2A HC HN2 c9
      obtain ⟨c0, c1, c2, c3, c4, c5, c6, hcv⟩ : ∃ c0 c1 c2 c3 c4 c5 c6, colV c a cap = [.string c0, .int .i64 c1, .int .i64 c2, .int .i64 c3, .slice a c4 cap, .int .i64 c5, .int .i64 c6] ∧ c0 = str c.name := ⟨_, _, _, _, _, _, _, rfl, rfl⟩
      obtain ⟨hcv, hc0⟩ := hcv
      have HCV : Hid (colV c a cap = [.string c0, .int .i64 c1, .int .i64 c2, .int .i64 c3, .slice a c4 cap, .int .i64 c5, .int .i64 c6] ∧ c0 = str c.name) := ⟨hcv, hc0⟩
      have hb4 := K4.out.2.2.1
      rw [hcv] at hb4
      clear hcv hc0
      have g0 : w4.cell? ⟨q, 0, none⟩ = some (.string c0) := hb4.1 0
      have gl : q < w4.heap.size := hb4.2.2
      have c9 : w4.cell? ⟨p, 9, none⟩ = some (.map (some m.mc)) := N4.out.1.2.2.1
      have pl4 : p < w4.heap.size := K4.out.1.lt
      have CL : Hid (∀ W, Below w4.heap.size w4 W → Calls Tryz.prog 193 #[.map (some m.mc), .string c0] W fun e w' => e = .returned (.tuple #[]) ∧ SMp w' m.mc (n.colours.length + 1) (addK m.fc c.name m.kc) (addF m.fc c.name m.kc) ∧ Ch (· = m.mc) W w') := fun W hW => by
        have hsz : c0.size ≤ maxLen := by
          have h1 := hcl.out
          have h2 : (140737488355328 : Nat) ≤ maxLen := by decide
          rw [HCV.out.2, str_size]; omega
        have hcd : c0.data.toList = c.name := by rw [HCV.out.2, str_data]
        have := add_any m.mc n.colours.length m.kc m.fc c0 W (N4.out.2.2.1.1.below hW) (by omega) hsz
        rw [hcd] at this
        exact this
      clear hb4
      go_upto_region 17 with fail
      go_cut [2] from 3 (fun s wr => s = .pointer (some ⟨q, 0, none⟩) ∧ Hid (SMp wr m.mc (n.colours.length + 1) (addK m.fc c.name m.kc) (addF m.fc c.name m.kc) ∧ Ch (· = m.mc) w4 wr))
      case first =>
        go_region_law (first
          | (go_simp; go_at_call 193; refine (CL.out _ (by first | exact (Below.refl _ _).drew | exact Below.refl _ _)).mono ?_; rintro e w5 ⟨he, h5, hc5⟩; subst he; have K5 : Hid (SMp w5 m.mc (n.colours.length + 1) (addK m.fc c.name m.kc) (addF m.fc c.name m.kc) ∧ Ch (· = m.mc) w4 w5) := ⟨h5, (Ch.of_below (Below.refl _ _).drew).trans hc5⟩; clear h5 hc5))
        all_goals
          go_wp2_with fail
          go_meet
          case rel => exact ⟨rfl, K5.out⟩
      case rest =>
        obtain ⟨rfl, K5⟩ := hcut
        generalize hwx : wc = w5 at *
        clear hwx wc CL g0 gl c9 pl4
        have hz5 := K5.out.2.size
        have hq5 : q ≠ m.mc := fun e => by have h1 := (H0.out.2.1.2.2.2.1.2 m.mc (by unfold NM.M NM.bs; simp)).2; have h2 := K4.out.2.2.2.1; omega
        have hb5 : Bx w5 q [.string c0, .int .i64 c1, .int .i64 c2, .int .i64 c3, .slice a c4 cap, .int .i64 c5, .int .i64 c6] := by
          rw [← HCV.out.1]
          exact K4.out.2.2.1.ch K5.out.2 hq5
        obtain ⟨⟨g0, g1, g2, g3, g4, g5, g6, gl⟩, -⟩ := seven hb5
        have d4 : w5.cell? ⟨p, 4, none⟩ = some (.slice m.ac n.colours.length m.cc) := K5.out.2.cell (fun e => HNE.out e.symm) N4.out.1.1.1
        have pl5 : p < w5.heap.size := World.block_lt_of_cell? w5 _ d4
        have OWN : Hid (∀ W, Below w5.heap.size w5 W → W.ownsRow B 87 7 (.slice m.ac n.colours.length m.cc) n.colours.length m.vc ∧ B ≤ W.heap.size) := fun W hW => by
          have hk : ∀ k, (Value.slice m.ac n.colours.length m.cc).ownBlock = some k → ¬ k = m.mc := fun k hk e => by
            rw [own_block] at hk
            have hA := N4.out.2.2.2.1.1
            exact hA.ne (i := 4) (j := 1) (show (m.bs p)[4]? = some (some k) by show some (m.ac.map Addr.block) = _; rw [hk]) rfl (by decide) e
          exact ⟨own_ch2 (own_ch2 N4.out.2.1.1 K5.out.2 hk) (Ch.of_below (M := fun _ => False) hW) (fun _ _ h => h), Nat.le_trans (Nat.le_trans K4.out.1.1.2.1 hz5) hW.size⟩
        have PG : Hid (∀ W w' : World, Below w5.heap.size w5 W → W.grownBy w' (m.ac.map Addr.block) → w'.cell? ⟨p, 4, none⟩ = some (.slice m.ac n.colours.length m.cc) ∧ w'.frozen? ⟨p, 4, none⟩ = false ∧ p < w'.heap.size) := fun W w' hW hg => by
          have hne : some p ≠ m.ac.map Addr.block := fun e => by
            have hA := N4.out.2.2.2.1.1
            exact absurd (hA 0 4 p rfl (show (m.bs p)[4]? = some (some p) by show some (m.ac.map Addr.block) = _; rw [← e])) (by decide)
          have hb : w'.heap[p]? = w5.heap[p]? := (hg.block p (Nat.lt_of_lt_of_le pl5 hW.size) hne).trans (hW.block p pl5)
          have hf : w5.frozen? ⟨p, 4, none⟩ = false := by
            rw [frozen_of_block (K5.out.2.block p K4.out.1.lt (fun e => HNE.out e.symm))]
            exact rs_fr K4.out.1 4
          exact ⟨(cell_of_block hb 4).trans d4, (frozen_of_block hb 4).trans hf, Nat.lt_of_lt_of_le pl5 (Nat.le_trans hW.size hg.size)⟩
        have FIN : Hid (∀ (W w' : World) (a' : Option Addr) (c' : Nat), Below w5.heap.size w5 W → w'.ownsRow B 87 7 (.slice a' (n.colours.length + 1) c') (n.colours.length + 1) (m.vc ++ [.string c0, .int .i64 c1, .int .i64 c2, .int .i64 c3, .slice a c4 cap, .int .i64 c5, .int .i64 c6]) → W.grownBy w' (m.ac.map Addr.block) → (a'.map Addr.block = m.ac.map Addr.block ∨ a'.map Addr.block = some W.heap.size) → ColPost B p en r n w (.returned (.tuple #[])) (w'.setCell ⟨p, 4, none⟩ (.slice a' (n.colours.length + 1) c'))) := fun W w' a' c' hW hown hg hat => by
          rw [← HCV.out.1] at hown
          have hu : Held (m.H p B) w4 fun W => ColR W c (colV c a cap) := E4.out.mono fun W hW => ⟨a, cap, rfl, hW, E3.out.2.1⟩
          obtain ⟨hN, hC⟩ := N4.out.add_colours hu K5.out.1 K5.out.2 hW hown hg hat
          have hMB : ∀ b, m.M p b → B ≤ b := fun b hb => (N4.out.2.2.2.1.2 b hb).1
          refine ⟨rfl, c, s4, _, ?_, hN, fun z hz => ?_, ?_, by rw [HST.out]; exact RR.out⟩
          · have hne : some p ≠ m.ac.map Addr.block := fun e => by
              have hA := N4.out.2.2.2.1.1
              exact absurd (hA 0 4 p rfl (show (m.bs p)[4]? = some (some p) by show some (m.ac.map Addr.block) = _; rw [← e])) (by decide)
            have r5 : RS B w5 p en s4 := K4.out.1.ch K5.out.2 (fun b hb => by subst hb; exact hMB _ (by unfold NM.M NM.bs; simp)) (fun e => HNE.out e.symm)
            have rW := r5.below hW
            have r' : RS B w' p en s4 := rW.ch (Ch.grown (M := fun b => some b = m.ac.map Addr.block) hg fun b hb => hb.symm) (fun b hb => hMB b (by unfold NM.M; rw [hb]; exact List.mem_of_getElem? (i := 4) rfl)) hne
            exact r'.set4 4 (Nat.le_refl _) _
          · obtain ⟨⟨f1, k1⟩, hp2, ht2⟩ := H0.out.2.2
            obtain ⟨q1, q2⟩ := nameAt_add (k := m.kc) f1 (k1.trans (List.length_map _).symm) (AL.out z hz)
            refine ⟨⟨?_, ?_⟩, hp2, ht2⟩
            · show addF m.fc c.name m.kc = nameAt ((n.colours ++ [c]).map PCol.name)
              rw [q1, List.map_append]; rfl
            · show addK m.fc c.name m.kc = (n.colours ++ [c]).length
              rw [q2, List.length_map]; simp
          · exact (K4.out.2.1.1.mono fun b _ e => by subst e; exact hMB _ H0.out.2.1.p_in).trans (hC.mono fun b _ hb => hMB b hb)
        clear hb5 N4 E4 RR AL hcl K4 K5 E3 H0 HST HNE HCV hq5
        go_upto_region 18 with fail
        go_region_law (first
          | (refine step_own rfl _ _ rfl rfl rfl Tryz.underlying24 infoCol rfl (by decide) (by decide) (OWN.out _ (by repeat (first | exact Below.refl _ _ | refine Below.drew ?_ | refine Below.alloc ?_ (by simp) _))).1 rfl (new_part _ [.string c0, .int .i64 c1, .int .i64 c2, .int .i64 c3, .slice a c4 cap, .int .i64 c5, .int .i64 c6] _) (by simp [Value.oneCell']) (by omega) (OWN.out _ (by repeat (first | exact Below.refl _ _ | refine Below.drew ?_ | refine Below.alloc ?_ (by simp) _))).2 ?_; intro a' c' w' hown hg hat; have FN : Hid (∀ v, v = Value.slice a' (n.colours.length + 1) c' → ColPost B p en r n w (.returned (.tuple #[])) (w'.setCell ⟨p, 4, none⟩ v)) := (fun v hv => by subst hv; exact FIN.out _ w' a' c' (by repeat (first | exact Below.refl _ _ | refine Below.drew ?_ | refine Below.alloc ?_ (by simp) _)) hown hg hat); obtain ⟨e4, e4f, epl⟩ := PG.out _ w' (by repeat (first | exact Below.refl _ _ | refine Below.drew ?_ | refine Below.alloc ?_ (by simp) _)) hg; clear hown hg hat))
        all_goals
          go_wp2_with fail
          go_end0
          exact FN.out _ rfl
end Go.Proofs.YtjcanodnlnodpaaGreatDoor.Parse
