/- Members of a colour: a contract of the call, over the turned program. -/
import Derived.Test.YtjcanodnlnodpaaGreatDoorMPlain
import Derived.Test.YtjcanodnlnodpaaGreatDoorMUnary
namespace Go.Proofs.YtjcanodnlnodpaaGreatDoor.Parse
open Go.RowKit Go.Maps Go.Proofs.YtjcanodnlnodpaaGreatDoor.Frame Go.Proofs.YtjcanodnlnodpaaGreatDoor.Token Go.Proofs.YtjcanodnlnodpaaGreatDoor.Expr Go.Proofs.YtjcanodnlnodpaaGreatDoor.Calc
set_option linter.unusedVariables false
set_option linter.unusedSimpArgs false

theorem infoStr : (Tryz.prog.info? 9).map (fun i => (i.zero, i.size, i.bytes)) = some (some (.string ByteArray.empty), 1, 16) := by kernel_rfl
def strs (l : List (List UInt8)) : List Value := l.map fun s => Value.string (str s)
/-- a row of names of the call's own -/
def SRow (base : Nat) (w : World) (a : Option Addr) (c : Nat) (l : List (List UInt8)) : Prop := w.ownsRow base 9 1 (.slice a l.length c) l.length (strs l)
theorem rch_grown {p : Nat} {w w' : World} (h : RCh p w w') : w.grownBy w' (some p) := ⟨h.1.os, h.1.tape, h.1.output, h.1.size, fun b hb hne => h.1.block b hb fun e => hne (by rw [e])⟩
theorem below_grown {w w' : World} (h : Below w.heap.size w w') : w.grownBy w' none := ⟨h.os, h.tape, h.output, h.size, fun b hb _ => h.block b hb⟩
theorem SRow.on {base p : Nat} {w w' : World} {a : Option Addr} {c : Nat} {l : List (List UInt8)} (h : SRow base w a c l) (hp : p < base) (hr : RCh p w w') : SRow base w' a c l :=
  h.kept (rch_grown hr) (by
    cases hv : (Value.slice a l.length c).ownBlock with
    | none => exact .inl rfl
    | some k => exact .inr (fun e => by have := (h.lt k hv).1; cases e; omega))
theorem SRow.below {base : Nat} {w w' : World} {a : Option Addr} {c : Nat} {l : List (List UInt8)} (h : SRow base w a c l) (hb : Below w.heap.size w w') : SRow base w' a c l :=
  h.kept (below_grown hb) (by cases hv : (Value.slice a l.length c).ownBlock <;> simp)
theorem SRow.one (base : Nat) (w : World) (s : List UInt8) (hb : base ≤ w.heap.size) : SRow base (w.alloc (.cells #[.string (str s)] 9)) (some ⟨w.heap.size, 0, none⟩) 1 [s] :=
  ⟨rfl, .inr ⟨w.heap.size, 1, #[.string (str s)], rfl, hb, heap_alloc_new w _, Nat.le_refl _, by decide, rfl, rfl⟩⟩
theorem cells_one (w : World) (x : Value) (t : TypeId) : ∀ j v, [x][j]? = some v → (w.alloc (.cells #[x] t)).cell? ((⟨w.heap.size, 0, none⟩ : Addr).add j) = some v := fun j v hj => by
  rw [Go.WideShapes.add_plain, Nat.zero_add, World.cell?_alloc_at _ _ _ _ rfl]
  simpa using hj
/-- one step of the loop over members -/
def MI (B p : Nat) (en : Int) (st : St) (w wr : World) (acc : List (List UInt8)) (a : Option Addr) (c : Nat) (st' : St) : Prop :=
  RS B wr p en st' ∧ RCh p w wr ∧ SRow w.heap.size wr a c acc ∧ (∀ s, s ∈ acc → s.length ≤ 140737488355328) ∧ acc.length + restLen wr p ≤ restLen w p + 1 ∧
    ∀ stf tf, Res en st' (enumT acc) stf (fun u => u = tf) → Res en st (enumR []) stf (fun u => u = tf)
theorem name_rest {B p : Nat} {en : Int} {st : St} {w w' : World} (h : RS B w p en st) (h' : RS B w' p en (nameF en st).2) : restLen w' p + 1 ≤ restLen w p + 1 ∧ (restLen w p ≠ 0 → restLen w' p + 1 ≤ restLen w p) := by
  cases hk : nameOk (hereF en st) with
  | true =>
    obtain ⟨t, r, rfl, _, h2⟩ := nameF_yes hk
    rw [h2] at h'
    rw [restLen_ok h, restLen_ok h']
    simp
  | false =>
    obtain ⟨e, he⟩ := (show ∃ e, failS st (hereF en st).at_ 4 = .error e by cases st with | error e => exact ⟨e, rfl⟩ | ok r => exact ⟨_, rfl⟩)
    rw [nameF_no hk, he] at h'
    rw [restLen_dead h']
    exact ⟨by omega, fun _ => by omega⟩
/-- blocks of the call's own were written -/
theorem rch_own {p L : Nat} {w w3 w4 : World} (hL : w.heap.size ≤ L) (h : RCh p w w3) (hc : Ch (fun b => L ≤ b) w3 w4) (hp : p < w.heap.size) : RCh p w w4 := by
  have hs := h.1.size
  have hpb := hc.block p (by omega) (by omega)
  exact ⟨⟨hc.os.trans h.1.os, hc.tape.trans h.1.tape, hc.output.trans h.1.output, Nat.le_trans hs hc.size, fun k hk hm => (hc.block k (Nat.lt_of_lt_of_le hk hs) (by omega)).trans (h.1.block k hk hm)⟩, fun o => ⟨fun ho => (cell_of_block hpb o).trans ((h.2 o).1 ho), (frozen_of_block hpb o).trans (h.2 o).2⟩⟩
theorem own_ch {L : Nat} {w3 w4 : World} {o : Obj} {a : Option Addr} {n c : Nat} {e : TypeId} {size m : Nat} {xs : List Value} (hL : L ≤ w3.heap.size) (h : w3.ownsRow L e size (.slice a n c) m xs) (hg : (w3.alloc o).grownBy w4 (Value.slice a n c).ownBlock) : Ch (fun b => L ≤ b) w3 w4 :=
  (Ch.of_below ((Below.refl _ _).alloc (Nat.le_refl _) o)).trans (Ch.grown hg fun b hb => (h.lt b hb).1)
theorem mi_next {B p : Nat} {en : Int} {st st3 : St} {w w3 w4 : World} {acc : List (List UInt8)} {s1 : List UInt8} {a a1 : Option Addr} {c c1 k : Nat} {o : Obj} (hp : p < w.heap.size) (h3 : RS B w3 p en st3 ∧ RCh p w w3 ∧ SRow w.heap.size w3 a c acc)
    (hown : w4.ownsRow w.heap.size 9 1 (.slice a1 (acc.length + 1) c1) (acc.length + 1) (strs acc ++ [.string (str s1)])) (hg : (w3.alloc o).grownBy w4 (Value.slice a acc.length c).ownBlock)
    (hA : ∀ s, s ∈ acc ++ [s1] → s.length ≤ 140737488355328) (hk : restLen w3 p ≤ k) (hl : acc.length + (k + 1) ≤ restLen w p + 1) (hB : B ≤ w.heap.size) (hch : ∀ stf tf, Res en st3 (enumT (acc ++ [s1])) stf (fun u => u = tf) → Res en st (enumR []) stf (fun u => u = tf)) :
    MI B p en st w w4 (acc ++ [s1]) a1 c1 st3 ∧ restLen w4 p < k + 1 := by
  have hs := h3.2.1.1.size
  have hc := own_ch hs h3.2.2 hg
  have hrs : RS B w4 p en st3 := h3.1.ch hc (fun b hb => Nat.le_trans hB hb) (by omega)
  have hr : restLen w4 p = restLen w3 p := by unfold restLen; rw [cell_of_block (hc.block p (by omega) (by omega)) 0]
  refine ⟨⟨hrs, rch_own (Nat.le_refl _) h3.2.1 hc hp, ?_, hA, by rw [hr, List.length_append]; show acc.length + 1 + _ ≤ _; omega, hch⟩, by rw [hr]; omega⟩
  unfold SRow
  rw [List.length_append]
  have : strs (acc ++ [s1]) = strs acc ++ [.string (str s1)] := by unfold strs; rw [List.map_append]; rfl
  rw [this]
  exact hown
def MemPost (B p : Nat) (en : Int) (st : St) (w : World) (e : Ending) (w' : World) : Prop := ∃ l a c st', e = .returned (.slice a l.length c) ∧ RS B w' p en st' ∧ RCh p w w' ∧ SRow w.heap.size w' a c l ∧ (∀ s, s ∈ l → s.length ≤ 140737488355328) ∧ l.length ≤ restLen w p + 1 ∧ Res en st (enumR []) st' (fun u => u = l)

set_option maxRecDepth 100000 in
set_option maxHeartbeats 8000000 in
theorem members_any (B p : Nat) (en : Int) (st : St) (w : World) (h : RS B w p en st) (hL : restLen w p ≤ 1000000) : Calls Tryz.prog 192 #[ptr p] w (MemPost B p en st w) := by
  have hp := h.lt
  obtain ⟨i0, hi, hz0, hz1, hz2⟩ := info_parts infoStr
  have hml : (1000000 : Nat) + 10 ≤ maxLen := by decide
  have H0 : Hid (RS B w p en st) := h
  have HBw : Hid (B ≤ w.heap.size) := h.1.2.1
  clear h
  unfold ptr
  go_enter Tryz.func192, Tryz.ntmps192
  go_wp2_with fail
  refine (name_any B p en st w H0.out).mono ?_
  rintro e w1 ⟨he, h1, hr1⟩
  subst he
  have I0 : Hid (MI B p en st w (w1.alloc (.cells #[.string (str (nameF en st).1)] 9)) [(nameF en st).1] (some ⟨w1.heap.size, 0, none⟩) 1 (nameF en st).2) := by
    have hal : Below w1.heap.size w1 (w1.alloc (.cells #[.string (str (nameF en st).1)] 9)) := (Below.refl _ _).alloc (Nat.le_refl _) _
    have hrs := h1.below hal
    refine ⟨hrs, hr1.trans (RCh.of_below h1.lt hal), SRow.one _ _ _ hr1.1.size, fun s hs => ?_, ?_, fun stf tf hr => ?_⟩
    · rw [List.mem_singleton] at hs; subst hs; exact nameF_len H0.out
    · have := (name_rest H0.out hrs).1; show 1 + _ ≤ _; omega
    · exact (Res.bind (g := fun u r => enumT ([] ++ [u]) r) (name_res en st) (fun u hu => by subst hu; exact hr) (fun e he => hr.dead he)).congr fun r => (enumR_eq [] r).symm
  generalize (nameF en st).1 = s0 at *
  generalize (nameF en st).2 = st0 at *
  clear h1 hr1
  go_wp2_with fail
  go_loopw [3] (fun v wr => ∃ acc a c st', v = .slice a acc.length c ∧ Hid (MI B p en st w wr acc a c st')) (fun _ wr => restLen wr p)
  case atStart => exact ⟨_, _, _, _, rfl, I0⟩
  case round =>
    obtain ⟨acc, a, c, st', rfl, hI⟩ := hrel
    clear I0
    cases hb : tookB st' [44] with
    | true =>
      have HB : Hid (tookB st' [44] = true) := hb
      obtain ⟨t0, r0, hst, -, hS⟩ := took_yes hb (by decide)
      have hlen : acc.length + restLen wr p ≤ restLen w p + 1 := hI.out.2.2.2.2.1
      have hrl : restLen wr p = r0.length + 1 := by have := restLen_ok (hst ▸ hI.out.1); simpa using this
      have HRL : Hid (restLen wr p = r0.length + 1) := hrl
      have HS : Hid (tookS st' [44] = .ok r0) := hS
      clear hb hst hS
      go_wp2_with fail
      refine (took_t B p en st' _ [44] wr hI.out.1 rfl (by decide) HB.out).mono ?_
      rintro e w2 ⟨he, h2, hr2⟩
      subst he
      have H2 : Hid (RS B w2 p en (tookS st' [44]) ∧ RCh p w w2 ∧ SRow w.heap.size w2 a c acc) := ⟨h2, hI.out.2.1.trans hr2, hI.out.2.2.1.on hp hr2⟩
      clear h2 hr2
      go_wp2_with fail
      refine (name_any B p en _ w2 H2.out.1).mono ?_
      rintro e w3 ⟨he, h3, hr3⟩
      subst he
      have hq := nameF_len H2.out.1
      have NR : Hid (Res en (tookS st' [44]) nameQ (nameF en (tookS st' [44])).2 fun u => u = (nameF en (tookS st' [44])).1) := name_res en _
      have hrest : restLen w3 p ≤ r0.length := by
        have h21 : restLen w2 p = r0.length := restLen_ok (by rw [← HS.out]; exact H2.out.1)
        have := (name_rest H2.out.1 h3).1
        omega
      generalize (nameF en (tookS st' [44])).1 = s1 at *
      generalize (nameF en (tookS st' [44])).2 = st3 at *
      have H3 : Hid (RS B w3 p en st3 ∧ RCh p w w3 ∧ SRow w.heap.size w3 a c acc) := ⟨h3, H2.out.2.1.trans hr3, H2.out.2.2.on hp hr3⟩
      have hsz := H3.out.2.1.1.size
      have CH : Hid (∀ stf tf, Res en st3 (enumT (acc ++ [s1])) stf (fun u => u = tf) → Res en st (enumR []) stf (fun u => u = tf)) := fun stf tf hr => by
        refine hI.out.2.2.2.2.2 stf tf ?_
        refine took_res (x := enumR acc) (by decide) HB.out ?_ (fun r hr => by unfold enumT; rw [if_pos hr])
        exact (Res.bind (g := fun u r => enumT (acc ++ [u]) r) NR.out (fun u hu => by subst hu; exact hr) (fun e he => hr.dead he)).congr fun r => (enumR_eq acc r).symm
      have HA : Hid (∀ s, s ∈ acc ++ [s1] → s.length ≤ 140737488355328) := fun s hs => by
        rw [List.mem_append, List.mem_singleton] at hs
        rcases hs with hs | rfl
        · exact hI.out.2.2.2.1 s hs
        · exact hq
      clear h3 hr3 H2 NR hI hq
      go_wp2_with (first
        | (at_builtin; refine wpList_append_own _ rfl _ _ 37 rfl w.heap.size 9 i0 (.string ByteArray.empty) 1 16 Tryz.underlying37 hi hz0 hz1 hz2 rfl (by decide) _ _ _ rfl (H3.out.2.2.below ((Below.refl _ _).alloc (Nat.le_refl _) _)) ⟨_, 0, none⟩ 1 1 [.string (str s1)] rfl rfl (cells_one _ _ _) (by simp [Value.oneCell']) (by omega) (by omega) (by simp; omega) ?_; intro v1 w4 hown1 hg1 hnil1; obtain ⟨a1, c1, hv1⟩ := own_slice hown1; subst hv1)
        | go_in)
      have NX : Hid (MI B p en st w w4 (acc ++ [s1]) a1 c1 st3 ∧ restLen w4 p < r0.length + 1) := mi_next hp H3.out hown1 hg1 HA.out hrest (by omega) HBw.out CH.out
      clear hown1 hg1 hnil1
      go_roundw
      case rel => exact ⟨acc ++ [s1], a1, c1, st3, by simp, NX.out.1⟩
      case measure => rw [HRL.out]; exact NX.out.2
    | false =>
      have HB : Hid (tookB st' [44] = false) := hb
      have RR : Hid (Res en st (enumR []) st' fun u => u = acc) := hI.out.2.2.2.2.2 st' acc (nottook_res (P := fun u => u = acc) (x := fun r => .ok (acc, r)) hb (Res.pure rfl) (fun r hr => by unfold enumT; rw [if_neg hr]))
      clear hb
      go_wp2_with fail
      refine (took_f B p en st' _ [44] wr hI.out.1 rfl (by decide) HB.out).mono ?_
      rintro e w2 ⟨he, h2, hr2⟩
      subst he
      have H2 : Hid (RS B w2 p en st' ∧ RCh p w w2 ∧ SRow w.heap.size w2 a c acc) := ⟨h2, hI.out.2.1.trans hr2, hI.out.2.2.1.on hp hr2⟩
      clear h2 hr2
      go_wp2_with fail
      go_ret
      exact ⟨acc, a, c, st', rfl, H2.out.1, H2.out.2.1, H2.out.2.2, hI.out.2.2.2.1, by have := hI.out.2.2.2.2.1; omega, RR.out⟩
end Go.Proofs.YtjcanodnlnodpaaGreatDoor.Parse
