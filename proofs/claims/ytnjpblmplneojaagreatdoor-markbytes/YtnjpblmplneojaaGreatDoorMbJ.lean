/- Text of package mark, of one place with one row: contracts of the calls, over the turned program. -/
import Derived.Test.YtnjpblmplneojaaGreatDoorMbI
import Derived.Test.YtnjpblmplneojaaGreatDoorMaH
namespace Go.Proofs.YtnjpblmplneojaaGreatDoor.Mark
open Go.RowKit Go.Proofs.YtnjpblmplneojaaGreatDoor.Frame Go.Proofs.YtnjpblmplneojaaGreatDoor.Bag Go.Proofs.YtnjpblmplneojaaGreatDoor.Check
open Go.Proofs.YtnjpblmplneojaaGreatDoor.Colour (Bld Kept WriteIs Cols Col nilCol sizesF)
set_option linter.unusedVariables false
set_option linter.unusedSimpArgs false

theorem bld_below {B b : Nat} {bs : List UInt8} {w w' : World} (h : Bld B b bs w) (hb : Below w.heap.size w w') : Bld B b bs w' := by
  obtain ⟨h1, h2, h3⟩ := h
  have key : ∀ p, Lib.BuilderAtF 98 5 B b p (Lib.byteCells bs) w → Lib.BuilderAtF 98 5 B b p (Lib.byteCells bs) w' := fun p hp => by
    obtain ⟨hB, v, hbk, hown, hne⟩ := hp
    exact ⟨hB, v, (hb.block b h3).trans hbk, hown.kept (row := none) ⟨hb.os, hb.tape, hb.output, hb.size, fun k hk _ => hb.block k hk⟩ (by cases hv : v.ownBlock <;> simp), hne⟩
  refine ⟨?_, Nat.le_trans h2 hb.size, Nat.lt_of_lt_of_le h3 hb.size⟩
  rcases h1 with h | h
  · exact .inl (key _ h)
  · exact .inr (key _ h)
theorem kept_below {B b : Nat} {u w w' : World} (h : Kept B b u w) (hB : B ≤ w.heap.size) (hb : Below w.heap.size w w') : Kept B b u w' :=
  h.trans ⟨hb.mono hB, fun k o hk _ _ => by
    have hlt : k < w.heap.size := (Array.getElem?_eq_some_iff.1 hk).1
    rw [hb.block k hlt]; exact hk⟩
theorem kept_row {B b C : Nat} {w w' : World} {cs : Array Value} {fz : Nat × Nat} (h : Kept B b w w') (hC : w.heap[C]? = some (.cells cs 56 fz)) (hne : C ≠ b) : w'.heap[C]? = some (.cells cs 56 fz) :=
  h.2 C _ hC (fun e => hne (Option.some.inj e)) (fun c f e => by injection e with e1 e2; exact absurd e2 (by decide))

set_option maxRecDepth 100000 in
set_option maxHeartbeats 4000000 in
theorem placeText_one (ca fa ba : Option Addr) (cl cc fl fc bc k x : Nat) (cs : List Col) (ns : List Int) (name : ByteArray) (m : Int) (text : List UInt8) (w : World) (hC : Cols w ca cl cs) (hs : sizesF cs = some ns) (hk : k < cl) (hm : Colour.withinB m (ns.getD k 0) = true) (r : WriteIs ca cl cc cs ns k m text)
    (hb : Bags w ba 1 [(m, (x : Int))]) (hx : x < 10) (hl : name.size + text.length ≤ 1000) :
    Calls Tryz.prog 53 #[.slice ca cl cc, .agg #[.string name, .int .i64 k, .slice fa fl fc], .slice ba 1 bc] w fun e w' => e = .returned (.string ⟨(name.data.toList ++ 58 :: 32 :: (text ++ 42 :: Lib.decDigits x)).toArray⟩) ∧ Below w.heap.size w w' := by
  have HT : Hid (∀ W, Below w.heap.size w W → Calls Tryz.prog 72 #[.slice ca cl cc, .int .i64 k, .int .i64 m] W fun e w' => e = .returned (.string ⟨text.toArray⟩) ∧ Below W.heap.size W w') := fun W hW => Colour.text_top ca cl cc cs ns k m text W (hC.below hW) hs hk hm r (by omega)
  obtain ⟨b0, off, hae, hbl, hat⟩ := hb.row (k := 0) (by omega)
  obtain ⟨c0, c1⟩ := hat 0 (by simp)
  subst hae
  simp only [Nat.zero_mul, Nat.add_zero] at c0 c1
  have C0 : Hid (w.cell? ⟨b0, off, none⟩ = some (.int .i64 m)) := c0
  have C1 : Hid (w.cell? ⟨b0, off + 1, none⟩ = some (.int .i64 x)) := c1
  have HX : Hid (x < 100) := (show x < 100 by omega)
  have hdl : (Lib.decDigits x).length = 1 := by rw [Lib.decDigits_one hx]; rfl
  have LT : Hid (name.size + text.length ≤ 1000 ∧ (Lib.decDigits x).length = 1) := ⟨hl, hdl⟩
  clear hC hs r hm hb hat c0 c1 hdl
  go_enter Tryz.func53, Tryz.ntmps53
  go_wp2_with fail
  have NS : Hid (name.size = name.data.toList.length) := by cases name; simp [ByteArray.size, Hid]
  have TS : Hid ((⟨text.toArray⟩ : ByteArray).size = text.length) := List.size_toArray ..
  have DS : Hid ((⟨(Lib.decDigits x).toArray⟩ : ByteArray).size = (Lib.decDigits x).length) := List.size_toArray ..
  have F : ∀ W1, W1 = (w.alloc (.cells #[.string name, .int .i64 k, .slice fa fl fc] 80)).alloc (.cells #[.pointer none, .slice none 0 0] 98) →
      Bld (w.heap.size + 1) (w.heap.size + 1) [] W1 ∧ W1.cell? ⟨w.heap.size, 1, none⟩ = some (.int .i64 k) ∧ Below w.heap.size w W1 := fun W1 e => by
    subst e
    refine ⟨?_, by simp, ((Below.refl _ _).alloc (Nat.le_refl _) _).alloc (by simp) _⟩
    have := Colour.fresh_bld (w.alloc (.cells #[.string name, .int .i64 k, .slice fa fl fc] 80))
    simp only [World.size_alloc] at this
    exact this
  generalize hW : (w.alloc (.cells #[.string name, .int .i64 k, .slice fa fl fc] 80)).alloc (.cells #[.pointer none, .slice none 0 0] 98) = W1
  obtain ⟨hb0, hk0, hB0⟩ := F W1 hW.symm
  have R0 : Hid (Bld (w.heap.size + 1) (w.heap.size + 1) [] W1) := hb0
  have B0 : Hid (Below w.heap.size w W1) := hB0
  have K0 : Hid (W1.cell? ⟨w.heap.size, 1, none⟩ = some (.int .i64 k)) := hk0
  clear F hW hb0 hk0 hB0
  refine (Colour.writeString_b (w.heap.size + 1) (w.heap.size + 1) [] name _ R0.out (by have := LT.out.1; simp; omega)).mono ?_
  rintro e w2 ⟨he, hr, hk2⟩
  subst he
  have R2 : Hid (Bld (w.heap.size + 1) (w.heap.size + 1) ([] ++ name.data.toList) w2) := hr
  have K2 : Hid (Kept (w.heap.size + 1) (w.heap.size + 1) W1 w2) := hk2
  clear hr hk2
  go_wp2_with fail
  refine (Colour.writeByte_b (w.heap.size + 1) (w.heap.size + 1) _ 58 _ R2.out (by have := LT.out.1; have := NS.out; simp; omega)).mono ?_
  rintro e w3 ⟨he, hr, hk3⟩
  subst he
  have R3 : Hid (Bld (w.heap.size + 1) (w.heap.size + 1) ([] ++ name.data.toList ++ [58]) w3) := hr
  have K3 : Hid (Kept (w.heap.size + 1) (w.heap.size + 1) W1 w3) := K2.out.trans hk3
  have B3 : Hid (Below w.heap.size w w3) := B0.out.trans (K3.out.1.mono (by omega))
  clear hr hk3
  have c0 : w3.cell? ⟨b0, off, none⟩ = some (.int .i64 m) := rowB_call C0.out B3.out
  have c1 : w3.cell? ⟨b0, off + 1, none⟩ = some (.int .i64 x) := rowB_call C1.out B3.out
  have hbl3 : b0 < w3.heap.size := World.block_lt_of_cell? w3 _ c0
  go_wp2
  refine wp_loop_rounds 2 ?_
  rw [rounds_succ]
  go_wp2_with fail
  have RB : Hid ((w3.alloc (.cells #[.int .i64 m, .int .i64 x] 56)).heap[w3.heap.size]? = some (.cells #[.int .i64 m, .int .i64 x] 56)) := heap_alloc_new _ _
  have BN : Hid (w3.heap.size ≠ w.heap.size + 1) := (show w3.heap.size ≠ w.heap.size + 1 by have := R3.out.2.2; omega)
  refine (Colour.writeByte_b (w.heap.size + 1) (w.heap.size + 1) _ 32 _ (R3.out.alloc _) (by have := LT.out.1; have := NS.out; simp; omega)).mono ?_
  rintro e w4 ⟨he, hr, hk4⟩
  subst he
  have R4 : Hid (Bld (w.heap.size + 1) (w.heap.size + 1) ([] ++ name.data.toList ++ [58] ++ [32]) w4) := hr
  have K4 : Hid (Kept (w.heap.size + 1) (w.heap.size + 1) W1 w4) := (K3.out.alloc R3.out.2.1 _).trans hk4
  have B4 : Hid (Below w.heap.size w w4) := B0.out.trans (K4.out.1.mono (by omega))
  have RB4 : Hid (w4.heap[w3.heap.size]? = some (.cells #[.int .i64 m, .int .i64 x] 56)) := kept_row hk4 RB.out BN.out
  clear hr hk4 c0 c1 RB
  generalize w3.heap.size = rb at *
  have d0 : w4.cell? ⟨rb, 0, none⟩ = some (.int .i64 m) := (Expr.box_cell RB4.out 0).trans rfl
  have e0 : w4.cell? ⟨w.heap.size, 1, none⟩ = some (.int .i64 k) := (K4.out.1.cell (p := ⟨w.heap.size, 1, none⟩) (by show w.heap.size < w.heap.size + 1; omega)).trans K0.out
  go_wp2_with fail
  refine (HT.out _ B4.out).mono ?_
  rintro e w5 ⟨he, hb5⟩
  subst he
  have R5 : Hid (Bld (w.heap.size + 1) (w.heap.size + 1) ([] ++ name.data.toList ++ [58] ++ [32]) w5) := bld_below R4.out hb5
  have K5 : Hid (Kept (w.heap.size + 1) (w.heap.size + 1) W1 w5) := kept_below K4.out R4.out.2.1 hb5
  have RB5 : Hid (w5.heap[rb]? = some (.cells #[.int .i64 m, .int .i64 x] 56)) := (hb5.block rb (Array.getElem?_eq_some_iff.1 RB4.out).1).trans RB4.out
  clear hb5 d0 e0
  go_wp2_with fail
  refine (Colour.writeString_b (w.heap.size + 1) (w.heap.size + 1) _ ⟨text.toArray⟩ _ R5.out (by have := LT.out.1; have := NS.out; have := TS.out; simp; omega)).mono ?_
  rintro e w6 ⟨he, hr, hk6⟩
  subst he
  have R6 : Hid (Bld (w.heap.size + 1) (w.heap.size + 1) ([] ++ name.data.toList ++ [58] ++ [32] ++ text) w6) := hr
  have K6 : Hid (Kept (w.heap.size + 1) (w.heap.size + 1) W1 w6) := K5.out.trans hk6
  have RB6 : Hid (w6.heap[rb]? = some (.cells #[.int .i64 m, .int .i64 x] 56)) := kept_row hk6 RB5.out BN.out
  clear hr hk6
  go_wp2_with fail
  refine (Colour.writeByte_b (w.heap.size + 1) (w.heap.size + 1) _ 42 _ R6.out (by have := LT.out.1; have := NS.out; simp; omega)).mono ?_
  rintro e w7 ⟨he, hr, hk7⟩
  subst he
  have R7 : Hid (Bld (w.heap.size + 1) (w.heap.size + 1) ([] ++ name.data.toList ++ [58] ++ [32] ++ text ++ [42]) w7) := hr
  have K7 : Hid (Kept (w.heap.size + 1) (w.heap.size + 1) W1 w7) := K6.out.trans hk7
  have RB7 : Hid (w7.heap[rb]? = some (.cells #[.int .i64 m, .int .i64 x] 56)) := kept_row hk7 RB6.out BN.out
  clear hr hk7
  have d1 : w7.cell? ⟨rb, 1, none⟩ = some (.int .i64 x) := (Expr.box_cell RB7.out 1).trans rfl
  go_wp2_with fail
  refine (Tryz.strconv_Itoa_small x HX.out _).mono ?_
  rintro e w' ⟨he, hw⟩
  subst he
  have hw := hw.symm
  subst hw
  clear d1
  go_wp2_with fail
  refine (Colour.writeString_b (w.heap.size + 1) (w.heap.size + 1) _ ⟨(Lib.decDigits x).toArray⟩ _ R7.out (by have := LT.out.1; have := LT.out.2; have := NS.out; have := DS.out; simp; omega)).mono ?_
  rintro e w8 ⟨he, hr, hk8⟩
  subst he
  have R8 : Hid (Bld (w.heap.size + 1) (w.heap.size + 1) ([] ++ name.data.toList ++ [58] ++ [32] ++ text ++ [42] ++ Lib.decDigits x) w8) := hr
  have K8 : Hid (Kept (w.heap.size + 1) (w.heap.size + 1) W1 w8) := K7.out.trans hk8
  clear hr hk8
  go_wp2
  rw [rounds_succ]
  go_wp2_with fail
  refine (Build.string _ _ _ _ R8.out.1 R8.out.2.1).mono ?_
  rintro e w9 ⟨he, hb9⟩
  subst he
  have B9 : Hid (Below w.heap.size w w9) := B0.out.trans ((K8.out.1.trans hb9).mono (by omega))
  clear hb9
  go_wp2
  go_ret
  exact ⟨rfl, B9.out⟩
end Go.Proofs.YtnjpblmplneojaaGreatDoor.Mark
