/- Contracts and plain mathematics, together: MarkDec, MarkDe2, MarkDe3, MarkDe4. -/
import Derived.Test.YtnjpblmplneojaaGreatDoorMbC
import Derived.Deep.OwnRows
/- The reader of package mark: how it lies in memory, and its numbers, over the turned program. -/
namespace Go.Proofs.YtnjpblmplneojaaGreatDoor.Mark
open Go.RowKit Go.Proofs.YtnjpblmplneojaaGreatDoor.Frame Go.Proofs.YtnjpblmplneojaaGreatDoor.Bag
set_option linter.unusedVariables false
set_option linter.unusedSimpArgs false

/-- bytes that lie below B -/
def Byt (B : Nat) (w : World) (a : Option Addr) (l : List UInt8) : Prop := l.length = 0 ∨ ∃ b off, a = some ⟨b, off, none⟩ ∧ b < B ∧ ∀ i, i < l.length → w.cell? ⟨b, off + i, none⟩ = some (.int .u8 (l.getD i 0).toNat)
/-- nothing that was there has changed, but the block p -/
structure Chg (p : Nat) (w w' : World) : Prop where
  os : w'.os = w.os
  tape : w'.tape = w.tape
  output : w'.output = w.output
  size : w.heap.size ≤ w'.heap.size
  block : ∀ k, k < w.heap.size → k ≠ p → w'.heap[k]? = w.heap[k]?
theorem Chg.refl (p : Nat) (w : World) : Chg p w w := ⟨rfl, rfl, rfl, Nat.le_refl _, fun _ _ _ => rfl⟩
theorem Chg.trans {p : Nat} {a b c : World} (h : Chg p a b) (k : Chg p b c) : Chg p a c :=
  ⟨k.os.trans h.os, k.tape.trans h.tape, k.output.trans h.output, Nat.le_trans h.size k.size, fun i hi hm => (k.block i (Nat.lt_of_lt_of_le hi h.size) hm).trans (h.block i hi hm)⟩
theorem Chg.of_below {p : Nat} {w w' : World} (h : Below w.heap.size w w') : Chg p w w' := ⟨h.os, h.tape, h.output, h.size, fun i hi _ => h.block i hi⟩
theorem Chg.below {p B : Nat} {w w' : World} (h : Chg p w w') (hB : B ≤ p) (hs : B ≤ w.heap.size) : Below B w w' :=
  ⟨h.os, h.tape, h.output, h.size, fun i hi => h.block i (by omega) (by omega)⟩
theorem Chg.setCell {p : Nat} {w w' : World} (h : Chg p w w') {b o : Nat} (hb : b = p ∨ w.heap.size ≤ b) (v : Value) : Chg p w (w'.setCell ⟨b, o, none⟩ v) := by
  refine ⟨h.os, h.tape, h.output, by simpa [World.setCell] using h.size, fun i hi hm => ?_⟩
  have : i ≠ b := fun e => by subst e; rcases hb with hb | hb; exact hm hb; omega
  rw [RowKit.Below.heap_setCell _ _ _ _ this]
  exact h.block i hi hm
theorem Chg.alloc {p : Nat} {w w' : World} (h : Chg p w w') (o : Obj) : Chg p w (w'.alloc o) :=
  h.trans (.of_below ((Below.refl _ _).alloc (Nat.le_refl _) _))
theorem cellNe {w : World} {b o b' o' : Nat} {v : Value} (h : ¬ (b = b' ∧ o = o')) : (w.setCell ⟨b, o, none⟩ v).cell? ⟨b', o', none⟩ = w.cell? ⟨b', o', none⟩ :=
  World.cell?_setCell_other _ _ _ _ (fun e => h ⟨congrArg Addr.block e, congrArg Addr.off e⟩)
theorem cellEq {w : World} {b o : Nat} {v u : Value} (h : w.cell? ⟨b, o, none⟩ = some u) : (w.setCell ⟨b, o, none⟩ v).cell? ⟨b, o, none⟩ = some v := World.cell?_setCell_same _ _ _ h
theorem Byt.below {B : Nat} {w w' : World} {a : Option Addr} {l : List UInt8} (h : Byt B w a l) (hb : Below B w w') : Byt B w' a l := by
  rcases h with h | ⟨b, off, ha, hB, hc⟩
  · exact .inl h
  · exact .inr ⟨b, off, ha, hB, fun i hi => (hb.cell (p := ⟨b, off + i, none⟩) hB).trans (hc i hi)⟩
theorem Byt.drop {B : Nat} {w : World} {b off : Nat} {l : List UInt8} (h : Byt B w (some ⟨b, off, none⟩) l) (k : Nat) : Byt B w (some ⟨b, off + k, none⟩) (l.drop k) := by
  rcases h with h | ⟨b', off', ha, hB, hc⟩
  · exact .inl (by rw [List.length_drop]; omega)
  · injection ha with ha; injection ha with h1 h2; subst h1 h2
    refine .inr ⟨b, off + k, rfl, hB, fun i hi => ?_⟩
    rw [List.length_drop] at hi
    have := hc (k + i) (by omega)
    rw [show off + (k + i) = off + k + i by omega] at this
    rw [this, List.getD_eq_getElem?_getD, List.getD_eq_getElem?_getD, List.getElem?_drop]
/-- where a reader stands: what is left, and whether there was too little -/
def Rd (B : Nat) (w : World) (p : Nat) (l : List UInt8) (sh : Bool) : Prop := B ≤ p ∧ ∃ a c, (w.cell? ⟨p, 0, none⟩ = some (.slice a l.length c) ∧ w.cell? ⟨p, 1, none⟩ = some (.bool sh) ∧ ∀ o, w.frozen? ⟨p, o, none⟩ = false) ∧ Byt B w a l ∧ l.length ≤ c ∧ c ≤ 9223372036854775807
theorem Rd.lt {B p : Nat} {w : World} {l : List UInt8} {sh : Bool} (h : Rd B w p l sh) : p < w.heap.size := by
  obtain ⟨_, a, c, ⟨h, _⟩, _⟩ := h
  exact World.block_lt_of_cell? w _ h
theorem Rd.below {B p : Nat} {w w' : World} {l : List UInt8} {sh : Bool} (h : Rd B w p l sh) (hb : Below w.heap.size w w') : Rd B w' p l sh := by
  have hp := h.lt
  obtain ⟨h0, a, c, ⟨h1, h2, h3⟩, h4, h5⟩ := h
  have hbl := hb.block p hp
  refine ⟨h0, a, c, ⟨?_, ?_, fun o => ?_⟩, h4.below (hb.mono (by omega)), h5⟩
  · exact (hb.cell (p := ⟨p, 0, none⟩) hp).trans h1
  · exact (hb.cell (p := ⟨p, 1, none⟩) hp).trans h2
  · rw [← h3 o]; simp [World.frozen?, hbl]

/-- the number of the first so many bytes -/
def nv (l : List UInt8) : Nat → Nat
  | 0 => 0
  | k + 1 => nv l k * 256 + byteAt l k
theorem nv_one (l : List UInt8) : nv l 1 = byteAt l 0 := by
  show 0 * 256 + byteAt l 0 = _
  omega
theorem nv_two (l : List UInt8) : nv l 2 = numR l := by
  show (0 * 256 + byteAt l 0) * 256 + byteAt l 1 = _
  unfold numR
  omega
theorem nv_four (l : List UInt8) : nv l 4 = num4 l := by
  show (((0 * 256 + byteAt l 0) * 256 + byteAt l 1) * 256 + byteAt l 2) * 256 + byteAt l 3 = num4 l
  unfold num4
  generalize byteAt l 0 = x0
  generalize byteAt l 1 = x1
  generalize byteAt l 2 = x2
  generalize byteAt l 3 = x3
  omega
theorem or_sum (n c : Nat) (hn : n < 16777216) (hc : c < 256) : bits BinOp.or IntKind.i64 (wrap64 ((n : Int) * 256)) (c : Int) = ((n * 256 + c : Nat) : Int) := by
  have e1 : wrap64 ((n : Int) * 256) = ((n * 256 : Nat) : Int) := by unfold wrap64; omega
  rw [e1]
  have h1 : (BitVec.ofInt 64 ((n * 256 : Nat) : Int)).toNat = n * 256 := by
    rw [BitVec.ofInt_natCast, BitVec.toNat_ofNat]; exact Nat.mod_eq_of_lt (by omega)
  have h2 : (BitVec.ofInt 64 (c : Int)).toNat = c := by
    rw [BitVec.ofInt_natCast, BitVec.toNat_ofNat]; exact Nat.mod_eq_of_lt (by omega)
  show IntKind.i64.wrap ((BitVec.ofInt 64 ((n * 256 : Nat) : Int) ||| BitVec.ofInt 64 (c : Int)).toNat : Int) = _
  rw [BitVec.toNat_or, h1, h2]
  have h3 : n * 256 ||| c = n * 256 + c := by
    have := Nat.two_pow_add_eq_or_of_lt (i := 8) (b := c) (by omega) n
    rw [show (2 : Nat) ^ 8 * n = n * 256 by omega] at this
    exact this.symm
  rw [h3]
  simp [IntKind.wrap, IntKind.signed, IntKind.bits]
  omega
theorem byteAt_lt (l : List UInt8) (k : Nat) : byteAt l k < 256 := u8_lt _
theorem nv_lt (l : List UInt8) (k : Nat) : nv l k < 256 ^ k := by
  induction k with
  | zero => simp [nv]
  | succ k ih =>
    have h1 : nv l k * 256 + byteAt l k < (nv l k + 1) * 256 := by have := byteAt_lt l k; omega
    have h2 : (nv l k + 1) * 256 ≤ 256 ^ k * 256 := Nat.mul_le_mul ih (Nat.le_refl _)
    show nv l k * 256 + byteAt l k < 256 ^ (k + 1)
    rw [Nat.pow_succ]; exact Nat.lt_of_lt_of_le h1 h2
def numN (wide : Nat) (l : List UInt8) : Nat := if wide ≤ l.length then nv l wide else 0
def numT (wide : Nat) (l : List UInt8) : List UInt8 := if wide ≤ l.length then l.drop wide else l
def numS (wide : Nat) (l : List UInt8) (sh : Bool) : Bool := if wide ≤ l.length then sh else true
def NumPost (B p wide : Nat) (l : List UInt8) (sh : Bool) (w : World) (e : Ending) (w' : World) : Prop := e = .returned (.int .i64 (numN wide l : Nat)) ∧ Rd B w' p (numT wide l) (numS wide l sh) ∧ Chg p w w'

set_option maxRecDepth 100000 in
set_option maxHeartbeats 1000000 in
theorem number_any (B p wide : Nat) (l : List UInt8) (sh : Bool) (w : World) (h : Rd B w p l sh) (h1 : 1 ≤ wide) (h4 : wide ≤ 4) :
    Calls Tryz.prog 65 #[.pointer (some ⟨p, 0, none⟩), .int .i64 wide] w (NumPost B p wide l sh w) := by
  have hp := h.lt
  obtain ⟨hBp, a, c, ⟨c0, c1, fz⟩, hby, hlc, hc⟩ := h
  have f0 := fz 0
  have f1 := fz 1
  by_cases hlt : l.length < wide
  · have hlt' : (l.length : Int) < wide := by omega
    have E : Hid (numN wide l = 0 ∧ numT wide l = l ∧ numS wide l sh = true) := by
      have : ¬ wide ≤ l.length := by omega
      exact ⟨if_neg this, if_neg this, if_neg this⟩
    have FZ : Hid (∀ o, w.frozen? ⟨p, o, none⟩ = false) := fz
    have BY : Hid (Byt B w a l) := hby
    clear fz hby
    go_enter Tryz.func65, Tryz.ntmps65
    go_wp2
    go_ret
    refine ⟨by rw [E.out.1]; rfl, ?_, (Chg.refl _ _).setCell (.inl rfl) _⟩
    rw [E.out.2.1, E.out.2.2]
    refine ⟨hBp, a, c, ⟨?_, ?_, fun o => ?_⟩, BY.out.below ((Below.refl _ _).setCell hBp _), hlc, hc⟩
    · rw [cellNe (by omega)]; exact c0
    · exact cellEq c1
    · simpa using FZ.out o
  · have hge : ¬ (l.length : Int) < wide := by omega
    obtain ⟨b, off, hae, hbB, hbc⟩ : ∃ b off, a = some ⟨b, off, none⟩ ∧ b < B ∧ ∀ i, i < l.length → w.cell? ⟨b, off + i, none⟩ = some (.int .u8 (l.getD i 0).toNat) := by
      rcases hby with h0 | ⟨b, off, ha, hB, hcc⟩
      · omega
      · exact ⟨b, off, ha, hB, hcc⟩
    subst hae
    have HC : Hid (∀ i, i < l.length → w.cell? ⟨b, off + i, none⟩ = some (.int .u8 (byteAt l i : Nat))) := hbc
    have FZ : Hid (∀ o, w.frozen? ⟨p, o, none⟩ = false) := fz
    have BY : Hid (Byt B w (some ⟨b, off, none⟩) l) := hby
    have hwl : (wide : Int) ≤ l.length := by omega
    have hwc : (wide : Int) ≤ c := by omega
    clear fz hby hbc
    go_enter Tryz.func65, Tryz.ntmps65
    go_wp2
    go_loopw [5, 25] (fun n i wr => ∃ k : Nat, k ≤ wide ∧ i = .int .i64 k ∧ n = .int .i64 (nv l k : Nat) ∧ wr = w) (fun _ i _ => wide - (intOf i).toNat)
    case atStart => exact ⟨0, by omega, rfl, rfl, rfl⟩
    case round =>
      obtain ⟨k, hk, rfl, rfl, rfl⟩ := hrel
      by_cases hkw : k < wide
      · have hkw' : (k : Int) < wide := by omega
        have ck := HC.out k (by omega)
        have hb := nv_lt l k
        have hb' : nv l k < 16777216 := Nat.lt_of_lt_of_le hb (Nat.pow_le_pow_right (n := 256) (by decide) (by omega : k ≤ 3))
        have hs : nv l (k + 1) = nv l k * 256 + byteAt l k := rfl
        have hbb := byteAt_lt l k
        have hor := or_sum (nv l k) (byteAt l k) hb' hbb
        rw [← hs] at hor
        obtain ⟨n1, hn1⟩ : ∃ n1, n1 = nv l (k + 1) := ⟨_, rfl⟩
        have HS : Hid (nv l (k + 1) = n1) := hn1.symm
        rw [← hn1] at hor hs
        generalize nv l k = n at *
        generalize byteAt l k = x at *
        have HO : Hid (bits BinOp.or IntKind.i64 (wrap64 ((n : Int) * 256)) (x : Int) = (n1 : Int)) := hor
        clear hor hs hb hb' hn1
        go_wp2
        go_roundw
        case rel => exact ⟨k + 1, by omega, by go_num, by rw [HO.out, HS.out], trivial⟩
        case measure => simp [intOf]; omega
      · have hkw' : ¬ (k : Int) < wide := by omega
        obtain rfl : k = wide := by omega
        have E : Hid (numN k l = nv l k ∧ numT k l = l.drop k ∧ numS k l sh = sh) := by
          have : k ≤ l.length := by omega
          exact ⟨if_pos this, if_pos this, if_pos this⟩
        generalize nv l k = n at *
        by_cases hck : c = k
        · have el : l.length = k := by omega
          have E0 : l.drop k = [] := List.drop_of_length_le (by omega)
          go_wp2
          go_ret
          refine ⟨by rw [E.out.1]; rfl, ?_, (Chg.refl _ _).setCell (.inl rfl) _⟩
          rw [E.out.2.1, E.out.2.2, E0]
          refine ⟨hBp, some ⟨b, off, none⟩, 0, ⟨?_, ?_, fun o => ?_⟩, .inl rfl, Nat.zero_le _, by omega⟩
          · rw [cellEq c0]
            simp [el]
          · rw [cellNe (by omega)]; exact c1
          · simpa using FZ.out o
        · go_wp2
          go_ret
          refine ⟨by rw [E.out.1]; rfl, ?_, (Chg.refl _ _).setCell (.inl rfl) _⟩
          rw [E.out.2.1, E.out.2.2]
          refine ⟨hBp, some ⟨b, off + k, none⟩, c - k, ⟨?_, ?_, fun o => ?_⟩, (BY.out.drop k).below ((Below.refl _ _).setCell hBp _), by rw [List.length_drop]; omega, by omega⟩
          · rw [cellEq c0]
            simp
          · rw [cellNe (by omega)]; exact c1
          · simpa using FZ.out o
end Go.Proofs.YtnjpblmplneojaaGreatDoor.Mark
/- The reader of package mark: a bag, over the turned program. -/
namespace Go.Proofs.YtnjpblmplneojaaGreatDoor.Mark
open Go.RowKit Go.Proofs.YtnjpblmplneojaaGreatDoor.Frame Go.Proofs.YtnjpblmplneojaaGreatDoor.Bag
set_option linter.unusedVariables false
set_option linter.unusedSimpArgs false

/-- what a bag's bytes tell, what is left, and whether there was too little -/
def bagX (l : List UInt8) : Bool := decide ((numT 2 l).length / 8 < numN 2 l)
def bagR (l : List UInt8) : List Row := if bagX l then [] else rowsD (numN 2 l) (numT 2 l)
def bagT (l : List UInt8) : List UInt8 := if bagX l then numT 2 l else (numT 2 l).drop (8 * numN 2 l)
def bagS (l : List UInt8) (sh : Bool) : Bool := if bagX l then true else numS 2 l sh
theorem rowsD_snoc : ∀ (k : Nat) (l : List UInt8), rowsD (k + 1) l = rowsD k l ++ [((num4 (l.drop (8 * k)) : Int), (num4 (l.drop (8 * k + 4)) : Int))]
  | 0, l => rfl
  | k + 1, l => by
    show ((num4 l : Int), (num4 (l.drop 4) : Int)) :: rowsD (k + 1) (l.drop 8) = _
    rw [rowsD_snoc k (l.drop 8), List.drop_drop, List.drop_drop, show 8 + 8 * k = 8 * (k + 1) by omega, show 8 + (8 * k + 4) = 8 * (k + 1) + 4 by omega]
    rfl
/-- a cell of rows that are laid one behind the other; behind these 0 -/
def cellF (rs : List Row) (j : Nat) : Value := .int .i64 (if j % 2 = 0 then (rs.getD (j / 2) zr).1 else (rs.getD (j / 2) zr).2)
theorem cellF_nil (j : Nat) : cellF [] j = .int .i64 0 := by unfold cellF; split <;> simp [zr]
theorem cellF_snoc (rs : List Row) (m c : Int) (j : Nat) : cellF (rs ++ [(m, c)]) j = if j = rs.length * 2 + 1 then .int .i64 c else if j = rs.length * 2 then .int .i64 m else cellF rs j := by
  unfold cellF
  by_cases h1 : j = rs.length * 2 + 1
  · rw [if_pos h1, if_neg (by omega), show j / 2 = rs.length by omega]; simp [List.getD_eq_getElem?_getD]
  · rw [if_neg h1]
    by_cases h2 : j = rs.length * 2
    · rw [if_pos h2, if_pos (by omega), show j / 2 = rs.length by omega]; simp [List.getD_eq_getElem?_getD]
    · rw [if_neg h2]
      have : (rs ++ [(m, c)]).getD (j / 2) zr = rs.getD (j / 2) zr := by
        rw [List.getD_eq_getElem?_getD, List.getD_eq_getElem?_getD]
        rcases Nat.lt_or_ge (j / 2) rs.length with h | h
        · rw [List.getElem?_append_left h]
        · rw [List.getElem?_append_right h, List.getElem?_eq_none h, List.getElem?_eq_none (by simp; omega)]
      rw [this]
theorem Rd.set {B p g o : Nat} {w : World} {l : List UInt8} {sh : Bool} (h : Rd B w p l sh) (hg : g ≠ p) (hB : B ≤ g) (v : Value) : Rd B (w.setCell ⟨g, o, none⟩ v) p l sh := by
  obtain ⟨h0, a, c, ⟨h1, h2, h3⟩, h4, h5⟩ := h
  refine ⟨h0, a, c, ⟨?_, ?_, fun o' => ?_⟩, h4.below ((Below.refl _ _).setCell hB _), h5⟩
  · rw [cellNe (fun e => hg e.1)]; exact h1
  · rw [cellNe (fun e => hg e.1)]; exact h2
  · simpa using h3 o'
theorem rowIs_chg {p g n : Nat} {t : TypeId} {f : Nat → Value} {w w' : World} (h : w.rowIs g t n f) (hc : Chg p w w') (hg : g ≠ p) : w'.rowIs g t n f := h.of_block (hc.block g h.lt hg)
/-- a bag of the call's own, from a block on, not in the block p -/
def OBag (p L : Nat) (w : World) (a : Option Addr) (rs : List Row) : Prop := Wf rs ∧ (rs.length = 0 ∨ ∃ g, a = some ⟨g, 0, none⟩ ∧ L ≤ g ∧ g ≠ p ∧ w.rowIs g 56 (rs.length * 2) (cellF rs))
theorem OBag.bags {p L : Nat} {w : World} {a : Option Addr} {rs : List Row} (h : OBag p L w a rs) : Bags w a rs.length rs := by
  refine ⟨⟨rfl, h.1⟩, ?_⟩
  rcases h.2 with h0 | ⟨g, ha, _, _, h'⟩
  · exact .inl h0
  refine .inr ⟨g, 0, ha, fun i hi => ?_⟩
  have c0 := h'.cell (i := i * 2) (by omega)
  have c1 := h'.cell (i := i * 2 + 1) (by omega)
  rw [show 0 + i * 2 = i * 2 by omega, c0, c1]
  unfold cellF
  rw [if_pos (by omega), if_neg (by omega), show i * 2 / 2 = i by omega, show (i * 2 + 1) / 2 = i by omega]
  exact ⟨rfl, rfl⟩
theorem OBag.chg {p L : Nat} {w w' : World} {a : Option Addr} {rs : List Row} (h : OBag p L w a rs) (hc : Chg p w w') : OBag p L w' a rs := by
  refine ⟨h.1, ?_⟩
  rcases h.2 with h0 | ⟨g, ha, hL, hp, h'⟩
  · exact .inl h0
  · exact .inr ⟨g, ha, hL, hp, rowIs_chg h' hc hp⟩
theorem OBag.set {p L g o : Nat} {w : World} {a : Option Addr} {rs : List Row} (h : OBag p L w a rs) (hg : g < L) (v : Value) : OBag p L (w.setCell ⟨g, o, none⟩ v) a rs := by
  refine ⟨h.1, ?_⟩
  rcases h.2 with h0 | ⟨b, ha, hL, hp, h'⟩
  · exact .inl h0
  · exact .inr ⟨b, ha, hL, hp, h'.setOther (show b ≠ g by omega) v⟩
theorem OBag.mono {p L L' : Nat} {w : World} {a : Option Addr} {rs : List Row} (h : OBag p L w a rs) (hl : L' ≤ L) : OBag p L' w a rs := by
  refine ⟨h.1, ?_⟩
  rcases h.2 with h0 | ⟨b, ha, hL, hp, h'⟩
  · exact .inl h0
  · exact .inr ⟨b, ha, Nat.le_trans hl hL, hp, h'⟩
theorem rowsD_wf : ∀ (k : Nat) (l : List UInt8), Wf (rowsD k l)
  | 0, _ => fun i hi => by simp [rowsD] at hi
  | k + 1, l => fun i hi => by
    cases i with
    | zero => exact ⟨by have := num4_lt l; show In64 (num4 l : Int); unfold In64; omega, by have := num4_lt (l.drop 4); show In64 (num4 (l.drop 4) : Int); unfold In64; omega⟩
    | succ i =>
      have hl : i < (rowsD k (l.drop 8)).length := by rw [rowsD_len] at hi ⊢; omega
      exact rowsD_wf k (l.drop 8) i hl
theorem infoRow : (Tryz.prog.info? 56).map (fun i => (i.zero, i.size, i.bytes)) = some (some (.agg #[.int .i64 0, .int .i64 0]), 2, 16) := by kernel_rfl
theorem make_rows (n : Nat) (hn : n ≤ 1000000) (W : World) : (Instr.makeSlice 36 (.int .i64 (n : Int)) (.int .i64 (n : Int))).run Tryz.prog W = .ok (.slice (some ⟨W.heap.size, 0, none⟩) n n) (W.alloc (.cells (madeCells #[.int .i64 0, .int .i64 0] (n * 2)) 56)) := by
  obtain ⟨i, hi, hzz⟩ := Option.map_eq_some_iff.1 infoRow
  simp only [Prod.mk.injEq] at hzz
  obtain ⟨hz, hs, hb⟩ := hzz
  have hr := run_make (P := Tryz.prog) W 36 56 i _ Tryz.underlying36 hi hz .i64 .i64 n n (by omega) (Int.le_refl _) (by rw [hb]; omega) (by omega)
  simp only [Int.toNat_natCast, hs] at hr
  exact hr
theorem made_rows (n : Nat) (W : World) : (W.alloc (.cells (madeCells #[.int .i64 0, .int .i64 0] (n * 2)) 56)).rowIs W.heap.size 56 (n * 2) (cellF []) := by
  have := World.rowIs_alloc W (madeCells #[.int .i64 0, .int .i64 0] (n * 2)) 56 (cellF []) (fun i hi => by
    rw [size_madeCells] at hi
    rw [cellF_nil]
    unfold madeCells
    have h2 : i % 2 < 2 := Nat.mod_lt _ (by decide)
    have : i % 2 = 0 ∨ i % 2 = 1 := by omega
    rcases this with h | h <;> simp [hi, h])
  rwa [size_madeCells] at this
theorem drop_num (lt : List UInt8) (k j : Nat) (h : k + j ≤ lt.length) (hj : j = 4) : numN 4 (lt.drop k) = num4 (lt.drop k) ∧ numT 4 (lt.drop k) = lt.drop (k + 4) ∧ ∀ sh, numS 4 (lt.drop k) sh = sh := by
  have : 4 ≤ (lt.drop k).length := by rw [List.length_drop]; omega
  refine ⟨by unfold numN; rw [if_pos this, nv_four], by unfold numT; rw [if_pos this, List.drop_drop], fun sh => by unfold numS; rw [if_pos this]⟩
def BagDPost (B p : Nat) (l : List UInt8) (sh : Bool) (w : World) (e : Ending) (w' : World) : Prop :=
  ∃ a c, e = .returned (.slice a (bagR l).length c) ∧ OBag p w.heap.size w' a (bagR l) ∧ Rd B w' p (bagT l) (bagS l sh) ∧ Chg p w w'

set_option maxRecDepth 100000 in
set_option maxHeartbeats 1000000 in
theorem bag_r (B p : Nat) (l : List UInt8) (sh : Bool) (w : World) (h : Rd B w p l sh) (hl : l.length ≤ 80000) :
    Calls Tryz.prog 66 #[.pointer (some ⟨p, 0, none⟩)] w (BagDPost B p l sh w) := by
  have CN : Hid (Calls Tryz.prog 65 #[.pointer (some ⟨p, 0, none⟩), .int .i64 (2 : Nat)] w (NumPost B p 2 l sh w)) := number_any B p 2 l sh w h (by omega) (by omega)
  have hp := h.lt
  clear h
  go_enter Tryz.func66, Tryz.ntmps66
  go_wp2_with fail
  refine CN.out.mono ?_
  rintro e w1 ⟨he, hR, hC⟩
  subst he
  have R1 : Hid (Rd B w1 p (numT 2 l) (numS 2 l sh)) := hR
  have C1 : Hid (Chg p w w1) := hC
  have hp1 := hR.lt
  obtain ⟨hBp, a, c, ⟨c0, c1, fz⟩, hby, hlc, hc⟩ := hR
  have f1 := fz 1
  have XX : Hid (bagX l = decide ((numT 2 l).length / 8 < numN 2 l)) := rfl
  have hlt : (numT 2 l).length ≤ 80000 := by
    unfold numT
    split
    · rw [List.length_drop]; omega
    · exact hl
  have hnn : numN 2 l ≤ 65536 := by
    unfold numN
    split
    · have := nv_lt l 2; omega
    · omega
  have ER : Hid (bagR l = if bagX l then [] else rowsD (numN 2 l) (numT 2 l)) := rfl
  have ET : Hid (bagT l = if bagX l then numT 2 l else (numT 2 l).drop (8 * numN 2 l)) := rfl
  have ES : Hid (bagS l sh = if bagX l then true else numS 2 l sh) := rfl
  clear hC CN
  generalize numT 2 l = lt at *
  generalize numN 2 l = n at *
  generalize numS 2 l sh = s1 at *
  by_cases hx : lt.length / 8 < n
  · have X : bagX l = true := by rw [XX.out]; exact decide_eq_true hx
    have E : Hid (bagR l = [] ∧ bagT l = lt ∧ bagS l sh = true) := ⟨by rw [ER.out, X]; rfl, by rw [ET.out, X]; rfl, by rw [ES.out, X]; rfl⟩
    have hx' : ((lt.length / 8 : Nat) : Int) < n := by omega
    have FZ : Hid (∀ o, w1.frozen? ⟨p, o, none⟩ = false) := fz
    have BY : Hid (Byt B w1 a lt) := hby
    clear ER ET ES XX X fz hby
    go_wp2
    go_ret
    refine ⟨none, 0, by rw [E.out.1]; rfl, ?_, ?_, C1.out.setCell (.inl rfl) _⟩
    · rw [E.out.1]; exact ⟨(fun i hi => by cases hi), .inl rfl⟩
    · rw [E.out.2.1, E.out.2.2]
      refine ⟨hBp, a, c, ⟨?_, ?_, fun o => ?_⟩, BY.out.below ((Below.refl _ _).setCell hBp _), hlc, hc⟩
      · rw [cellNe (by omega)]; exact c0
      · exact cellEq c1
      · simpa using FZ.out o
  · have X : bagX l = false := by rw [XX.out]; exact decide_eq_false hx
    have E : Hid (bagR l = rowsD n lt ∧ bagT l = lt.drop (8 * n) ∧ bagS l sh = s1) := ⟨by rw [ER.out, X]; rfl, by rw [ET.out, X]; rfl, by rw [ES.out, X]; rfl⟩
    have hx' : ¬ (lt.length : Int) / 8 < n := by omega
    have h8 : 8 * n ≤ lt.length := by omega
    clear ER ET ES XX X fz hby
    have hmk := make_rows n (by omega)
    have HR1 : Hid (w1.heap.size ≠ p) := (show w1.heap.size ≠ p by omega)
    have BB : Hid (B ≤ p) := hBp
    have LTL : Hid (lt.length ≤ 80000) := hlt
    clear c1 f1 hBp hlc hc
    go_wp2
    clear hmk c0
    have M0 : Hid ((w1.alloc (.cells (madeCells #[.int .i64 0, .int .i64 0] (n * 2)) 56)).rowIs w1.heap.size 56 (n * 2) (cellF (rowsD 0 lt))) := made_rows n w1
    have D0 : Hid (Rd B (w1.alloc (.cells (madeCells #[.int .i64 0, .int .i64 0] (n * 2)) 56)) p (lt.drop (8 * 0)) s1) := R1.out.below ((Below.refl _ _).alloc (Nat.le_refl _) _)
    have G0 : Hid (Chg p w (w1.alloc (.cells (madeCells #[.int .i64 0, .int .i64 0] (n * 2)) 56))) := C1.out.alloc _
    have NG : Hid (w.heap.size ≤ w1.heap.size) := C1.out.size
    have GB : Hid (B ≤ w1.heap.size) := (show B ≤ w1.heap.size by have := BB.out; omega)
    generalize w1.heap.size = g at *
    generalize w1.alloc (.cells (madeCells #[.int .i64 0, .int .i64 0] (n * 2)) 56) = w2 at *
    go_loopw [23] (fun i wr => ∃ k : Nat, k ≤ n ∧ i = .int .i64 k ∧ Hid (wr.rowIs g 56 (n * 2) (cellF (rowsD k lt))) ∧ Hid (Rd B wr p (lt.drop (8 * k)) s1) ∧ Hid (Chg p w wr)) (fun i _ => n - (intOf i).toNat)
    case atStart => exact ⟨0, by omega, rfl, M0.out, D0.out, G0.out⟩
    case round =>
      obtain ⟨k, hk, rfl, hM, hD, hG⟩ := hrel
      clear M0 D0 G0
      by_cases hkn : k < n
      · have hkn' : (k : Int) < n := by omega
        obtain ⟨n1, t1, s1e⟩ := drop_num lt (8 * k) 4 (by omega) rfl
        obtain ⟨n2, t2, s2e⟩ := drop_num lt (8 * k + 4) 4 (by omega) rfl
        have CA : Hid (∀ W, Rd B W p (lt.drop (8 * k)) s1 → Calls Tryz.prog 65 #[.pointer (some ⟨p, 0, none⟩), .int .i64 (4 : Nat)] W fun e w' => e = .returned (.int .i64 (num4 (lt.drop (8 * k)) : Nat)) ∧ Rd B w' p (lt.drop (8 * k + 4)) s1 ∧ Chg p W w') := fun W hW => by
          refine (number_any B p 4 (lt.drop (8 * k)) s1 W hW (by omega) (by omega)).mono ?_
          rintro e w' ⟨h1, h2, h3⟩
          rw [n1] at h1
          rw [t1, s1e] at h2
          exact ⟨h1, h2, h3⟩
        have CB : Hid (∀ W, Rd B W p (lt.drop (8 * k + 4)) s1 → Calls Tryz.prog 65 #[.pointer (some ⟨p, 0, none⟩), .int .i64 (4 : Nat)] W fun e w' => e = .returned (.int .i64 (num4 (lt.drop (8 * k + 4)) : Nat)) ∧ Rd B w' p (lt.drop (8 * (k + 1))) s1 ∧ Chg p W w') := fun W hW => by
          refine (number_any B p 4 (lt.drop (8 * k + 4)) s1 W hW (by omega) (by omega)).mono ?_
          rintro e w' ⟨h1, h2, h3⟩
          rw [n2] at h1
          rw [t2, s2e, show 8 * k + 4 + 4 = 8 * (k + 1) by omega] at h2
          exact ⟨h1, h2, h3⟩
        have SN : Hid (rowsD (k + 1) lt = rowsD k lt ++ [((num4 (lt.drop (8 * k)) : Int), (num4 (lt.drop (8 * k + 4)) : Int))]) := rowsD_snoc k lt
        have LK : Hid ((rowsD k lt).length = k) := rowsD_len k lt
        generalize num4 (lt.drop (8 * k)) = m at *
        generalize num4 (lt.drop (8 * k + 4)) = c at *
        clear n1 t1 s1e n2 t2 s2e
        go_wp2_with fail
        refine (CA.out _ hD.out).mono ?_
        rintro e w3 ⟨he, hD3, hC3⟩
        subst he
        have D3 : Hid (Rd B w3 p (lt.drop (8 * k + 4)) s1) := hD3
        have G3 : Hid (Chg p w w3) := hG.out.trans hC3
        have M3 : Hid (w3.rowIs g 56 (n * 2) (cellF (rowsD k lt))) := rowIs_chg hM.out hC3 HR1.out
        clear hD3 hC3 hM hD hG
        go_wp2_with fail
        refine (CB.out _ D3.out).mono ?_
        rintro e w4 ⟨he, hD4, hC4⟩
        subst he
        have D4 : Hid (Rd B w4 p (lt.drop (8 * (k + 1))) s1) := hD4
        have G4 : Hid (Chg p w w4) := G3.out.trans hC4
        have M4 : Hid (w4.rowIs g 56 (n * 2) (cellF (rowsD k lt))) := rowIs_chg M3.out hC4 HR1.out
        clear hD4 hC4 M3 D3 G3
        have q0 := M4.out.cell (i := k * 2) (by omega)
        have q1 := M4.out.cell (i := k * 2 + 1) (by omega)
        have z0 := M4.out.frozen (k * 2)
        have z1 := M4.out.frozen (k * 2 + 1)
        have hgl := M4.out.lt
        generalize cellF (rowsD k lt) (k * 2) = y0 at q0
        generalize cellF (rowsD k lt) (k * 2 + 1) = y1 at q1
        have hnm : (n : Int) = n := rfl
        go_wp2
        go_roundw
        case rel =>
          refine ⟨k + 1, by omega, by go_num, ?_, (D4.out.set HR1.out GB.out _).set HR1.out GB.out _, (G4.out.setCell (.inr NG.out) _).setCell (.inr NG.out) _⟩
          rw [SN.out]
          refine ((M4.out.set (k * 2) (.int .i64 m)).set (k * 2 + 1) (.int .i64 c)).congr fun j _ => ?_
          rw [cellF_snoc, LK.out]
        case measure => simp [intOf]; omega
      · obtain rfl : k = n := by omega
        have HB : Hid (OBag p w.heap.size wr (some ⟨g, 0, none⟩) (rowsD k lt)) := ⟨rowsD_wf k lt, .inr ⟨g, rfl, NG.out, HR1.out, by rw [rowsD_len]; exact hM.out⟩⟩
        have LK : Hid ((rowsD k lt).length = k) := rowsD_len k lt
        go_wp2
        go_ret
        refine ⟨some ⟨g, 0, none⟩, k, ?_, ?_, ?_, hG.out⟩
        · rw [E.out.1, LK.out]; rfl
        · rw [E.out.1]; exact HB.out
        · rw [E.out.2.1, E.out.2.2]; exact hD.out
end Go.Proofs.YtnjpblmplneojaaGreatDoor.Mark
/- Decode of package mark: a contract of the call, over the turned program. -/
namespace Go.Proofs.YtnjpblmplneojaaGreatDoor.Mark
open Go.RowKit Go.Proofs.YtnjpblmplneojaaGreatDoor.Frame Go.Proofs.YtnjpblmplneojaaGreatDoor.Bag
set_option linter.unusedVariables false
set_option linter.unusedSimpArgs false

/-- so many bags: what they tell, what is left, whether there was too little -/
def stR : Nat → List UInt8 → Bool → Mk × List UInt8 × Bool
  | 0, l, sh => ([], l, sh)
  | k + 1, l, sh => (bagR l :: (stR k (bagT l) (bagS l sh)).1, (stR k (bagT l) (bagS l sh)).2)
theorem stR_snoc : ∀ (k : Nat) (l : List UInt8) (sh : Bool), stR (k + 1) l sh = ((stR k l sh).1 ++ [bagR (stR k l sh).2.1], bagT (stR k l sh).2.1, bagS (stR k l sh).2.1 (stR k l sh).2.2)
  | 0, l, sh => rfl
  | k + 1, l, sh => by
    have ih := stR_snoc k (bagT l) (bagS l sh)
    show (bagR l :: (stR (k + 1) (bagT l) (bagS l sh)).1, (stR (k + 1) (bagT l) (bagS l sh)).2) = _
    rw [ih]
    rfl
theorem numT_le (w : Nat) (l : List UInt8) : (numT w l).length ≤ l.length := by
  unfold numT
  split
  · rw [List.length_drop]; omega
  · exact Nat.le_refl _
theorem bagT_le (l : List UInt8) : (bagT l).length ≤ l.length := by
  unfold bagT
  split
  · exact numT_le 2 l
  · rw [List.length_drop]; have := numT_le 2 l; omega
theorem stR_le : ∀ (k : Nat) (l : List UInt8) (sh : Bool), (stR k l sh).2.1.length ≤ l.length
  | 0, l, sh => Nat.le_refl _
  | k + 1, l, sh => Nat.le_trans (stR_le k (bagT l) (bagS l sh)) (bagT_le l)
theorem stR_len : ∀ (k : Nat) (l : List UInt8) (sh : Bool), (stR k l sh).1.length = k
  | 0, l, sh => rfl
  | k + 1, l, sh => by show (stR k (bagT l) (bagS l sh)).1.length + 1 = _; rw [stR_len k]
theorem bagR_len (l : List UInt8) : (bagR l).length ≤ l.length / 8 := by
  unfold bagR
  by_cases h : bagX l = true
  · rw [if_pos h]; exact Nat.zero_le _
  · rw [if_neg h, rowsD_len]
    have h' : ¬ (numT 2 l).length / 8 < numN 2 l := fun g => h (decide_eq_true g)
    have := numT_le 2 l
    omega
theorem stR_rows : ∀ (k : Nat) (l : List UInt8) (sh : Bool) (b : List Row), b ∈ (stR k l sh).1 → b.length ≤ l.length / 8
  | 0, l, sh, b, h => by cases h
  | k + 1, l, sh, b, h => by
    rcases List.mem_cons.1 h with rfl | h
    · exact bagR_len l
    · have := stR_rows k (bagT l) (bagS l sh) b h
      have := bagT_le l
      omega
theorem bagS_true (l : List UInt8) : bagS l true = true := by unfold bagS numS; split <;> simp
theorem stR_true : ∀ (k : Nat) (l : List UInt8), (stR k l true).2.2 = true
  | 0, l => rfl
  | k + 1, l => by show (stR k (bagT l) (bagS l true)).2.2 = true; rw [bagS_true]; exact stR_true k _
/-- as the plain reader -/
theorem bag_is (l : List UInt8) : (bagS l false = true ∧ ∀ k, bagsD (k + 1) l = none) ∨
    (bagS l false = false ∧ ∀ k, bagsD (k + 1) l = if rightB (bagR l) then (match bagsD k (bagT l) with | none => none | some (m, q) => some (bagR l :: m, q)) else none) := by
  by_cases h2 : l.length < 2
  · left
    have hn : numN 2 l = 0 := if_neg (by omega)
    have hs : numS 2 l false = true := if_neg (by omega)
    have hx : bagX l = false := by unfold bagX; rw [hn]; exact decide_eq_false (by omega)
    refine ⟨by unfold bagS; rw [hx]; exact hs, fun k => ?_⟩
    unfold bagsD
    rw [if_pos h2]
  · have hn : numN 2 l = numR l := by unfold numN; rw [if_pos (by omega), nv_two]
    have ht : numT 2 l = l.drop 2 := if_pos (by omega)
    have hs : numS 2 l false = false := if_pos (by omega)
    by_cases h8 : (l.drop 2).length < 8 * numR l
    · left
      have hx : bagX l = true := by unfold bagX; rw [hn, ht]; exact decide_eq_true (by omega)
      refine ⟨by unfold bagS; rw [hx]; rfl, fun k => ?_⟩
      unfold bagsD
      rw [if_neg h2, if_pos h8]
    · right
      have hx : bagX l = false := by unfold bagX; rw [hn, ht]; exact decide_eq_false (by omega)
      have hR : bagR l = rowsD (numR l) (l.drop 2) := by unfold bagR; rw [hx, hn, ht]; rfl
      have hT : bagT l = (l.drop 2).drop (8 * numR l) := by unfold bagT; rw [hx, hn, ht]; rfl
      refine ⟨by unfold bagS; rw [hx]; exact hs, fun k => ?_⟩
      rw [hR, hT]
      conv => lhs; unfold bagsD
      rw [if_neg h2, if_neg h8]
      cases rightB (rowsD (numR l) (l.drop 2))
      · rfl
      · cases bagsD k ((l.drop 2).drop (8 * numR l)) <;> rfl
theorem st_is : ∀ (k : Nat) (l : List UInt8), bagsD k l = if (stR k l false).2.2 = false ∧ (stR k l false).1.all rightB = true then some ((stR k l false).1, (stR k l false).2.1) else none
  | 0, l => rfl
  | k + 1, l => by
    show _ = if (stR k (bagT l) (bagS l false)).2.2 = false ∧ (bagR l :: (stR k (bagT l) (bagS l false)).1).all rightB = true then some (bagR l :: (stR k (bagT l) (bagS l false)).1, (stR k (bagT l) (bagS l false)).2.1) else none
    rcases bag_is l with ⟨hs, h⟩ | ⟨hs, h⟩
    · rw [h k, hs, stR_true, if_neg (fun e => by cases e.1)]
    · rw [h k, hs, List.all_cons]
      have ih := st_is k (bagT l)
      cases hr : rightB (bagR l) with
      | false => rw [if_neg (by simp), if_neg (by simp)]
      | true =>
        rw [if_pos rfl, Bool.true_and, ih]
        by_cases hc : (stR k (bagT l) false).2.2 = false ∧ (stR k (bagT l) false).1.all rightB = true
        · rw [if_pos hc, if_pos hc]
        · rw [if_neg hc, if_neg hc]
/-- a decoded marking's rows are such as bytes tell -/
theorem bagR_ok (l : List UInt8) : okB (bagR l) = rightB (bagR l) := by
  unfold bagR
  by_cases h : bagX l = true
  · rw [if_pos h]; rfl
  · rw [if_neg h]
    unfold okB
    have h1 : (rowsD (numN 2 l) (numT 2 l)).length ≤ 65535 := by
      rw [rowsD_len]
      unfold numN
      split
      · have := nv_lt l 2; omega
      · omega
    have h2 : ((rowsD (numN 2 l) (numT 2 l)).all fun r => decide (r.1 ≤ 4294967295)) = true := by
      rw [List.all_eq_true]
      intro r hr
      exact decide_eq_true (rows_ok _ _ r hr)
    rw [decide_eq_true h1, h2, Bool.and_true, Bool.and_true]
theorem st_ok : ∀ (k : Nat) (l : List UInt8) (sh : Bool), (stR k l sh).1.all okB = (stR k l sh).1.all rightB
  | 0, l, sh => rfl
  | k + 1, l, sh => by
    show (bagR l :: (stR k (bagT l) (bagS l sh)).1).all okB = (bagR l :: (stR k (bagT l) (bagS l sh)).1).all rightB
    rw [List.all_cons, List.all_cons, bagR_ok, st_ok k]
/-- the whole reading -/
def wholeR (c : List UInt8) : Mk × List UInt8 × Bool := stR (numN 1 c) (numT 1 c) (numS 1 c false)
def goodR (c : List UInt8) : Bool := !(wholeR c).2.2 && decide ((wholeR c).2.1.length = 0) && decide ((wholeR c).1.length ≤ 64) && (wholeR c).1.all okB
theorem dec_is (c : List UInt8) : decF c = if goodR c = true then some (wholeR c).1 else none := by
  unfold decF
  by_cases h0 : c.length = 0
  · rw [if_pos h0, if_neg]
    have hs : numS 1 c false = true := if_neg (by omega)
    unfold goodR wholeR
    rw [hs, stR_true]; simp
  · have hn : numN 1 c = byteAt c 0 := by unfold numN; rw [if_pos (by omega), nv_one]
    have ht : numT 1 c = c.drop 1 := if_pos (by omega)
    have hs : numS 1 c false = false := if_pos (by omega)
    have hw : wholeR c = stR (byteAt c 0) (c.drop 1) false := by unfold wholeR; rw [hn, ht, hs]
    rw [if_neg h0]
    unfold goodR
    rw [hw, stR_len]
    by_cases h64 : 64 < byteAt c 0
    · rw [if_pos h64, if_neg]
      rw [decide_eq_false (show ¬ byteAt c 0 ≤ 64 by omega)]; simp
    · rw [if_neg h64, st_is, decide_eq_true (show byteAt c 0 ≤ 64 by omega), Bool.and_true, st_ok]
      generalize stR (byteAt c 0) (c.drop 1) false = r
      obtain ⟨m, q, s⟩ := r
      cases s <;> cases hm : m.all rightB <;> simp [hm]
end Go.Proofs.YtnjpblmplneojaaGreatDoor.Mark
/- The reader of package mark: a marking, and Decode, over the turned program. -/
namespace Go.Proofs.YtnjpblmplneojaaGreatDoor.Mark
open Go.RowKit Go.Proofs.YtnjpblmplneojaaGreatDoor.Frame Go.Proofs.YtnjpblmplneojaaGreatDoor.Bag
set_option linter.unusedVariables false
set_option linter.unusedSimpArgs false

theorem infoBag : (Tryz.prog.info? 36).map (fun i => (i.zero, i.size, i.bytes)) = some (some (.slice none 0 0), 1, 24) := by kernel_rfl
def bgV (g : Bg) : Value := .slice g.a g.rows.length g.c
def bgCell (gs : List Bg) (j : Nat) : Value := bgV (gs.getD j nilBg)
theorem bgCell_snoc (gs : List Bg) (g : Bg) (j : Nat) : bgCell (gs ++ [g]) j = if j = gs.length then bgV g else bgCell gs j := by
  unfold bgCell
  by_cases h : j = gs.length
  · rw [if_pos h, h]; simp [List.getD_eq_getElem?_getD]
  · rw [if_neg h]
    congr 1
    rw [List.getD_eq_getElem?_getD, List.getD_eq_getElem?_getD]
    rcases Nat.lt_or_ge j gs.length with hl | hl
    · rw [List.getElem?_append_left hl]
    · rw [List.getElem?_append_right hl, List.getElem?_eq_none hl, List.getElem?_eq_none (by simp; omega)]
/-- bags of the call's own -/
def OBags (p L : Nat) (w : World) (gs : List Bg) : Prop := ∀ g, g ∈ gs → OBag p L w g.a g.rows
theorem OBags.snoc {p L : Nat} {w : World} {gs : List Bg} {g : Bg} (h : OBags p L w gs) (hg : OBag p L w g.a g.rows) : OBags p L w (gs ++ [g]) := fun x hx => by
  rcases List.mem_append.1 hx with hx | hx
  · exact h x hx
  · rw [List.mem_singleton.1 hx]; exact hg
theorem mks_own {p L b n : Nat} {t : TypeId} {w : World} {gs : List Bg} (h : OBags p L w gs) (hr : w.rowIs b t n (bgCell gs)) (hn : gs.length = n) (hl : ∀ g, g ∈ gs → g.rows.length ≤ 140737488355328) : Mks w (some ⟨b, 0, none⟩) n gs := by
  refine ⟨hn, .inr ⟨b, 0, rfl, fun i hi => ⟨?_, ?_⟩⟩⟩
  · rw [Nat.zero_add, hr.cell (i := i) (by omega)]; rfl
  · have hm : gs.getD i nilBg ∈ gs := by rw [List.getD_eq_getElem?_getD, List.getElem?_eq_getElem hi]; exact List.getElem_mem _
    exact ⟨(h _ hm).bags, hl _ hm⟩
def MkDPost (B p : Nat) (l : List UInt8) (w : World) (e : Ending) (w' : World) : Prop :=
  ∃ a c gs, e = .returned (.slice a gs.length c) ∧ (∀ w2, Chg p w' w2 → Mks w2 a gs.length gs) ∧ mkOf gs = (wholeR l).1 ∧ Rd B w' p (wholeR l).2.1 (wholeR l).2.2 ∧ Chg p w w'

set_option maxRecDepth 100000 in
set_option maxHeartbeats 1000000 in
theorem marking_r (B p : Nat) (l : List UInt8) (w : World) (h : Rd B w p l false) (hl : l.length ≤ 80000) :
    Calls Tryz.prog 46 #[.pointer (some ⟨p, 0, none⟩)] w (MkDPost B p l w) := by
  have CN : Hid (Calls Tryz.prog 65 #[.pointer (some ⟨p, 0, none⟩), .int .i64 (1 : Nat)] w (NumPost B p 1 l false w)) := number_any B p 1 l false w h (by omega) (by omega)
  have hp := h.lt
  have BB : Hid (B ≤ p) := h.1
  clear h
  go_enter Tryz.func46, Tryz.ntmps46
  go_wp2_with fail
  refine CN.out.mono ?_
  rintro e w1 ⟨he, hR, hC⟩
  subst he
  have R1 : Hid (Rd B w1 p (numT 1 l) (numS 1 l false)) := hR
  have C1 : Hid (Chg p w w1) := hC
  have hp1 := hR.lt
  have hlt : (numT 1 l).length ≤ 80000 := Nat.le_trans (numT_le 1 l) hl
  have hnn : numN 1 l ≤ 255 := by
    unfold numN
    split
    · have := nv_lt l 1; omega
    · omega
  have EW : Hid (wholeR l = stR (numN 1 l) (numT 1 l) (numS 1 l false)) := rfl
  clear hC CN hR
  generalize numT 1 l = lt at *
  generalize numN 1 l = n at *
  generalize numS 1 l false = s1 at *
  have hmk := run_make_row' (P := Tryz.prog) 23 36 (.slice none 0 0) 24 Tryz.underlying23 infoBag rfl .i64 .i64 n (by omega) (by omega)
  have HR1 : Hid (w1.heap.size ≠ p) := (show w1.heap.size ≠ p by omega)
  have LTL : Hid (lt.length ≤ 80000) := hlt
  have hpg : p < w1.heap.size := hp1
  go_wp2
  clear hmk
  have M0 : Hid ((w1.alloc (.cells (madeCells #[.slice none 0 0] n) 36)).rowIs w1.heap.size 36 n (bgCell [])) := World.rowIs_made w1 (.slice none 0 0) n 36
  have D0 : Hid (Rd B (w1.alloc (.cells (madeCells #[.slice none 0 0] n) 36)) p (stR 0 lt s1).2.1 (stR 0 lt s1).2.2) := R1.out.below ((Below.refl _ _).alloc (Nat.le_refl _) _)
  have G0 : Hid (Chg p w (w1.alloc (.cells (madeCells #[.slice none 0 0] n) 36))) := C1.out.alloc _
  have NG : Hid (w.heap.size ≤ w1.heap.size) := C1.out.size
  have GB : Hid (B ≤ w1.heap.size) := (show B ≤ w1.heap.size by have := BB.out; omega)
  have GS : Hid (w1.heap.size < (w1.alloc (.cells (madeCells #[.slice none 0 0] n) 36)).heap.size) := (show w1.heap.size < (w1.alloc (.cells (madeCells #[.slice none 0 0] n) 36)).heap.size by simp)
  generalize w1.heap.size = g at *
  generalize w1.alloc (.cells (madeCells #[.slice none 0 0] n) 36) = w2 at *
  go_loopw [10] (fun i wr => ∃ (k : Nat) (gs : List Bg), k ≤ n ∧ i = .int .i64 k ∧ Hid (wr.rowIs g 36 n (bgCell gs) ∧ OBags p (g + 1) wr gs ∧ gs.length = k ∧ mkOf gs = (stR k lt s1).1) ∧ Hid (Rd B wr p (stR k lt s1).2.1 (stR k lt s1).2.2) ∧ Hid (Chg p w wr)) (fun i _ => n - (intOf i).toNat)
  case atStart => exact ⟨0, [], by omega, rfl, ⟨M0.out, (fun x hx => by cases hx), rfl, rfl⟩, D0.out, G0.out⟩
  case round =>
    obtain ⟨k, gs, hk, rfl, hM, hD, hG⟩ := hrel
    clear M0 D0 G0
    by_cases hkn : k < n
    · have hkn' : (k : Int) < n := by omega
      have sn := stR_snoc k lt s1
      have hle := stR_le k lt s1
      have CB : Hid (∀ W, Rd B W p (stR k lt s1).2.1 (stR k lt s1).2.2 → Calls Tryz.prog 66 #[.pointer (some ⟨p, 0, none⟩)] W (BagDPost B p (stR k lt s1).2.1 (stR k lt s1).2.2 W)) := fun W hW => bag_r B p _ _ W hW (Nat.le_trans hle hlt)
      have SN : Hid (stR (k + 1) lt s1 = ((stR k lt s1).1 ++ [bagR (stR k lt s1).2.1], bagT (stR k lt s1).2.1, bagS (stR k lt s1).2.1 (stR k lt s1).2.2)) := sn
      clear sn hle
      go_wp2_with fail
      refine (CB.out _ hD.out).mono ?_
      rintro e w3 ⟨a3, c3, he, hO, hD3, hC3⟩
      subst he
      have GL : Hid (g < wr.heap.size) := hM.out.1.lt
      have O3 : Hid (OBag p (g + 1) w3 a3 (bagR (stR k lt s1).2.1)) := hO.mono GL.out
      have D3 : Hid (Rd B w3 p (bagT (stR k lt s1).2.1) (bagS (stR k lt s1).2.1 (stR k lt s1).2.2)) := hD3
      have G3 : Hid (Chg p w w3) := hG.out.trans hC3
      have M3 : Hid (w3.rowIs g 36 n (bgCell gs) ∧ OBags p (g + 1) w3 gs ∧ gs.length = k ∧ mkOf gs = (stR k lt s1).1) := ⟨rowIs_chg hM.out.1 hC3 HR1.out, (fun x hx => (hM.out.2.1 x hx).chg hC3), hM.out.2.2⟩
      clear hO hD3 hC3 hM hD hG
      have q0 := M3.out.1.cell hkn
      have z0 := M3.out.1.frozen k
      have hgl := M3.out.1.lt
      generalize bgCell gs k = y0 at q0
      go_wp2
      go_roundw
      case rel =>
        refine ⟨k + 1, gs ++ [⟨bagR (stR k lt s1).2.1, a3, c3⟩], by omega, by go_num, ⟨?_, ?_, ?_, ?_⟩, ?_, G3.out.setCell (.inr NG.out) _⟩
        · refine (M3.out.1.set k _).congr fun j _ => ?_
          rw [bgCell_snoc, M3.out.2.2.1]; rfl
        · exact OBags.snoc (fun x hx => (M3.out.2.1 x hx).set (Nat.lt_succ_self g) _) (O3.out.set (Nat.lt_succ_self g) _)
        · rw [List.length_append, M3.out.2.2.1]; rfl
        · rw [SN.out]
          unfold mkOf
          rw [List.map_append]
          have := M3.out.2.2.2
          unfold mkOf at this
          rw [this]; rfl
        · rw [SN.out]; exact D3.out.set HR1.out GB.out _
      case measure => simp [intOf]; omega
    · obtain rfl : k = n := by omega
      have LK : Hid (gs.length = k) := hM.out.2.2.1
      have HM : Hid (∀ w2, Chg p wr w2 → Mks w2 (some ⟨g, 0, none⟩) k gs) := fun w2 h2 => by
        refine mks_own (p := p) (L := g + 1) (fun x hx => (hM.out.2.1 x hx).chg h2) (rowIs_chg hM.out.1 h2 HR1.out) LK.out fun x hx => ?_
        have : x.rows ∈ (stR k lt s1).1 := by rw [← hM.out.2.2.2]; exact List.mem_map_of_mem hx
        have := stR_rows k lt s1 _ this
        have := LTL.out
        omega
      go_wp2
      go_ret
      refine ⟨some ⟨g, 0, none⟩, k, gs, by rw [LK.out]; rfl, by rw [LK.out]; exact HM.out, by rw [EW.out]; exact hM.out.2.2.2, by rw [EW.out]; exact hD.out, hG.out⟩
/-- bytes in memory -/
def Bts (w : World) (a : Option Addr) (c : Nat) (l : List UInt8) : Prop := Byt w.heap.size w a l ∧ l.length ≤ c ∧ c ≤ 9223372036854775807
theorem Bts.below {w w' : World} {a : Option Addr} {c : Nat} {l : List UInt8} (h : Bts w a c l) (hb : Below w.heap.size w w') : Bts w' a c l := by
  refine ⟨?_, h.2⟩
  rcases h.1.below hb with h | ⟨b, off, ha, hB, hc⟩
  · exact .inl h
  · exact .inr ⟨b, off, ha, Nat.lt_of_lt_of_le hB hb.size, hc⟩
def decE (c : List UInt8) : Int := if goodR c = true then 0 else 4
def decM (c : List UInt8) : Mk := if goodR c = true then (wholeR c).1 else []
def DecPost (l : List UInt8) (w : World) (e : Ending) (w' : World) : Prop :=
  ∃ a c gs, e = .returned (.tuple #[.slice a gs.length c, .int .i64 (decE l)]) ∧ (Mks w' a gs.length gs ∧ mkOf gs = decM l ∧ Sm gs) ∧ Below w.heap.size w w'
theorem dec_some (c : List UInt8) (m : Mk) : decF c = some m ↔ decE c = 0 ∧ decM c = m := by
  rw [dec_is]
  unfold decE decM
  by_cases h : goodR c = true
  · rw [if_pos h, if_pos h, if_pos h]; simp
  · rw [if_neg h, if_neg h]; simp
theorem whole_sm {c : List UInt8} (hl : c.length ≤ 80000) {gs : List Bg} (h : mkOf gs = (wholeR c).1) : Sm gs := by
  constructor
  · have h1 : gs.length = numN 1 c := by rw [← mkOf_len, h]; exact stR_len _ _ _
    rw [h1]
    unfold numN
    split
    · have := nv_lt c 1; omega
    · omega
  · intro x hx
    have : x.rows ∈ (wholeR c).1 := by rw [← h]; exact List.mem_map_of_mem hx
    have h1 := stR_rows _ _ _ _ this
    have h2 := numT_le 1 c
    omega

set_option maxRecDepth 100000 in
set_option maxHeartbeats 1000000 in
theorem decode_m (a : Option Addr) (c : Nat) (l : List UInt8) (w : World) (h : Bts w a c l) (hl : l.length ≤ 80000) :
    Calls Tryz.prog 18 #[.slice a l.length c] w (DecPost l w) := by
  have HB : Hid (Bts w a c l) := h
  have CM : Hid (∀ W, Rd w.heap.size W w.heap.size l false → Calls Tryz.prog 46 #[.pointer (some ⟨w.heap.size, 0, none⟩)] W (MkDPost w.heap.size w.heap.size l W)) := fun W hW => marking_r _ _ l W hW hl
  have R0 : Hid (Rd w.heap.size (w.alloc (.cells #[.slice a l.length c, .bool false] 66)) w.heap.size l false) := by
    refine ⟨Nat.le_refl _, a, c, ⟨by simp, by simp, fun o => by simp⟩, h.1.below ((Below.refl _ _).alloc (Nat.le_refl _) _), h.2⟩
  have EE : Hid (decE l = if goodR l = true then 0 else 4) := rfl
  have EM : Hid (decM l = if goodR l = true then (wholeR l).1 else []) := rfl
  have WS : Hid (∀ gs : List Bg, mkOf gs = (wholeR l).1 → Sm gs) := fun gs hg => whole_sm hl hg
  have EG : Hid (goodR l = (!(wholeR l).2.2 && decide ((wholeR l).2.1.length = 0) && decide ((wholeR l).1.length ≤ 64) && (wholeR l).1.all okB)) := rfl
  clear h
  go_enter Tryz.func18, Tryz.ntmps18
  go_wp2_with fail
  refine (CM.out _ R0.out).mono ?_
  rintro e w1 ⟨a1, c1, gs, he, hM, hgs, hR, hC⟩
  subst he
  have B1 : Hid (Below w.heap.size w w1) := ((Below.refl _ w).alloc (Nat.le_refl _) _).trans (hC.below (Nat.le_refl _) (by simp))
  have HM : Hid (Mks w1 a1 gs.length gs) := hM w1 (Chg.refl _ _)
  have HG : Hid (mkOf gs = (wholeR l).1) := hgs
  have hsm := WS.out gs hgs
  have hgl : gs.length ≤ 1000 := hsm.1
  have HS : Hid (Sm gs) := hsm
  have LG : Hid ((wholeR l).1.length = gs.length) := by rw [← hgs, mkOf_len]; exact (rfl : gs.length = gs.length)
  obtain ⟨_, a2, c2, ⟨k0, k1, _⟩, _, hlc2, hc2⟩ := hR
  have hq2 : (wholeR l).2.1.length ≤ 9223372036854775807 := by omega
  clear hM hgs hC hsm CM R0 WS hlc2
  have NO : Hid (goodR l = false → decE l = 4 ∧ decM l = []) := fun h => by rw [EE.out, EM.out, h]; exact ⟨rfl, rfl⟩
  have YES : Hid (goodR l = true → decE l = 0 ∧ decM l = (wholeR l).1) := fun h => by rw [EE.out, EM.out, h]; exact ⟨rfl, rfl⟩
  clear EE EM
  cases hsh : (wholeR l).2.2 with
  | true =>
    rw [hsh] at k1
    have E : Hid (decE l = 4 ∧ decM l = []) := NO.out (by rw [EG.out, hsh]; rfl)
    clear NO YES EG hsh
    go_wp2
    go_ret2
    exact ⟨none, 0, [], by rw [E.out.1]; rfl, ⟨mks_nil _ _, by rw [E.out.2]; rfl, by decide, fun g hg => by cases hg⟩, B1.out⟩
  | false =>
    rw [hsh] at k1
    by_cases hq : (wholeR l).2.1.length = 0
    case neg =>
      have E : Hid (decE l = 4 ∧ decM l = []) := NO.out (by rw [EG.out, decide_eq_false hq]; simp)
      clear NO YES EG hsh
      generalize (wholeR l).2.1.length = q at *
      have hq' : (0 : Int) < q := by omega
      clear hq
      go_wp2
      go_ret2
      exact ⟨none, 0, [], by rw [E.out.1]; rfl, ⟨mks_nil _ _, by rw [E.out.2]; rfl, by decide, fun g hg => by cases hg⟩, B1.out⟩
    rw [hq] at k0
    by_cases h64 : (64 : Int) < gs.length
    · have E : Hid (decE l = 4 ∧ decM l = []) := NO.out (by rw [EG.out, LG.out, decide_eq_false (show ¬ gs.length ≤ 64 by omega)]; simp)
      have d64 : decide ((64 : Int) < gs.length) = true := decide_eq_true h64
      clear NO YES EG hsh hq
      go_wp2
      refine bodyPost_ret (v := .tuple #[.slice none 0 0, .int .i64 4]) (by simp [results, Tryz.results18, go_sem]) rfl ?_
      exact ⟨none, 0, [], by rw [E.out.1]; rfl, ⟨mks_nil _ _, by rw [E.out.2]; rfl, by decide, fun g hg => by cases hg⟩, B1.out⟩
    have CU : Hid (Calls Tryz.prog 41 #[.slice a1 gs.length c1, .func (.func 42) #[] #[]] w1 (TwoPost (!(mkOf gs).all okB) w1)) := contains_unfit a1 gs.length c1 gs w1 HM.out HS.out
    rw [HG.out] at CU
    cases hok : (wholeR l).1.all okB with
    | false =>
      have E : Hid (decE l = 4 ∧ decM l = []) := NO.out (by rw [EG.out, hok, Bool.and_false])
      rw [hok] at CU
      clear NO YES EG hsh hq hok
      go_wp2_with fail
      refine CU.out.mono ?_
      rintro e w2 ⟨he, hb2⟩
      subst he
      go_wp2
      go_ret2
      exact ⟨none, 0, [], by rw [E.out.1]; rfl, ⟨mks_nil _ _, by rw [E.out.2]; rfl, by decide, fun g hg => by cases hg⟩, then_ B1.out hb2⟩
    | true =>
      have E : Hid (decE l = 0 ∧ decM l = (wholeR l).1) := YES.out (by rw [EG.out, hsh, hok, LG.out, decide_eq_true hq, decide_eq_true (show gs.length ≤ 64 by omega)]; rfl)
      rw [hok] at CU
      clear NO YES EG hsh hq hok
      go_wp2_with fail
      refine CU.out.mono ?_
      rintro e w2 ⟨he, hb2⟩
      subst he
      go_wp2
      go_ret2
      exact ⟨a1, c1, gs, by rw [E.out.1]; rfl, ⟨HM.out.below hb2, by rw [E.out.2]; exact HG.out, HS.out⟩, then_ B1.out hb2⟩
end Go.Proofs.YtnjpblmplneojaaGreatDoor.Mark
