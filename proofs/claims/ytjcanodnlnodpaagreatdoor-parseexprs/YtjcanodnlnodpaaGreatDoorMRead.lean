/- Contracts and plain mathematics, together: ParMem, ParRead. -/
import Derived.Test.YtjcanodnlnodpaaGreatDoorMLex
import Derived.Test.YtjcanodnlnodpaaGreatDoorMPlain
import Derived.Test.YtjcanodnlnodpaaGreatDoorMRun
/- How a reader, and tokens, lie in memory; what may change. -/
namespace Go.Proofs.YtjcanodnlnodpaaGreatDoor.Parse
open Go.RowKit Go.Proofs.YtjcanodnlnodpaaGreatDoor.Frame Go.Proofs.YtjcanodnlnodpaaGreatDoor.Token
set_option linter.unusedVariables false
set_option linter.unusedSimpArgs false

/-- nothing that was there has changed, but blocks of M -/
structure Ch (M : Nat → Prop) (w w' : World) : Prop where
  os : w'.os = w.os
  tape : w'.tape = w.tape
  output : w'.output = w.output
  size : w.heap.size ≤ w'.heap.size
  block : ∀ k, k < w.heap.size → ¬ M k → w'.heap[k]? = w.heap[k]?
theorem Ch.refl (M : Nat → Prop) (w : World) : Ch M w w := ⟨rfl, rfl, rfl, Nat.le_refl _, fun _ _ _ => rfl⟩
theorem Ch.trans {M : Nat → Prop} {a b c : World} (h : Ch M a b) (k : Ch M b c) : Ch M a c :=
  ⟨k.os.trans h.os, k.tape.trans h.tape, k.output.trans h.output, Nat.le_trans h.size k.size, fun i hi hm => (k.block i (Nat.lt_of_lt_of_le hi h.size) hm).trans (h.block i hi hm)⟩
theorem Ch.mono {M N : Nat → Prop} {w w' : World} (h : Ch M w w') (k : ∀ b, b < w.heap.size → M b → N b) : Ch N w w' :=
  ⟨h.os, h.tape, h.output, h.size, fun i hi hm => h.block i hi fun x => hm (k i hi x)⟩
theorem Ch.of_below {M : Nat → Prop} {w w' : World} (h : Below w.heap.size w w') : Ch M w w' := ⟨h.os, h.tape, h.output, h.size, fun i hi _ => h.block i hi⟩
theorem Ch.below {M : Nat → Prop} {B : Nat} {w w' : World} (h : Ch M w w') (hB : B ≤ w.heap.size) (hM : ∀ b, M b → B ≤ b) : Below B w w' :=
  ⟨h.os, h.tape, h.output, h.size, fun i hi => h.block i (Nat.lt_of_lt_of_le hi hB) fun m => absurd (hM i m) (by omega)⟩
theorem Ch.grown {M : Nat → Prop} {w w' : World} {row : Option Nat} (h : w.grownBy w' row) (k : ∀ b, row = some b → M b) : Ch M w w' :=
  ⟨h.os, h.tape, h.output, h.size, fun i hi hm => h.block i hi fun e => hm (k i e.symm)⟩
theorem Ch.setCell {M : Nat → Prop} {w w' : World} (h : Ch M w w') {b o : Nat} (hb : M b ∨ w.heap.size ≤ b) (v : Value) : Ch M w (w'.setCell ⟨b, o, none⟩ v) := by
  refine ⟨h.os, h.tape, h.output, by simpa [World.setCell] using h.size, fun i hi hm => ?_⟩
  have : i ≠ b := fun e => by subst e; rcases hb with hb | hb; exact hm hb; omega
  rw [RowKit.Below.heap_setCell _ _ _ _ this]
  exact h.block i hi hm
theorem cell_of_block {w w' : World} {b : Nat} (h : w'.heap[b]? = w.heap[b]?) (o : Nat) : w'.cell? ⟨b, o, none⟩ = w.cell? ⟨b, o, none⟩ := by
  simp [World.cell?, h]
theorem frozen_of_block {w w' : World} {b : Nat} (h : w'.heap[b]? = w.heap[b]?) (o : Nat) : w'.frozen? ⟨b, o, none⟩ = w.frozen? ⟨b, o, none⟩ := by
  simp [World.frozen?, h]
theorem Ch.cell {M : Nat → Prop} {w w' : World} (h : Ch M w w') {b o : Nat} {v : Value} (hm : ¬ M b) (hv : w.cell? ⟨b, o, none⟩ = some v) : w'.cell? ⟨b, o, none⟩ = some v :=
  (cell_of_block (h.block b (World.block_lt_of_cell? w _ hv) hm) o).trans hv
theorem cell_set_ne {w : World} {b o b' o' : Nat} {v : Value} (h : ¬ (b = b' ∧ o = o')) : (w.setCell ⟨b, o, none⟩ v).cell? ⟨b', o', none⟩ = w.cell? ⟨b', o', none⟩ :=
  World.cell?_setCell_other _ _ _ _ (fun e => h ⟨congrArg Addr.block e, congrArg Addr.off e⟩)
theorem cell_set_eq {w : World} {b o : Nat} {v u : Value} (h : w.cell? ⟨b, o, none⟩ = some u) : (w.setCell ⟨b, o, none⟩ v).cell? ⟨b, o, none⟩ = some v := World.cell?_setCell_same _ _ _ h
/-- a reader's cells -/
def RAt (w : World) (p : Nat) (rs : Value) (en at_ er : Int) : Prop :=
  w.cell? ⟨p, 0, none⟩ = some rs ∧ w.cell? ⟨p, 1, none⟩ = some (.int .i64 en) ∧ w.cell? ⟨p, 2, none⟩ = some (.int .i64 at_) ∧ w.cell? ⟨p, 3, none⟩ = some (.int .i64 er) ∧ ∀ o, w.frozen? ⟨p, o, none⟩ = false
/-- nothing has changed but a reader's cells -/
def RCh (p : Nat) (w w' : World) : Prop := Ch (· = p) w w' ∧ ∀ o, (4 ≤ o → w'.cell? ⟨p, o, none⟩ = w.cell? ⟨p, o, none⟩) ∧ w'.frozen? ⟨p, o, none⟩ = w.frozen? ⟨p, o, none⟩
theorem RCh.refl (p : Nat) (w : World) : RCh p w w := ⟨Ch.refl _ _, fun _ => ⟨fun _ => rfl, rfl⟩⟩
theorem RCh.trans {p : Nat} {a b c : World} (h : RCh p a b) (k : RCh p b c) : RCh p a c := ⟨h.1.trans k.1, fun o => ⟨fun ho => ((k.2 o).1 ho).trans ((h.2 o).1 ho), (k.2 o).2.trans (h.2 o).2⟩⟩
theorem RCh.of_below {p : Nat} {w w' : World} (hp : p < w.heap.size) (h : Below w.heap.size w w') : RCh p w w' :=
  ⟨Ch.of_below h, fun o => ⟨fun _ => cell_of_block (h.block p hp) o, frozen_of_block (h.block p hp) o⟩⟩
theorem RCh.set {p o : Nat} {w w' : World} (h : RCh p w w') (ho : o < 4) (v : Value) : RCh p w (w'.setCell ⟨p, o, none⟩ v) :=
  ⟨h.1.setCell (.inl rfl) v, fun o' => ⟨fun h4 => (cell_set_ne (by omega)).trans ((h.2 o').1 h4), by simpa using (h.2 o').2⟩⟩
def TIAt (w : World) (b off : Nat) (l : List TI) : Prop :=
  ∀ i, i < l.length → w.cell? ⟨b, off + i * 3, none⟩ = some (.int .i64 (l.getD i ti0).kind) ∧ w.cell? ⟨b, off + i * 3 + 1, none⟩ = some (.string (str (l.getD i ti0).text)) ∧ w.cell? ⟨b, off + i * 3 + 2, none⟩ = some (.int .i64 (l.getD i ti0).at_)
/-- tokens that lie below B -/
def TIs (B : Nat) (w : World) (a : Option Addr) (l : List TI) : Prop := l = [] ∨ ∃ b off, a = some ⟨b, off, none⟩ ∧ b < B ∧ TIAt w b off l
theorem TIs.below {B : Nat} {w w' : World} {a : Option Addr} {l : List TI} (h : TIs B w a l) (hb : Below B w w') : TIs B w' a l := by
  rcases h with h0 | ⟨b, off, ha, hB, hc⟩
  · exact .inl h0
  · refine .inr ⟨b, off, ha, hB, fun i hi => ?_⟩
    obtain ⟨h0, h1, h2⟩ := hc i hi
    exact ⟨(hb.cell (p := ⟨b, off + i * 3, none⟩) hB).trans h0, (hb.cell (p := ⟨b, off + i * 3 + 1, none⟩) hB).trans h1, (hb.cell (p := ⟨b, off + i * 3 + 2, none⟩) hB).trans h2⟩
theorem TIs.tail {B : Nat} {w : World} {b off : Nat} {t : TI} {l : List TI} (h : TIs B w (some ⟨b, off, none⟩) (t :: l)) : TIs B w (some ⟨b, off + 3, none⟩) l := by
  rcases h with h0 | ⟨b', off', ha, hB, hc⟩
  · cases h0
  · simp only [Option.some.injEq, Addr.mk.injEq, and_true] at ha
    obtain ⟨rfl, rfl⟩ := ha
    refine .inr ⟨_, _, rfl, hB, fun i hi => ?_⟩
    have := hc (i + 1) (by simpa using hi)
    rw [show off + (i + 1) * 3 = off + 3 + i * 3 by omega] at this
    exact this
theorem TIs.head {B : Nat} {w : World} {a : Option Addr} {t : TI} {l : List TI} (h : TIs B w a (t :: l)) : ∃ b off, a = some ⟨b, off, none⟩ ∧ b < B ∧ w.cell? ⟨b, off, none⟩ = some (.int .i64 t.kind) ∧ w.cell? ⟨b, off + 1, none⟩ = some (.string (str t.text)) ∧ w.cell? ⟨b, off + 2, none⟩ = some (.int .i64 t.at_) := by
  rcases h with h0 | ⟨b, off, ha, hB, hc⟩
  · cases h0
  · obtain ⟨h0, h1, h2⟩ := hc 0 (by simp)
    exact ⟨b, off, ha, hB, h0, h1, h2⟩
/-- what is asked of tokens: texts of a size that can be -/
def Pk (r : List TI) : Prop := ∀ t, t ∈ r → t.text.length ≤ 140737488355328
theorem Pk.suf {r s : List TI} (h : Pk r) (hs : s <:+ r) : Pk s := fun t ht => h t (hs.subset ht)
/-- where a reader stands -/
def RS (B : Nat) (w : World) (p : Nat) (en : Int) (st : St) : Prop := (B ≤ p ∧ B ≤ w.heap.size ∧ Fx w ∧ (0 < B ∧ 3 < B)) ∧ match st with
  | .ok r => ∃ a c, RAt w p (.slice a r.length c) en 0 0 ∧ TIs B w a r ∧ r.length ≤ c ∧ c ≤ maxLen ∧ Pk r
  | .error e => RAt w p (.slice none 0 0) en e.1 e.2 ∧ e.2 ≠ 0
theorem RAt.keep {w w' : World} {p : Nat} {rs : Value} {en at_ er : Int} (h : RAt w p rs en at_ er) (hb : w'.heap[p]? = w.heap[p]?) : RAt w' p rs en at_ er := by
  obtain ⟨h0, h1, h2, h3, h4⟩ := h
  exact ⟨(cell_of_block hb _).trans h0, (cell_of_block hb _).trans h1, (cell_of_block hb _).trans h2, (cell_of_block hb _).trans h3, fun o => (frozen_of_block hb o).trans (h4 o)⟩
theorem RAt.lt {w : World} {p : Nat} {rs : Value} {en at_ er : Int} (h : RAt w p rs en at_ er) : p < w.heap.size := World.block_lt_of_cell? w _ h.1
theorem RS.lt {B : Nat} {w : World} {p : Nat} {en : Int} {st : St} (h : RS B w p en st) : p < w.heap.size := by
  obtain ⟨_, h⟩ := h
  cases st with
  | ok r => obtain ⟨a, c, h, _⟩ := h; exact h.lt
  | error e => exact h.1.lt
theorem fx_below {B : Nat} {w w' : World} (h : Fx w) (hg : 0 < B ∧ 3 < B) (hb : Below B w w') : Fx w' := by
  obtain ⟨h1, te, pe, h2⟩ := h
  exact ⟨fun i hi => (hb.cell (p := ⟨0, i, none⟩) hg.1).trans (h1 i hi), te, pe, (hb.cell (p := ⟨3, 0, none⟩) hg.2).trans h2⟩
/-- all below B is as it was, and the reader is -/
theorem RS.keep {B : Nat} {w w' : World} {p : Nat} {en : Int} {st : St} (h : RS B w p en st) (hb : Below B w w') (hp : w'.heap[p]? = w.heap[p]?) : RS B w' p en st := by
  obtain ⟨⟨h1, h2, h3, h4⟩, h⟩ := h
  refine ⟨⟨h1, Nat.le_trans h2 hb.size, fx_below h3 h4 hb, h4⟩, ?_⟩
  cases st with
  | ok r => obtain ⟨a, c, k1, k2, k3, k4⟩ := h; exact ⟨a, c, k1.keep hp, k2.below hb, k3, k4⟩
  | error e => exact ⟨h.1.keep hp, h.2⟩
theorem RS.below {B : Nat} {w w' : World} {p : Nat} {en : Int} {st : St} (h : RS B w p en st) (hb : Below w.heap.size w w') : RS B w' p en st :=
  h.keep (hb.mono h.1.2.1) (hb.block p h.lt)
theorem RS.ch {B : Nat} {w w' : World} {p : Nat} {en : Int} {st : St} {M : Nat → Prop} (h : RS B w p en st) (hc : Ch M w w') (hM : ∀ b, M b → B ≤ b) (hp : ¬ M p) : RS B w' p en st :=
  h.keep (hc.below h.1.2.1 hM) (hc.block p h.lt hp)
/-- other cells for the reader, all else as it was -/
theorem RS.set {B : Nat} {w w' : World} {p : Nat} {en : Int} {st : St} (h : RS B w p en st) (hc : RCh p w w') : B ≤ p ∧ B ≤ w'.heap.size ∧ Fx w' ∧ (0 < B ∧ 3 < B) := by
  obtain ⟨⟨h1, h2, h3, h4⟩, h⟩ := h
  have hb := hc.1.below h2 (fun b hb => by subst hb; exact h1)
  exact ⟨h1, Nat.le_trans h2 hb.size, fx_below h3 h4 hb, h4⟩
end Go.Proofs.YtjcanodnlnodpaaGreatDoor.Parse
/- The reader of package parse: contracts of the calls, over the turned program. -/
namespace Go.Proofs.YtjcanodnlnodpaaGreatDoor.Parse
open Go.RowKit Go.Proofs.YtjcanodnlnodpaaGreatDoor.Frame Go.Proofs.YtjcanodnlnodpaaGreatDoor.Token
set_option linter.unusedVariables false
set_option linter.unusedSimpArgs false

def tokV (t : TI) : Value := .agg #[.int .i64 t.kind, .string (str t.text), .int .i64 t.at_]
def ptr (p : Nat) : Value := .pointer (some ⟨p, 0, none⟩)

set_option maxHeartbeats 1000000 in
theorem here_any (B p : Nat) (en : Int) (st : St) (w : World) (h : RS B w p en st) :
    Calls Tryz.prog 142 #[ptr p] w fun e w' => e = .returned (tokV (hereF en st)) ∧ Below w.heap.size w w' := by
  have hp := h.lt
  unfold ptr
  cases st with
  | error x =>
    obtain ⟨_, ⟨h0, h1, h2, h3, hf⟩, _⟩ := h
    clear hf
    go_enter Tryz.func142, Tryz.ntmps142
    go_wp2
    refine bodyPost_ret (v := tokV ⟨0, [], en⟩) ?_ rfl ⟨rfl, ?_⟩
    · simp [results, Tryz.results142, go_sem]; rfl
    · repeat first | exact Below.refl _ _ | refine Below.setCell ?_ (by simp) _ | refine Below.alloc ?_ (by simp) _
  | ok r =>
    obtain ⟨⟨hBp, hBw, _⟩, a, c, ⟨h0, h1, h2, h3, hf⟩, hT, hrc, hcm, hP⟩ := h
    clear hf hP
    cases r with
    | nil =>
      clear hT
      go_enter Tryz.func142, Tryz.ntmps142
      go_wp2
      refine bodyPost_ret (v := tokV ⟨0, [], en⟩) ?_ rfl ⟨rfl, ?_⟩
      · simp [results, Tryz.results142, go_sem]; rfl
      · repeat first | exact Below.refl _ _ | refine Below.setCell ?_ (by simp) _ | refine Below.alloc ?_ (by simp) _
    | cons t r =>
      obtain ⟨b, off, rfl, hbB, c0, c1, c2⟩ := hT.head
      clear hT
      rw [List.length_cons] at h0 hrc
      have hne : ((((r.length + 1 : Nat) : Int)) == 0) = false := by simp; omega
      have hbw : b < w.heap.size := by omega
      go_enter Tryz.func142, Tryz.ntmps142
      go_wp2
      refine bodyPost_ret (v := tokV t) ?_ rfl ⟨rfl, ?_⟩
      · simp [results, Tryz.results142, go_sem]; rfl
      · repeat first | exact Below.refl _ _ | refine Below.setCell ?_ (by simp) _ | refine Below.alloc ?_ (by simp) _

/-- another rest for the reader -/
theorem set_rest {B p : Nat} {en : Int} {r0 r : List TI} {w : World} (h : RS B w p en (.ok r0)) {a : Option Addr} {c : Nat} (hT : TIs B w a r) (hc : r.length ≤ c) (hm : c ≤ maxLen) (hP : Pk r) :
    RS B (w.setCell ⟨p, 0, none⟩ (.slice a r.length c)) p en (.ok r) ∧ RCh p w (w.setCell ⟨p, 0, none⟩ (.slice a r.length c)) := by
  have hR := (RCh.refl p w).set (show 0 < 4 by decide) (.slice a r.length c)
  refine ⟨⟨h.set hR, a, c, ?_, ?_, hc, hm, hP⟩, hR⟩
  · obtain ⟨_, _, _, ⟨h0, h1, h2, h3, hf⟩, _⟩ := h
    exact ⟨cell_set_eq h0, (cell_set_ne (by omega)).trans h1, (cell_set_ne (by omega)).trans h2, (cell_set_ne (by omega)).trans h3, fun o => by simpa using hf o⟩
  · exact hT.below (hR.1.below h.1.2.1 (fun b hb => by subst hb; exact h.1.1))

set_option maxHeartbeats 1000000 in
theorem step_any (B p : Nat) (en : Int) (t : TI) (r : List TI) (w : World) (h : RS B w p en (.ok (t :: r))) :
    Calls Tryz.prog 152 #[ptr p] w fun e w' => e = .returned (.tuple #[]) ∧ RS B w' p en (.ok r) ∧ RCh p w w' := by
  have hp := h.lt
  have H : Hid (RS B w p en (.ok (t :: r))) := h
  unfold ptr
  obtain ⟨⟨hBp, hBw, _⟩, a, c, ⟨h0, h1, h2, h3, hf⟩, hT, hrc, hcm, hP⟩ := h
  obtain ⟨b, off, rfl, hbB, c0, c1, c2⟩ := hT.head
  have HT : Hid (TIs B w (some ⟨b, off + 3, none⟩) r) := hT.tail
  have HP : Hid (Pk r) := hP.suf (List.suffix_cons t r)
  have f0 := hf 0
  rw [List.length_cons] at h0 hrc
  obtain ⟨n, hn⟩ : ∃ n, n = r.length := ⟨_, rfl⟩
  have HN : Hid (n = r.length) := hn
  rw [← hn] at h0 hrc
  clear hT hf c0 c1 c2 hP hn
  go_enter Tryz.func152, Tryz.ntmps152
  go_wp2
  · go_end0
    refine ⟨rfl, ?_⟩
    have hn := HN.out
    subst hn
    refine set_rest H.out ?_ (by omega) (by omega) HP.out
    exact .inl (List.eq_nil_of_length_eq_zero (by omega))
  · go_end0
    refine ⟨rfl, ?_⟩
    have hn := HN.out
    subst hn
    exact set_rest H.out HT.out (by omega) (by omega) HP.out

set_option maxHeartbeats 1000000 in
theorem fail_any (B p : Nat) (en : Int) (st : St) (pl er : Int) (w : World) (h : RS B w p en st) (he : er ≠ 0) :
    Calls Tryz.prog 144 #[ptr p, .int .i64 pl, .int .i64 er] w fun e w' => e = .returned (.tuple #[]) ∧ RS B w' p en (failS st pl er) ∧ RCh p w w' := by
  have hp := h.lt
  have H : Hid (RS B w p en st) := h
  have HE : Hid (er ≠ 0) := he
  unfold ptr
  cases st with
  | error x =>
    obtain ⟨_, ⟨h0, h1, h2, h3, hf⟩, hx⟩ := h
    have HA : Hid (RAt w p (.slice none 0 0) en x.1 x.2) := ⟨h0, h1, h2, h3, hf⟩
    have HX : Hid (x.2 ≠ 0) := hx
    have f0 := hf 0
    have hx' : (x.2 == 0) = false := by simpa using hx
    clear hf hx he
    go_enter Tryz.func144, Tryz.ntmps144
    go_wp2
    go_end0
    have hR := (RCh.refl p w).set (show 0 < 4 by decide) (.slice none 0 0)
    obtain ⟨g0, g1, g2, g3, gf⟩ := HA.out
    exact ⟨rfl, ⟨H.out.set hR, ⟨cell_set_eq g0, (cell_set_ne (by omega)).trans g1, (cell_set_ne (by omega)).trans g2, (cell_set_ne (by omega)).trans g3, fun o => by simpa using gf o⟩, HX.out⟩, hR⟩
  | ok r =>
    obtain ⟨_, a, c, ⟨h0, h1, h2, h3, hf⟩, _⟩ := h
    have HA : Hid (RAt w p (.slice a r.length c) en 0 0) := ⟨h0, h1, h2, h3, hf⟩
    have f0 := hf 0
    have f2 := hf 2
    have f3 := hf 3
    clear hf he
    go_enter Tryz.func144, Tryz.ntmps144
    go_wp2
    go_end0
    have hR := (((RCh.refl p w).set (show 2 < 4 by decide) (.int .i64 pl)).set (show 3 < 4 by decide) (.int .i64 er)).set (show 0 < 4 by decide) (.slice none 0 0)
    obtain ⟨g0, g1, g2, g3, gf⟩ := HA.out
    refine ⟨rfl, ⟨H.out.set hR, ⟨?_, ?_, ?_, ?_, fun o => by simpa using gf o⟩, HE.out⟩, hR⟩
    · exact cell_set_eq ((cell_set_ne (by omega)).trans ((cell_set_ne (by omega)).trans g0))
    · exact (cell_set_ne (by omega)).trans ((cell_set_ne (by omega)).trans ((cell_set_ne (by omega)).trans g1))
    · exact (cell_set_ne (by omega)).trans ((cell_set_ne (by omega)).trans (cell_set_eq g2))
    · exact (cell_set_ne (by omega)).trans (cell_set_eq ((cell_set_ne (by omega)).trans g3))

theorem field_at (k : Int) (T : ByteArray) (pl : Int) (W : World) : Sem.run Tryz.prog (Instr.field 49 (.agg #[.int .i64 k, .string T, .int .i64 pl]) 2) W = .ok (.int .i64 pl) W := by kernel_rfl
theorem here_parts (en : Int) (st : St) : ∃ k T pl, tokV (hereF en st) = .agg #[.int .i64 k, .string T, .int .i64 pl] ∧ k = (hereF en st).kind ∧ T = str (hereF en st).text ∧ pl = (hereF en st).at_ := ⟨_, _, _, rfl, rfl, rfl, rfl⟩

set_option maxRecDepth 100000 in
set_option maxHeartbeats 1000000 in
theorem wrong_any (B p : Nat) (en : Int) (st : St) (w : World) (h : RS B w p en st) :
    Calls Tryz.prog 101 #[ptr p] w fun e w' => e = .returned (.tuple #[]) ∧ RS B w' p en (failS st (hereF en st).at_ 4) ∧ RCh p w w' := by
  have H : Hid (RS B w p en st) := h
  have hp := h.lt
  clear h
  obtain ⟨k, T, pl, hv, -, -, hpl⟩ := here_parts en st
  have HV : Hid (tokV (hereF en st) = .agg #[.int .i64 k, .string T, .int .i64 pl]) := hv
  rw [← hpl]
  clear hv hpl
  have hfd := field_at k T pl
  go_enter Tryz.func101, Tryz.ntmps101
  go_wp2_with (first
    | (go_at_call 142; refine (here_any B p en st _ H.out).mono ?_; rintro e w1 ⟨he, hb1⟩; rw [HV.out] at he; subst he)
    | (go_at_call 144; refine (fail_any B p en st pl 4 _ (H.out.below hb1) (by decide)).mono ?_; rintro e w2 ⟨he, h2⟩; subst he))
  go_end0
  exact ⟨rfl, h2.1, (RCh.of_below hp hb1).trans h2.2⟩

/-- what 'fixed' tells -/
def fixB (k : Int) (T : List UInt8) : Bool := decide (k = 3) || (decide (k = 1) && wordB T)
theorem took_fix {t : TI} {r : List TI} {s : List UInt8} (hs : s ≠ []) : tookB (.ok (t :: r)) s = (decide (t.text = s) && fixB t.kind t.text) := by
  show decide (peekL (ktI t :: r.map ktI) = s) = _
  have hp : peekL (ktI t :: r.map ktI) = if t.kind = 3 ∨ t.kind = 1 ∧ wordB t.text = true then t.text else [] := rfl
  rw [hp, Bool.eq_iff_iff]
  unfold fixB
  simp only [decide_eq_true_eq, Bool.and_eq_true, Bool.or_eq_true]
  constructor
  · intro h
    split at h
    · rename_i hk
      exact ⟨h, hk⟩
    · exact absurd h.symm hs
  · rintro ⟨ht, hk⟩
    rw [if_pos hk]; exact ht

set_option maxHeartbeats 1000000 in
theorem fixed_any (k : Int) (T : ByteArray) (pl : Int) (w : World) :
    Calls Tryz.prog 201 #[.agg #[.int .i64 k, .string T, .int .i64 pl]] w fun e w' => e = .returned (.bool (fixB k T.data.toList)) ∧ Below w.heap.size w w' := by
  have hB : ∀ o, Below w.heap.size w (w.alloc o) := fun o => (Below.refl _ _).alloc (Nat.le_refl _) _
  have HB : Hid (∀ o, Below w.heap.size w (w.alloc o)) := hB
  clear hB
  by_cases h3 : k = 3
  · subst h3
    go_enter Tryz.func201, Tryz.ntmps201
    go_wp2
    go_ret
    exact ⟨rfl, HB.out _⟩
  · have h3' : (k == 3) = false := by simpa using h3
    by_cases h1 : k = 1
    · subst h1
      cases hw : wordB T.data.toList with
      | true =>
        have HW : Hid (wordB T.data.toList = true) := hw
        have hE : fixB 1 T.data.toList = true := by unfold fixB; rw [hw]; rfl
        rw [hE]
        clear hw hE
        go_enter Tryz.func201, Tryz.ntmps201
        go_wp2_with (go_at_call 198; refine (Token.word_any _ _).mono ?_; rintro e w' ⟨he, hw⟩; subst he; have hw := hw.symm; subst hw; rw [HW.out])
        go_ret
        exact ⟨rfl, HB.out _⟩
      | false =>
        have HW : Hid (wordB T.data.toList = false) := hw
        have hE : fixB 1 T.data.toList = false := by unfold fixB; rw [hw]; rfl
        rw [hE]
        clear hw hE
        go_enter Tryz.func201, Tryz.ntmps201
        go_wp2_with (go_at_call 198; refine (Token.word_any _ _).mono ?_; rintro e w' ⟨he, hw⟩; subst he; have hw := hw.symm; subst hw; rw [HW.out])
        go_ret
        exact ⟨rfl, HB.out _⟩
    · have h1' : (k == 1) = false := by simpa using h1
      have hE : fixB k T.data.toList = false := by unfold fixB; rw [decide_eq_false h3, decide_eq_false h1]; rfl
      rw [hE]
      clear hE h3 h1
      go_enter Tryz.func201, Tryz.ntmps201
      go_wp2
      go_ret
      exact ⟨rfl, HB.out _⟩

set_option maxHeartbeats 2000000 in
theorem is_any (B p : Nat) (en : Int) (st : St) (s : ByteArray) (w : World) (h : RS B w p en st) (hs : s.data.toList ≠ []) :
    Calls Tryz.prog 189 #[ptr p, .string s] w fun e w' => e = .returned (.bool (tookB st s.data.toList)) ∧ Below w.heap.size w w' := by
  have H : Hid (RS B w p en st) := h
  have hp := h.lt
  obtain ⟨k, T, pl, hv, hk, hT, hpl⟩ := here_parts en st
  have HV : Hid (tokV (hereF en st) = .agg #[.int .i64 k, .string T, .int .i64 pl]) := hv
  have hB : tookB st s.data.toList = (decide (T = s) && fixB k T.data.toList) := by
    have no : k = 0 → (decide (T = s) && fixB k T.data.toList) = false := fun e => by rw [e]; simp [fixB]
    cases st with
    | error x => rw [no hk]; rfl
    | ok r =>
      cases r with
      | nil => rw [no hk]; exact decide_eq_false fun e => hs e.symm
      | cons t r =>
        have hk : k = t.kind := hk
        have hT : T = str t.text := hT
        rw [took_fix hs, hk, hT, str_data]
        congr 1
        rw [Bool.eq_iff_iff]
        simp only [decide_eq_true_eq]
        constructor
        · intro e; rw [e, str_list]
        · intro e; rw [← e, str_data]
  rw [hB]
  clear h hv hk hT hpl hB hs
  by_cases h2 : T = s
  · subst h2
    have hR : (decide (T = T) && fixB k T.data.toList) = fixB k T.data.toList := by simp
    rw [hR]
    obtain ⟨b, hb⟩ : ∃ b, b = fixB k T.data.toList := ⟨_, rfl⟩
    have HX : Hid (fixB k T.data.toList = b) := hb.symm
    rw [← hb]
    clear hb hR
    go_enter Tryz.func189, Tryz.ntmps189
    go_wp2_with (first
      | (go_at_call 142; refine (here_any B p en st _ H.out).mono ?_; rintro e w1 ⟨he, hb1⟩; rw [HV.out] at he; subst he; have hs1 := hb1.size)
      | (go_at_call 201; refine (fixed_any _ _ _ _).mono ?_; rintro e w2 ⟨he, hb2⟩; rw [HX.out] at he; subst he))
    go_ret
    exact ⟨rfl, then_ (hb1.alloc hs1 _) hb2⟩
  · have h2' : (T.toList == s.toList) = false := by
      rw [Go.ByteArray.toList_eq, Go.ByteArray.toList_eq]
      exact beq_eq_false_iff_ne.2 fun e => h2 (by rw [← str_list T, ← str_list s, e])
    have hR : (decide (T = s) && fixB k T.data.toList) = false := by simp [h2]
    rw [hR]
    clear h2 hR
    go_enter Tryz.func189, Tryz.ntmps189
    go_wp2_with (first
      | (go_at_call 142; refine (here_any B p en st _ H.out).mono ?_; rintro e w1 ⟨he, hb1⟩; rw [HV.out] at he; subst he; have hs1 := hb1.size))
    go_ret
    exact ⟨rfl, hb1.alloc hs1 _⟩

theorem took_yes {st : St} {s : List UInt8} (h : tookB st s = true) (hs : s ≠ []) : ∃ t r, st = .ok (t :: r) ∧ peekL ((t :: r).map ktI) = s ∧ tookS st s = .ok r := by
  cases st with
  | error x => cases h
  | ok r =>
    have h := of_decide_eq_true h
    cases r with
    | nil => exact absurd h.symm hs
    | cons t r => exact ⟨t, r, rfl, h, by show (if peekL ((t :: r).map ktI) = s then _ else _) = _; rw [if_pos h]; rfl⟩
theorem took_no {st : St} {s : List UInt8} (h : tookB st s = false) : tookS st s = st := by
  cases st with
  | error x => rfl
  | ok r => show (if peekL (r.map ktI) = s then _ else _) = _; rw [if_neg (of_decide_eq_false h)]

set_option maxHeartbeats 1000000 in
theorem took_any (B p : Nat) (en : Int) (st : St) (s : ByteArray) (w : World) (h : RS B w p en st) (hs : s.data.toList ≠ []) :
    Calls Tryz.prog 138 #[ptr p, .string s] w fun e w' => e = .returned (.bool (tookB st s.data.toList)) ∧ RS B w' p en (tookS st s.data.toList) ∧ RCh p w w' := by
  have H : Hid (RS B w p en st) := h
  have HS : Hid (s.data.toList ≠ []) := hs
  have hp := h.lt
  clear h hs
  cases hb : tookB st s.data.toList with
  | true =>
    obtain ⟨t, r, hst, -, hS⟩ := took_yes hb HS.out
    rw [hS]
    have HB : Hid (tookB st s.data.toList = true) := hb
    have H1 : Hid (st = .ok (t :: r)) := hst
    clear hb hst hS
    go_enter Tryz.func138, Tryz.ntmps138
    go_wp2_with (first
      | (go_at_call 189; refine (is_any B p en st s _ H.out HS.out).mono ?_; rintro e w1 ⟨he, hb1⟩; rw [HB.out] at he; subst he)
      | (go_at_call 152; refine (step_any B p en t r _ (by rw [← H1.out]; exact H.out.below hb1)).mono ?_; rintro e w2 ⟨he, h2⟩; subst he))
    go_ret
    exact ⟨rfl, h2.1, (RCh.of_below hp hb1).trans h2.2⟩
  | false =>
    rw [took_no hb]
    have HB : Hid (tookB st s.data.toList = false) := hb
    clear hb
    go_enter Tryz.func138, Tryz.ntmps138
    go_wp2_with (first
      | (go_at_call 189; refine (is_any B p en st s _ H.out HS.out).mono ?_; rintro e w1 ⟨he, hb1⟩; rw [HB.out] at he; subst he))
    go_ret
    exact ⟨rfl, H.out.below hb1, RCh.of_below hp hb1⟩

/-- this word, or this sign, was there, or was not -/
theorem must_res {en : Int} {st : St} {s : List UInt8} (hs : s ≠ []) : (tookB st s = true → Res en st (wantP s) (tookS st s) fun _ => True) ∧ (tookB st s = false → Res en st (wantP s) (failS st (hereF en st).at_ 4) fun _ => True) := by
  constructor
  · intro h
    obtain ⟨t, r, rfl, hp, hS⟩ := took_yes h hs
    rw [hS]
    refine Res.of_ok (v := ()) (z := r.map ktI) ?_ (List.suffix_cons t r) rfl trivial
    unfold wantP wantL
    rw [if_pos ⟨hp, hs⟩]; rfl
  · intro h
    cases st with
    | error x => exact Res.of_dead x
    | ok r =>
      have h := of_decide_eq_false h
      show Res en (.ok r) _ (.error ((hereF en (.ok r)).at_, 4)) _
      rw [here_plc]
      refine Res.of_err (z := r.map ktI) ?_ List.suffix_rfl rfl
      unfold wantP wantL
      rw [if_neg fun g => h g.1]; rfl

def MustPost (B p : Nat) (en : Int) (st : St) (s : List UInt8) (w w' : World) : Prop := ∃ st', RS B w' p en st' ∧ RCh p w w' ∧ Res en st (wantP s) st' fun _ => True
set_option maxHeartbeats 1000000 in
theorem must_any (B p : Nat) (en : Int) (st : St) (s : ByteArray) (w : World) (h : RS B w p en st) (hs : s.data.toList ≠ []) :
    Calls Tryz.prog 81 #[ptr p, .string s] w fun e w' => e = .returned (.tuple #[]) ∧ MustPost B p en st s.data.toList w w' := by
  have H : Hid (RS B w p en st) := h
  have HS : Hid (s.data.toList ≠ []) := hs
  have hp := h.lt
  have HM : Hid (_ ∧ _) := must_res (en := en) (st := st) hs
  clear h hs
  cases hb : tookB st s.data.toList with
  | true =>
    have HB : Hid (tookB st s.data.toList = true) := hb
    clear hb
    go_enter Tryz.func81, Tryz.ntmps81
    go_wp2_with (first
      | (go_at_call 138; refine (took_any B p en st s _ H.out HS.out).mono ?_; rintro e w1 ⟨he, h1⟩; rw [HB.out] at he; subst he))
    go_end0
    exact ⟨rfl, _, h1.1, h1.2, HM.out.1 HB.out⟩
  | false =>
    have HB : Hid (tookB st s.data.toList = false) := hb
    have HT : Hid (tookS st s.data.toList = st) := took_no hb
    clear hb
    go_enter Tryz.func81, Tryz.ntmps81
    go_wp2_with (first
      | (go_at_call 138; refine (took_any B p en st s _ H.out HS.out).mono ?_; rintro e w1 ⟨he, h1⟩; rw [HB.out] at he; subst he; rw [HT.out] at h1)
      | (go_at_call 101; refine (wrong_any B p en st _ h1.1).mono ?_; rintro e w2 ⟨he, h2⟩; subst he))
    go_end0
    exact ⟨rfl, _, h2.1, h1.2.trans h2.2, HM.out.2 HB.out⟩

set_option maxHeartbeats 1000000 in
theorem over_any (B p : Nat) (en : Int) (st : St) (w : World) (h : RS B w p en st) :
    Calls Tryz.prog 49 #[ptr p] w fun e w' => e = .returned (.tuple #[]) ∧ ∃ st', RS B w' p en st' ∧ RCh p w w' ∧ Res en st overP st' fun _ => True := by
  have H : Hid (RS B w p en st) := h
  have hp := h.lt
  cases st with
  | error x =>
    obtain ⟨_, ⟨h0, -, -, -, -⟩, -⟩ := h
    unfold ptr
    go_enter Tryz.func49, Tryz.ntmps49
    go_wp2
    go_end0
    exact ⟨rfl, _, H.out, RCh.refl _ _, Res.of_dead x⟩
  | ok r =>
    obtain ⟨-, a, c, ⟨h0, -, -, -, -⟩, -⟩ := h
    cases r with
    | nil =>
      unfold ptr
      go_enter Tryz.func49, Tryz.ntmps49
      go_wp2
      go_end0
      exact ⟨rfl, _, H.out, RCh.refl _ _, Res.of_ok (v := ()) (z := []) rfl List.suffix_rfl rfl trivial⟩
    | cons t r =>
      have hne : (0 : Int) < ((t :: r).length : Nat) := by simp
      have HR : Hid (Res en (.ok (t :: r)) overP (failS (.ok (t :: r)) (hereF en (.ok (t :: r))).at_ 4) fun _ => True) := Res.of_err (s := t :: r) (z := (t :: r).map ktI) rfl List.suffix_rfl rfl
      generalize hst : (Except.ok (t :: r) : St) = st at *
      generalize (t :: r).length = n at *
      clear hst
      unfold ptr
      go_enter Tryz.func49, Tryz.ntmps49
      go_wp2_with (first
        | (go_at_call 101; refine (wrong_any B p en st _ H.out).mono ?_; rintro e w2 ⟨he, h2⟩; subst he))
      go_end0
      exact ⟨rfl, _, h2.1, h2.2, HR.out⟩
end Go.Proofs.YtjcanodnlnodpaaGreatDoor.Parse
