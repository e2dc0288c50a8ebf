/- Contracts and plain mathematics, together: ParHeld, ParRowsOf, ParNK. -/
import Derived.Test.YtjcanodnlnodpaaGreatDoorMPlain
import Derived.Test.YtjcanodnlnodpaaGreatDoorMMembers
import Derived.Maps.AppendAt
import Derived.Test.YtjcanodnlnodpaaGreatDoorMInt
import Derived.Test.YtjcanodnlnodpaaGreatDoorMExMem
/- What stays as it is while other blocks are written; rows of parts; how nets lie in memory. -/
namespace Go.Proofs.YtjcanodnlnodpaaGreatDoor.Parse
open Go.RowKit Go.Maps Go.Proofs.YtjcanodnlnodpaaGreatDoor.Frame Go.Proofs.YtjcanodnlnodpaaGreatDoor.Token Go.Proofs.YtjcanodnlnodpaaGreatDoor.Expr Go.Proofs.YtjcanodnlnodpaaGreatDoor.Calc
set_option linter.unusedVariables false
set_option linter.unusedSimpArgs false

def Held (M : Nat → Prop) (w : World) (C : World → Prop) : Prop := ∀ w', Ch M w w' → C w'
theorem Held.now {M : Nat → Prop} {w : World} {C : World → Prop} (h : Held M w C) : C w := h w (Ch.refl _ _)
theorem Held.on {M : Nat → Prop} {w w' : World} {C : World → Prop} (h : Held M w C) (hc : Ch M w w') : Held M w' C := fun w2 h2 => h w2 (hc.trans h2)
theorem Held.mono {M : Nat → Prop} {w : World} {C D : World → Prop} (h : Held M w C) (k : ∀ w', C w' → D w') : Held M w D := fun w' h' => k w' (h w' h')
theorem Held.and {M : Nat → Prop} {w : World} {C D : World → Prop} (h : Held M w C) (k : Held M w D) : Held M w fun W => C W ∧ D W := fun w' h' => ⟨h w' h', k w' h'⟩
theorem Held.up {M N : Nat → Prop} {w w' : World} {C : World → Prop} (h : Held M w C) (hc : Ch M w w') (hN : ∀ b, N b → M b ∨ w.heap.size ≤ b) : Held N w' C := fun w2 h2 =>
  h w2 ⟨h2.os.trans hc.os, h2.tape.trans hc.tape, h2.output.trans hc.output, Nat.le_trans hc.size h2.size, fun k hk hm =>
    (h2.block k (Nat.lt_of_lt_of_le hk hc.size) fun n => by rcases hN k n with x | x; exact hm x; omega).trans (hc.block k hk hm)⟩
theorem Held.less {M N : Nat → Prop} {w : World} {C : World → Prop} (h : Held M w C) (hN : ∀ b, N b → M b) : Held N w C := h.up (Ch.refl _ _) fun b hb => .inl (hN b hb)

def Cs (w : World) (a : Option Addr) (vs : List Value) : Prop := vs = [] ∨ ∃ b off, a = some ⟨b, off, none⟩ ∧ ∀ (j : Nat) (v : Value), vs[j]? = some v → w.cell? ⟨b, off + j, none⟩ = some v
theorem Cs.ch {M : Nat → Prop} {w w' : World} {b off : Nat} {vs : List Value} (h : ∀ (j : Nat) (v : Value), vs[j]? = some v → w.cell? ⟨b, off + j, none⟩ = some v) (hc : Ch M w w') (hm : ¬ M b) : ∀ (j : Nat) (v : Value), vs[j]? = some v → w'.cell? ⟨b, off + j, none⟩ = some v :=
  fun j v hj => hc.cell hm (h j v hj)
theorem Cs.below {w w' : World} {a : Option Addr} {vs : List Value} (h : Cs w a vs) (hb : Below w.heap.size w w') : Cs w' a vs := by
  rcases h with h | ⟨b, off, ha, hc⟩
  · exact .inl h
  · exact .inr ⟨b, off, ha, fun j v hj => (hb.cell (p := ⟨b, off + j, none⟩) (World.block_lt_of_cell? w _ (hc j v hj))).trans (hc j v hj)⟩
theorem own_cs {w : World} {base : Nat} {e : TypeId} {size : Nat} {a : Option Addr} {n c : Nat} {xs : List Value} (h : w.ownsRow base e size (.slice a n c) n xs) : Cs w a xs := by
  rcases h.2 with ⟨h0, rfl⟩ | ⟨g, cap, cur, hv, hb, hg, hn, hm, hs, ht⟩
  · left
    have := h.1
    rw [Nat.zero_mul] at this
    exact List.eq_nil_of_length_eq_zero this
  · right
    injection hv with hv _ _
    refine ⟨g, 0, hv, fun j v hj => ?_⟩
    have := World.ownsRow.cells h (g := g) (by rw [hv]; rfl) j v hj
    rw [Go.WideShapes.add_plain] at this
    exact this
theorem own_held {M : Nat → Prop} {w : World} {base : Nat} {e : TypeId} {size : Nat} {a : Option Addr} {n c : Nat} {xs : List Value} (h : w.ownsRow base e size (.slice a n c) n xs) (hM : ∀ b, M b → b < base) : Held M w fun W => Cs W a xs := fun w' hc => by
  rcases own_cs h with h0 | ⟨b, off, ha, hcell⟩
  · exact .inl h0
  · subst ha
    have hb := (h.lt b rfl).1
    exact .inr ⟨b, off, rfl, Cs.ch hcell hc fun m => by have := hM b m; omega⟩

def Rws {α : Type} (R : α → List Value → Prop) (l : List α) (vs : List Value) : Prop := ∃ vss : List (List Value), vs = vss.flatten ∧ vss.length = l.length ∧ ∀ (i : Nat) (x : α) (us : List Value), l[i]? = some x → vss[i]? = some us → R x us
theorem Rws.nil {α : Type} {R : α → List Value → Prop} : Rws R [] [] := ⟨[], rfl, rfl, fun i x us h => by cases h⟩
theorem Rws.snoc {α : Type} {R : α → List Value → Prop} {l : List α} {vs us : List Value} {x : α} (h : Rws R l vs) (hx : R x us) : Rws R (l ++ [x]) (vs ++ us) := by
  obtain ⟨vss, rfl, hl, hr⟩ := h
  refine ⟨vss ++ [us], by simp, by simp [hl], fun i y ys h1 h2 => ?_⟩
  by_cases hi : i < l.length
  · rw [List.getElem?_append_left hi] at h1
    rw [List.getElem?_append_left (by omega)] at h2
    exact hr i y ys h1 h2
  · rw [List.getElem?_append_right (by omega)] at h1
    rw [List.getElem?_append_right (by omega)] at h2
    have h0 : i - l.length = 0 := by
      cases hk : i - l.length with
      | zero => rfl
      | succ k => rw [hk] at h1; simp at h1
    rw [h0] at h1
    rw [show i - vss.length = 0 by omega] at h2
    simp at h1 h2
    subst h1 h2
    exact hx
theorem Rws.mono {α : Type} {R S : α → List Value → Prop} {l : List α} {vs : List Value} (h : Rws R l vs) (k : ∀ x us, R x us → S x us) : Rws S l vs := by
  obtain ⟨vss, hv, hl, hr⟩ := h
  exact ⟨vss, hv, hl, fun i x us h1 h2 => k x us (hr i x us h1 h2)⟩
theorem flat_at {k : Nat} : ∀ (vss : List (List Value)), (∀ us, us ∈ vss → us.length = k) → ∀ (i : Nat) (us : List Value), vss[i]? = some us → ∀ j, j < k → vss.flatten[i * k + j]? = us[j]?
  | [], _, i, us, h, _, _ => by cases h
  | v :: vss, hk, i, us, h, j, hj => by
    have hv := hk v (by simp)
    cases i with
    | zero =>
      simp at h
      subst h
      rw [List.flatten_cons, Nat.zero_mul, Nat.zero_add, List.getElem?_append_left (by omega)]
    | succ i =>
      have h : vss[i]? = some us := by simpa using h
      rw [List.flatten_cons, List.getElem?_append_right (by rw [hv, Nat.add_mul]; omega), hv, show (i + 1) * k + j - k = i * k + j by rw [Nat.add_mul]; omega]
      exact flat_at vss (fun us hus => hk us (by simp [hus])) i us h j hj
theorem Rws.at {α : Type} {R : α → List Value → Prop} {l : List α} {vs : List Value} {k : Nat} (h : Rws R l vs) (hk : ∀ x us, R x us → us.length = k) {i : Nat} {x : α} (hi : l[i]? = some x) : ∃ us, R x us ∧ ∀ j, j < k → vs[i * k + j]? = us[j]? := by
  obtain ⟨vss, rfl, hl, hr⟩ := h
  have hil : i < vss.length := by rw [hl]; exact (List.getElem?_eq_some_iff.1 hi).1
  refine ⟨vss[i], hr i x _ hi (List.getElem?_eq_getElem hil), fun j hj => flat_at vss (fun us hus => ?_) i _ (List.getElem?_eq_getElem hil) j hj⟩
  obtain ⟨m, hm, rfl⟩ := List.getElem_of_mem hus
  exact hk _ _ (hr m l[m] _ (List.getElem?_eq_getElem (by omega)) (List.getElem?_eq_getElem hm))
theorem Rws.len {α : Type} {R : α → List Value → Prop} {l : List α} {vs : List Value} {k : Nat} (h : Rws R l vs) (hk : ∀ x us, R x us → us.length = k) : vs.length = l.length * k := by
  obtain ⟨vss, rfl, hl, hr⟩ := h
  rw [← hl]
  have : ∀ us, us ∈ vss → us.length = k := fun us hus => by
    obtain ⟨m, hm, rfl⟩ := List.getElem_of_mem hus
    exact hk _ _ (hr m l[m] _ (List.getElem?_eq_getElem (by omega)) (List.getElem?_eq_getElem hm))
  clear hr hl
  induction vss with
  | nil => simp
  | cons v vss ih => rw [List.flatten_cons, List.length_append, this v (by simp), ih fun us hus => this us (by simp [hus]), List.length_cons, Nat.add_mul]; omega

/- how the parts of a net lie -/
def prs (l : List Row) : List Value := (l.map fun x => [Value.int .i64 x.1, Value.int .i64 x.2]).flatten
def ints (l : List Int) : List Value := l.map fun z => Value.int .i64 z
def ColR (w : World) (c : PCol) (us : List Value) : Prop := ∃ a cap, us = [.string (str c.name), .int .i64 c.kind, .int .i64 c.lo, .int .i64 c.hi, .slice a c.names.length cap, .int .i64 c.first, .int .i64 c.thn] ∧ Cs w a (strs c.names) ∧ c.names.length ≤ 1000001
def PlaceR (w : World) (p : PPlace) (us : List Value) : Prop := ∃ a cap, us = [.string (str p.name), .int .i64 p.colour, .slice a p.first.length cap] ∧ Cs w a (prs p.first) ∧ p.first.length ≤ 1000001 ∧ ∀ x, x ∈ p.first → In64 x.1 ∧ In64 x.2
def VarR (x : List UInt8 × Int) (us : List Value) : Prop := us = [.string (str x.1), .int .i64 x.2]
def ArcR (w : World) (x : Int × Ex) (us : List Value) : Prop := ∃ a cap, us = [.int .i64 x.1, .int .i64 x.2.kind, .int .i64 x.2.num, .slice a x.2.kids.length cap] ∧ X w x.2 a
def RwsAt {α : Type} (R : World → α → List Value → Prop) (w : World) (a : Option Addr) (l : List α) : Prop := ∃ vs, Cs w a vs ∧ Rws (R w) l vs
def TaskR (w : World) (t : PTask) (us : List Value) : Prop := ∃ av cv ag cg ai ci ao co ac cc, us = [.string (str t.name), .slice av t.vars.length cv, .int .i64 t.guard.kind, .int .i64 t.guard.num, .slice ag t.guard.kids.length cg, .int .i64 t.join, .int .i64 t.split, .slice ai t.ins.length ci, .slice ao t.outs.length co, .slice ac t.cancel.length cc, .int .i64 t.after, .int .i64 t.m0, .int .i64 t.m1, .int .i64 t.m2] ∧
    RwsAt (fun _ => VarR) w av t.vars ∧ X w t.guard ag ∧ RwsAt ArcR w ai t.ins ∧ RwsAt ArcR w ao t.outs ∧ Cs w ac (ints t.cancel) ∧ (t.vars.length ≤ 1000001 ∧ t.ins.length ≤ 1000001 ∧ t.outs.length ≤ 1000001 ∧ t.cancel.length ≤ 1000001) ∧ ∀ z, z ∈ t.cancel → In64 z
def NetR (w : World) (n : PNet) (v : Value) : Prop := ∃ ac cc ap cp at_ ct, v = .agg #[.slice ac n.colours.length cc, .slice ap n.places.length cp, .slice at_ n.tasks.length ct, .int .i64 n.frm, .int .i64 n.too] ∧ RwsAt ColR w ac n.colours ∧ RwsAt PlaceR w ap n.places ∧ RwsAt TaskR w at_ n.tasks ∧ (n.colours.length ≤ 1000001 ∧ n.places.length ≤ 1000001 ∧ n.tasks.length ≤ 1000001)
end Go.Proofs.YtjcanodnlnodpaaGreatDoor.Parse
/- Names that are handed in, in a map: a contract of the call, over the turned program. -/
namespace Go.Proofs.YtjcanodnlnodpaaGreatDoor.Parse
open Go.RowKit Go.Maps Go.Proofs.YtjcanodnlnodpaaGreatDoor.Frame Go.Proofs.YtjcanodnlnodpaaGreatDoor.Token
set_option linter.unusedVariables false
set_option linter.unusedSimpArgs false

theorem makeMap_run (W : World) : Sem.run Tryz.prog (Instr.makeMap 75 none) W = .ok (.map (some W.heap.size)) (W.alloc (.map #[] 0)) := by
  simp [Instr.makeMap, run_underlying Tryz.underlying75, go_sem]
theorem nameAt_some_ (names : List (List UInt8)) (s : List UInt8) : (nameAt names s).isSome = decide (s ∈ names) := by
  unfold nameAt
  by_cases h : s ∈ names
  · rw [if_pos h, decide_eq_true h]; rfl
  · rw [if_neg h, decide_eq_false h]; rfl
def NMs (B : Nat) (w : World) (a : Option Addr) (l : List (List UInt8)) : Prop := (l = [] ∨ ∃ b off, a = some ⟨b, off, none⟩ ∧ b < B ∧ ∀ i, i < l.length → w.cell? ⟨b, off + i, none⟩ = some (.string (str (l.getD i [])))) ∧ ∀ s, s ∈ l → s.length ≤ maxLen
theorem nameAt_snoc (l : List (List UInt8)) (s t : List UInt8) : nameAt (l ++ [s]) t = if t ∈ l then nameAt l t else if t = s then some l.length else none := by
  unfold nameAt
  by_cases h : t ∈ l
  · rw [if_pos h, if_pos (by simp [h]), if_pos h, List.idxOf_append, if_pos h]
  · rw [if_neg h]
    by_cases e : t = s
    · subst e
      rw [if_pos rfl, if_pos (by simp), List.idxOf_append, if_neg h]
      simp
    · rw [if_neg e, if_neg (by simp [h, e])]
theorem take_snoc' {l : List (List UInt8)} {k : Nat} (h : k < l.length) : l.take (k + 1) = l.take k ++ [l.getD k []] := Expr.take_snoc [] h
theorem nameAt_take {l : List (List UInt8)} {k : Nat} (h : k < l.length) (t : List UInt8) : nameAt (l.take (k + 1)) t = if t ∈ l.take k then nameAt (l.take k) t else if t = l.getD k [] then some k else none := by
  rw [take_snoc' h, nameAt_snoc, List.length_take, Nat.min_eq_left (by omega)]

set_option maxRecDepth 100000 in
set_option maxHeartbeats 4000000 in
theorem rowsOf_any (B : Nat) (a : Option Addr) (c : Nat) (l : List (List UInt8)) (w : World) (h : NMs B w a l) (hB : B ≤ w.heap.size) (hl : l.length ≤ 1000000) :
    Calls Tryz.prog 47 #[.slice a l.length c] w fun e w' => e = .returned (.map (some w.heap.size)) ∧ (∃ k n, n ≤ l.length ∧ SMp w' w.heap.size n k (nameAt l)) ∧ Below w.heap.size w w' := by
  have HN : Hid (NMs B w a l) := h
  obtain ⟨len, hlen⟩ : ∃ len, len = l.length := ⟨_, rfl⟩
  have HL : Hid (len = l.length) := hlen
  rw [← hlen] at hl ⊢
  clear h hlen
  go_enter Tryz.func47, Tryz.ntmps47
  have hmk : ∀ W : World, Sem.run Tryz.prog (Instr.makeMap 75 none) W = .ok (.map (some W.heap.size)) (W.alloc (.map #[] 0)) := fun W => makeMap_run W
  go_wp2_with fail
  go_loopw [11] (fun i wr => ∃ k : Nat, k ≤ len ∧ i = .int .i64 k ∧ Hid ((∃ q n, n ≤ k ∧ SMp wr w.heap.size n q (nameAt (l.take k))) ∧ Below w.heap.size w wr)) (fun i _ => len - (intOf i).toNat)
  case atStart => exact ⟨0, by omega, rfl, ⟨0, 0, Nat.le_refl _, SMp.made w⟩, (Below.refl _ _).alloc (Nat.le_refl _) _⟩
  case round =>
    obtain ⟨k, hk, rfl, hI⟩ := hrel
    by_cases hlt : k < len
    · have hlt' : (k : Int) < len := by omega
      have hkl : k < l.length := by rw [← HL.out]; exact hlt
      obtain ⟨⟨q, n, hn, hM⟩, hBw⟩ := hI.out
      rcases HN.out.1 with h0 | ⟨b, off, ha, hbB, hc⟩
      · rw [h0] at hkl; cases hkl
      subst ha
      have c0 := (hBw.cell (p := ⟨b, off + k, none⟩) (by show b < _; omega)).trans (hc k hkl)
      have hbw : b < wr.heap.size := by have := hBw.size; omega
      have hmem : l.getD k [] ∈ l := by rw [List.getD_eq_getElem?_getD, List.getElem?_eq_getElem hkl]; exact List.getElem_mem _
      have hss : (str (l.getD k [])).size ≤ maxLen := by rw [str_size]; exact HN.out.2 _ hmem
      have HD : Hid ((str (l.getD k [])).data.toList = l.getD k []) := str_data _
      have HT : Hid (∀ t, nameAt (l.take (k + 1)) t = if t ∈ l.take k then nameAt (l.take k) t else if t = l.getD k [] then some k else none) := nameAt_take hkl
      have HM : Hid (SMp wr w.heap.size n q (nameAt (l.take k)) ∧ Below w.heap.size w wr) := ⟨hM, hBw⟩
      generalize l.getD k [] = s at *
      clear hc hI hM hBw hmem hkl
      by_cases hin : s ∈ l.take k
      · have HI : Hid ((nameAt (l.take k) s).isSome = true) := by show _ = _; rw [nameAt_some_]; exact decide_eq_true hin
        have HE : Hid (nameAt (l.take (k + 1)) = nameAt (l.take k)) := by
          funext t
          rw [HT.out t]
          split
          · rfl
          · rename_i ht
            rw [if_neg (fun e => ht (by rw [e]; exact hin))]
            unfold nameAt; rw [if_neg ht]
        clear HT hin
        go_wp2_with (first
          | (at_lookup; refine wp_look _ rfl _ _ rfl w.heap.size n q (nameAt (l.take k)) rfl HM.out.1 _ rfl hss ?_; rw [HD.out, HI.out])
          | go_in)
        go_roundw
        case rel => exact ⟨k + 1, by omega, by go_num, ⟨q, n, by omega, by rw [HE.out]; exact HM.out.1⟩, HM.out.2⟩
        case measure => simp [intOf]; omega
      · have HI : Hid ((nameAt (l.take k) s).isSome = false) := by show _ = _; rw [nameAt_some_]; exact decide_eq_false hin
        have HE : Hid (nameAt (l.take (k + 1)) = addF (nameAt (l.take k)) s k) := by
          funext t
          rw [HT.out t]
          unfold addF
          by_cases e : t = s
          · subst e; rw [if_neg hin, if_pos rfl, if_pos rfl]
          · rw [if_neg e, if_neg e]
            split
            · rfl
            · rename_i ht; unfold nameAt; rw [if_neg ht]
        clear HT hin
        go_wp2_with (first
          | (at_lookup; refine wp_look _ rfl _ _ rfl w.heap.size n q (nameAt (l.take k)) rfl HM.out.1 _ rfl hss ?_; rw [HD.out, HI.out])
          | (at_mapUpdate; refine wp_put _ rfl _ _ _ rfl w.heap.size n q (nameAt (l.take k)) rfl HM.out.1 (by omega) (str s) k rfl hss rfl (by omega) ?_; intro w1 h1 hg1)
          | go_in)
        rw [HD.out] at h1
        have HN2 : Hid (SMp w1 w.heap.size (n + 1) (addK (nameAt (l.take k)) s q) (addF (nameAt (l.take k)) s k) ∧ Below w.heap.size w w1) := ⟨h1, HM.out.2.grown hg1 HM.out.2.size (fun x hx => by cases hx; exact Nat.le_refl _)⟩
        clear h1 hg1
        go_roundw
        case rel => exact ⟨k + 1, by omega, by go_num, ⟨_, n + 1, by omega, by rw [HE.out]; exact HN2.out.1⟩, HN2.out.2⟩
        case measure => simp [intOf]; omega
    · have hlt' : ¬ (k : Int) < len := by omega
      have HE : Hid (l.take k = l) := List.take_of_length_le (by rw [← HL.out]; omega)
      have HI2 : Hid ((∃ q n, n ≤ len ∧ SMp wr w.heap.size n q (nameAt l)) ∧ Below w.heap.size w wr) := by
        obtain ⟨⟨q, n, hn, hM⟩, hb⟩ := hI.out
        rw [HE.out] at hM
        exact ⟨⟨q, n, by omega, hM⟩, hb⟩
      clear hI
      go_wp2_with fail
      go_ret
      obtain ⟨⟨q, n, hn, hM⟩, hb⟩ := HI2.out
      exact ⟨rfl, ⟨q, n, hn, hM⟩, hb⟩
end Go.Proofs.YtjcanodnlnodpaaGreatDoor.Parse
/- What a net's reader keeps of what it has read. -/
namespace Go.Proofs.YtjcanodnlnodpaaGreatDoor.Parse
open Go.RowKit Go.Maps Go.Proofs.YtjcanodnlnodpaaGreatDoor.Frame Go.Proofs.YtjcanodnlnodpaaGreatDoor.Token Go.Proofs.YtjcanodnlnodpaaGreatDoor.Expr Go.Proofs.YtjcanodnlnodpaaGreatDoor.Calc
set_option linter.unusedVariables false
set_option linter.unusedSimpArgs false

theorem own_ch2 {M : Nat → Prop} {w w' : World} {base : Nat} {e : TypeId} {size : Nat} {v : Value} {n : Nat} {xs : List Value} (h : w.ownsRow base e size v n xs) (hc : Ch M w w') (hm : ∀ k, v.ownBlock = some k → ¬ M k) : w'.ownsRow base e size v n xs := by
  refine ⟨h.1, ?_⟩
  rcases h.2 with h0 | ⟨g, cap, cur, hv, hb, hg, hn, hcm, hs, ht⟩
  · exact .inl h0
  · refine .inr ⟨g, cap, cur, hv, hb, ?_, hn, hcm, hs, ht⟩
    rw [hc.block g (by have := h.lt g (by rw [hv]; rfl); exact this.2) (hm g (by rw [hv]; rfl))]
    exact hg
theorem own_block (a : Option Addr) (n c : Nat) : (Value.slice a n c).ownBlock = a.map Addr.block := by cases a <;> rfl
def Apt (l : List (Option Nat)) : Prop := ∀ (i j x : Nat), l[i]? = some (some x) → l[j]? = some (some x) → i = j
theorem Apt.ne {l : List (Option Nat)} (h : Apt l) {i j x y : Nat} (hi : l[i]? = some (some x)) (hj : l[j]? = some (some y)) (hij : i ≠ j) : x ≠ y := fun e => hij (h i j x hi (by rw [hj, e]))
theorem Apt.set {l : List (Option Nat)} (h : Apt l) (i q : Nat) (hq : some q ∉ l) : Apt (l.set i (some q)) := by
  intro a b x ha hb
  rw [List.getElem?_set] at ha hb
  have hmem : ∀ c : Nat, l[c]? = some (some q) → False := fun c hc => hq (List.mem_of_getElem? hc)
  split at ha
  · rename_i e1
    split at ha
    · simp at ha
      subst ha
      split at hb
      · rename_i e2; omega
      · exact absurd hb (hmem b)
    · cases ha
  · split at hb
    · split at hb
      · simp at hb
        subst hb
        exact absurd ha (hmem a)
      · cases hb
    · exact h a b x ha hb
theorem set_self {l : List (Option Nat)} {i : Nat} {v : Option Nat} (h : l[i]? = some v) : l.set i v = l := by
  apply List.ext_getElem?
  intro j
  rw [List.getElem?_set]
  split
  · rename_i e
    subst e
    split
    · exact h.symm
    · rename_i hl; rw [List.getElem?_eq_none (by omega)] at h; cases h
  · rfl
theorem Apt.turn {l : List (Option Nat)} (h : Apt l) {i : Nat} {v v' : Option Nat} {q : Nat} (hi : l[i]? = some v) (hv : v' = v ∨ v' = some q) (hq : some q ∉ l) : Apt (l.set i v') := by
  rcases hv with rfl | rfl
  · rw [set_self hi]; exact h
  · exact h.set i q hq
theorem mem_turn {l : List (Option Nat)} {i : Nat} {v v' : Option Nat} {q b : Nat} (hi : l[i]? = some v) (hv : v' = v ∨ v' = some q) (hb : some b ∈ l.set i v') : some b ∈ l ∨ b = q := by
  rcases hv with rfl | rfl
  · rw [set_self hi] at hb; exact .inl hb
  · rcases List.mem_or_eq_of_mem_set hb with h | h
    · exact .inl h
    · exact .inr (Option.some.inj h)

structure NM where
  mc : Nat
  mp : Nat
  mt : Nat
  fc : List UInt8 → Option Nat
  fp : List UInt8 → Option Nat
  ft : List UInt8 → Option Nat
  kc : Nat
  kp : Nat
  kt : Nat
  ac : Option Addr
  cc : Nat
  ap : Option Addr
  cp : Nat
  at_ : Option Addr
  ct : Nat
  vc : List Value
  vp : List Value
  vt : List Value
def NM.bs (m : NM) (p : Nat) : List (Option Nat) := [some p, some m.mc, some m.mp, some m.mt, m.ac.map Addr.block, m.ap.map Addr.block, m.at_.map Addr.block]
def NM.M (m : NM) (p : Nat) (b : Nat) : Prop := some b ∈ m.bs p
def NM.H (m : NM) (p B b : Nat) : Prop := m.M p b ∨ b < B
def NC (w : World) (p : Nat) (n : PNet) (m : NM) : Prop :=
  (w.cell? ⟨p, 4, none⟩ = some (.slice m.ac n.colours.length m.cc) ∧ w.cell? ⟨p, 5, none⟩ = some (.slice m.ap n.places.length m.cp) ∧ w.cell? ⟨p, 6, none⟩ = some (.slice m.at_ n.tasks.length m.ct)) ∧
  (w.cell? ⟨p, 7, none⟩ = some (.int .i64 n.frm) ∧ w.cell? ⟨p, 8, none⟩ = some (.int .i64 n.too)) ∧
  (w.cell? ⟨p, 9, none⟩ = some (.map (some m.mc)) ∧ w.cell? ⟨p, 10, none⟩ = some (.map (some m.mp)) ∧ w.cell? ⟨p, 11, none⟩ = some (.map (some m.mt)))
def NR (B : Nat) (w : World) (n : PNet) (m : NM) : Prop :=
  w.ownsRow B 87 7 (.slice m.ac n.colours.length m.cc) n.colours.length m.vc ∧ w.ownsRow B 70 3 (.slice m.ap n.places.length m.cp) n.places.length m.vp ∧ w.ownsRow B 63 14 (.slice m.at_ n.tasks.length m.ct) n.tasks.length m.vt
def NMp (w : World) (n : PNet) (m : NM) : Prop := SMp w m.mc n.colours.length m.kc m.fc ∧ SMp w m.mp n.places.length m.kp m.fp ∧ SMp w m.mt n.tasks.length m.kt m.ft
def NH (n : PNet) (m : NM) (W : World) : Prop := Rws (ColR W) n.colours m.vc ∧ Rws (PlaceR W) n.places m.vp ∧ Rws (TaskR W) n.tasks m.vt
def NK (B : Nat) (w : World) (p : Nat) (n : PNet) (m : NM) : Prop :=
  NC w p n m ∧ NR B w n m ∧ NMp w n m ∧ (Apt (m.bs p) ∧ ∀ b, m.M p b → B ≤ b ∧ b < w.heap.size) ∧ Held (m.H p B) w (NH n m)
def NA (n : PNet) (m : NM) : Prop := (m.fc = nameAt (n.colours.map PCol.name) ∧ m.kc = n.colours.length) ∧ (m.fp = nameAt (n.places.map PPlace.name) ∧ m.kp = n.places.length) ∧ (m.ft = nameAt (n.tasks.map PTask.name) ∧ m.kt = n.tasks.length)
theorem NK.p_in {B : Nat} {w : World} {p : Nat} {n : PNet} {m : NM} (h : NK B w p n m) : m.M p p := by unfold NM.M NM.bs; simp
theorem NK.ne {B : Nat} {w : World} {p : Nat} {n : PNet} {m : NM} (h : NK B w p n m) : m.mc ≠ p ∧ m.mp ≠ p ∧ m.mt ≠ p ∧ m.mc ≠ m.mp ∧ m.mc ≠ m.mt ∧ m.mp ≠ m.mt := by
  have hA := h.2.2.2.1.1
  refine ⟨?_, ?_, ?_, ?_, ?_, ?_⟩
  · exact hA.ne (i := 1) (j := 0) rfl rfl (by decide)
  · exact hA.ne (i := 2) (j := 0) rfl rfl (by decide)
  · exact hA.ne (i := 3) (j := 0) rfl rfl (by decide)
  · exact hA.ne (i := 1) (j := 2) rfl rfl (by decide)
  · exact hA.ne (i := 1) (j := 3) rfl rfl (by decide)
  · exact hA.ne (i := 2) (j := 3) rfl rfl (by decide)
theorem NK.on {B : Nat} {w w' : World} {p : Nat} {n : PNet} {m : NM} (h : NK B w p n m) (hr : RCh p w w') : NK B w' p n m := by
  have hne := h.ne
  obtain ⟨⟨⟨c4, c5, c6⟩, ⟨c7, c8⟩, ⟨c9, c10, c11⟩⟩, ⟨r1, r2, r3⟩, ⟨s1, s2, s3⟩, ⟨hA, hB⟩, hH⟩ := h
  have cell : ∀ o v, 4 ≤ o → w.cell? ⟨p, o, none⟩ = some v → w'.cell? ⟨p, o, none⟩ = some v := fun o v ho hv => ((hr.2 o).1 ho).trans hv
  have row : ∀ (i : Nat) (a : Option Addr), i ≠ 0 → (m.bs p)[i]? = some (a.map Addr.block) → ∀ (l c k : Nat), (Value.slice a l c).ownBlock = some k → ¬ k = p := fun i a hi ha l c k hk e => by
    rw [own_block] at hk
    rw [hk] at ha
    exact hA.ne ha (j := 0) rfl hi e
  refine ⟨⟨⟨cell 4 _ (by decide) c4, cell 5 _ (by decide) c5, cell 6 _ (by decide) c6⟩, ⟨cell 7 _ (by decide) c7, cell 8 _ (by decide) c8⟩, ⟨cell 9 _ (by decide) c9, cell 10 _ (by decide) c10, cell 11 _ (by decide) c11⟩⟩,
    ⟨own_ch2 r1 hr.1 (row 4 _ (by decide) rfl _ _), own_ch2 r2 hr.1 (row 5 _ (by decide) rfl _ _), own_ch2 r3 hr.1 (row 6 _ (by decide) rfl _ _)⟩,
    ⟨s1.ch hr.1 hne.1, s2.ch hr.1 hne.2.1, s3.ch hr.1 hne.2.2.1⟩, ⟨hA, fun b hb => ⟨(hB b hb).1, Nat.lt_of_lt_of_le (hB b hb).2 hr.1.size⟩⟩, hH.on (hr.1.mono fun b _ e => .inl (by subst e; unfold NM.M NM.bs; simp))⟩
theorem RS.set4 {B : Nat} {w : World} {p : Nat} {en : Int} {st : St} (h : RS B w p en st) (o : Nat) (ho : 4 ≤ o) (v : Value) : RS B (w.setCell ⟨p, o, none⟩ v) p en st := by
  have hb : Below B w (w.setCell ⟨p, o, none⟩ v) := ((Ch.refl (fun b => b = p) w).setCell (b := p) (o := o) (.inl rfl) v).below h.1.2.1 (fun b hb => by subst hb; exact h.1.1)
  have hR : ∀ {rs : Value} {a e : Int}, RAt w p rs en a e → RAt (w.setCell ⟨p, o, none⟩ v) p rs en a e := fun hA => by
    obtain ⟨h0, h1, h2, h3, hf⟩ := hA
    exact ⟨(cell_set_ne (by omega)).trans h0, (cell_set_ne (by omega)).trans h1, (cell_set_ne (by omega)).trans h2, (cell_set_ne (by omega)).trans h3, fun o' => by simpa using hf o'⟩
  obtain ⟨⟨h1, h2, h3, h4⟩, h⟩ := h
  refine ⟨⟨h1, Nat.le_trans h2 hb.size, fx_below h3 h4 hb, h4⟩, ?_⟩
  cases st with
  | ok r => obtain ⟨a, c, k1, k2, k3, k4⟩ := h; exact ⟨a, c, hR k1, k2.below hb, k3, k4⟩
  | error e => exact ⟨hR h.1, h.2⟩
theorem nameAt_add {names : List (List UInt8)} {s : List UInt8} {f : List UInt8 → Option Nat} {k : Nat} (hf : f = nameAt names) (hk : k = names.length) (hs : f s = none) : addF f s k = nameAt (names ++ [s]) ∧ addK f s k = names.length + 1 := by
  subst hf hk
  have hn : s ∉ names := fun h => by
    have := nameAt_some_ names s
    rw [hs, decide_eq_true h] at this
    cases this
  refine ⟨funext fun t => ?_, by unfold addK; rw [hs]; rfl⟩
  rw [nameAt_snoc]
  unfold addF
  by_cases e : t = s
  · subst e; rw [if_pos rfl, if_neg hn, if_pos rfl]
  · rw [if_neg e, if_neg e]
    by_cases h : t ∈ names
    · rw [if_pos h]
    · rw [if_neg h]; unfold nameAt; rw [if_neg h]
theorem NK.add_colours {B : Nat} {w w1 wa w2 : World} {p : Nat} {n : PNet} {m : NM} {c : PCol} {us : List Value} {s : List UInt8} {a' : Option Addr} {c' : Nat}
    (h : NK B w p n m) (hu : Held (m.H p B) w fun W => ColR W c us) (hs : SMp w1 m.mc (n.colours.length + 1) (addK m.fc s m.kc) (addF m.fc s m.kc)) (h1 : Ch (· = m.mc) w w1) (hB : Below w1.heap.size w1 wa)
    (hown : w2.ownsRow B 87 7 (.slice a' (n.colours.length + 1) c') (n.colours.length + 1) (m.vc ++ us)) (hg : wa.grownBy w2 (m.ac.map Addr.block)) (hat : a'.map Addr.block = m.ac.map Addr.block ∨ a'.map Addr.block = some wa.heap.size) :
    NK B (w2.setCell ⟨p, 4, none⟩ (.slice a' (n.colours.length + 1) c')) p { n with colours := n.colours ++ [c] } { m with ac := a', cc := c', vc := m.vc ++ us, kc := addK m.fc s m.kc, fc := addF m.fc s m.kc } ∧ Ch (m.M p) w (w2.setCell ⟨p, 4, none⟩ (.slice a' (n.colours.length + 1) c')) := by
  have hl : (n.colours ++ [c]).length = n.colours.length + 1 := by simp
  have hpin := h.p_in
  obtain ⟨⟨⟨c4, c5, c6⟩, ⟨c7, c8⟩, ⟨c9, c10, c11⟩⟩, ⟨r1, r2, r3⟩, ⟨s1, s2, s3⟩, ⟨hA, hM⟩, hH⟩ := h
  have hpl := (hM p hpin).2
  have hBs : B ≤ w.heap.size := Nat.le_trans (hM p hpin).1 (Nat.le_of_lt hpl)
  have z1 := h1.size
  have z2 := hB.size
  have z3 := hg.size
  have hi : (m.bs p)[4]? = some (m.ac.map Addr.block) := rfl
  have apart : ∀ (j x : Nat), j ≠ 4 → (m.bs p)[j]? = some (some x) → some x ≠ m.ac.map Addr.block := fun j x hj hx e => by
    rw [← e] at hi
    exact hj (hA j 4 x hx hi)
  have hc : Ch (fun b => b = m.mc ∨ some b = m.ac.map Addr.block ∨ b = p) w (w2.setCell ⟨p, 4, none⟩ (.slice a' (n.colours.length + 1) c')) :=
    (((h1.mono fun b _ e => .inl e).trans (Ch.of_below hB)).trans (Ch.grown hg fun b hb => .inr (.inl hb.symm))).setCell (b := p) (o := 4) (.inl (.inr (.inr rfl))) _
  have hc2 : Ch (fun b => some b = m.ac.map Addr.block ∨ b = p) w1 (w2.setCell ⟨p, 4, none⟩ (.slice a' (n.colours.length + 1) c')) :=
    ((Ch.of_below hB).trans (Ch.grown hg fun b hb => .inl hb.symm)).setCell (b := p) (o := 4) (.inl (.inr rfl)) _
  have hcM : Ch (m.M p) w (w2.setCell ⟨p, 4, none⟩ (.slice a' (n.colours.length + 1) c')) := hc.mono fun b _ e => by
    rcases e with e | e | e
    · subst e; unfold NM.M NM.bs; simp
    · unfold NM.M; rw [e]; exact List.mem_of_getElem? hi
    · subst e; exact hpin
  have cell : ∀ o v, o ≠ 4 → w.cell? ⟨p, o, none⟩ = some v → (w2.setCell ⟨p, 4, none⟩ (.slice a' (n.colours.length + 1) c')).cell? ⟨p, o, none⟩ = some v := fun o v ho hv => by
    rw [cell_set_ne (by omega)]
    have hp1 : wa.cell? ⟨p, o, none⟩ = some v := (hB.cell (p := ⟨p, o, none⟩) (Nat.lt_of_lt_of_le hpl z1)).trans (h1.cell (by exact fun e => (hA.ne (i := 0) (j := 1) rfl rfl (by decide)) e) hv)
    exact hg.cell hp1 (apart 0 p (by decide) rfl)
  have row : ∀ (j : Nat) (a : Option Addr), j ≠ 0 ∧ j ≠ 1 ∧ j ≠ 4 → (m.bs p)[j]? = some (a.map Addr.block) → ∀ (l c k : Nat), (Value.slice a l c).ownBlock = some k → ¬ (k = m.mc ∨ some k = m.ac.map Addr.block ∨ k = p) := fun j a hj ha l c k hk e => by
    rw [own_block] at hk
    rw [hk] at ha
    rcases e with e | e | e
    · exact hA.ne ha (j := 1) rfl hj.2.1 e
    · exact apart j k hj.2.2 ha e
    · exact hA.ne ha (j := 0) rfl hj.1 e
  have map : ∀ (j x : Nat), j ≠ 0 ∧ j ≠ 1 ∧ j ≠ 4 → (m.bs p)[j]? = some (some x) → ¬ (x = m.mc ∨ some x = m.ac.map Addr.block ∨ x = p) := fun j x hj ha e => by
    rcases e with e | e | e
    · exact hA.ne ha (j := 1) rfl hj.2.1 e
    · exact apart j x hj.2.2 ha e
    · exact hA.ne ha (j := 0) rfl hj.1 e
  have hq : some wa.heap.size ∉ m.bs p := fun e => by have := (hM _ e).2; omega
  have hap : ∀ k, (Value.slice a' (n.colours.length + 1) c').ownBlock = some k → ¬ k = p := fun k hk e => by
    rw [own_block] at hk
    subst e
    rcases hat with e | e
    · rw [hk] at e; exact apart 0 _ (by decide) rfl e
    · rw [hk] at e; injection e with e; omega
  have hal : ∀ k, a'.map Addr.block = some k → k < w2.heap.size := fun k hk => (hown.lt k (by rw [own_block]; exact hk)).2
  have hsz : (w2.setCell ⟨p, 4, none⟩ (.slice a' (n.colours.length + 1) c')).heap.size = w2.heap.size := by simp [World.setCell]
  refine ⟨⟨⟨⟨?_, cell 5 _ (by decide) c5, cell 6 _ (by decide) c6⟩, ⟨cell 7 _ (by decide) c7, cell 8 _ (by decide) c8⟩, ⟨cell 9 _ (by decide) c9, cell 10 _ (by decide) c10, cell 11 _ (by decide) c11⟩⟩,
    ⟨?_, own_ch2 r2 hc (row 5 _ (by decide) rfl _ _), own_ch2 r3 hc (row 6 _ (by decide) rfl _ _)⟩, ⟨?_, s2.ch hc (map 2 _ (by decide) rfl), s3.ch hc (map 3 _ (by decide) rfl)⟩, ⟨?_, ?_⟩, ?_⟩, hcM⟩
  · show (w2.setCell ⟨p, 4, none⟩ (.slice a' (n.colours.length + 1) c')).cell? ⟨p, 4, none⟩ = some (.slice a' (n.colours ++ [c]).length c')
    rw [hl]
    have hp1 : ∃ v, wa.cell? ⟨p, 4, none⟩ = some v := ⟨_, (hB.cell (p := ⟨p, 4, none⟩) (Nat.lt_of_lt_of_le hpl z1)).trans (h1.cell (by exact fun e => (hA.ne (i := 0) (j := 1) rfl rfl (by decide)) e) c4)⟩
    obtain ⟨v, hv⟩ := hp1
    exact cell_set_eq (hg.cell hv (apart 0 p (by decide) rfl))
  · show World.ownsRow (w2.setCell ⟨p, 4, none⟩ (.slice a' (n.colours.length + 1) c')) B 87 7 (.slice a' (n.colours ++ [c]).length c') (n.colours ++ [c]).length (m.vc ++ us)
    rw [hl]
    exact own_ch2 hown ((Ch.refl (fun b => b = p) w2).setCell (b := p) (o := 4) (.inl rfl) _) hap
  · show SMp (w2.setCell ⟨p, 4, none⟩ (.slice a' (n.colours.length + 1) c')) m.mc (n.colours ++ [c]).length (addK m.fc s m.kc) (addF m.fc s m.kc)
    rw [hl]
    refine hs.ch hc2 fun e => ?_
    rcases e with e | e
    · exact apart 1 _ (by decide) rfl e
    · exact hA.ne (i := 1) (j := 0) rfl rfl (by decide) e
  · exact hA.turn (i := 4) hi hat hq
  · intro b hb
    have hb' : some b ∈ (m.bs p).set 4 (a'.map Addr.block) := hb
    rw [hsz]
    rcases hat with e | e
    · rw [e, set_self hi] at hb'
      exact ⟨(hM b hb').1, by have := (hM b hb').2; omega⟩
    · rcases mem_turn hi (.inr e) hb' with g | g
      · exact ⟨(hM b g).1, by have := (hM b g).2; omega⟩
      · subst g; exact ⟨by omega, hal _ e⟩
  · refine ((hH.and hu).up (hcM.mono fun b _ e => .inl e) fun b hb => ?_).mono fun W hW => ?_
    · rcases hb with hb | hb
      · have hb' : some b ∈ (m.bs p).set 4 (a'.map Addr.block) := hb
        rcases mem_turn hi hat hb' with g | g
        · exact .inl (.inl g)
        · exact .inr (by omega)
      · exact .inl (.inr hb)
    · obtain ⟨⟨g1, g2, g3⟩, g4⟩ := hW
      exact ⟨g1.snoc g4, g2, g3⟩
theorem NK.add_places {B : Nat} {w w1 wa w2 : World} {p : Nat} {n : PNet} {m : NM} {c : PPlace} {us : List Value} {s : List UInt8} {a' : Option Addr} {c' : Nat}
    (h : NK B w p n m) (hu : Held (m.H p B) w fun W => PlaceR W c us) (hs : SMp w1 m.mp (n.places.length + 1) (addK m.fp s m.kp) (addF m.fp s m.kp)) (h1 : Ch (· = m.mp) w w1) (hB : Below w1.heap.size w1 wa)
    (hown : w2.ownsRow B 70 3 (.slice a' (n.places.length + 1) c') (n.places.length + 1) (m.vp ++ us)) (hg : wa.grownBy w2 (m.ap.map Addr.block)) (hat : a'.map Addr.block = m.ap.map Addr.block ∨ a'.map Addr.block = some wa.heap.size) :
    NK B (w2.setCell ⟨p, 5, none⟩ (.slice a' (n.places.length + 1) c')) p { n with places := n.places ++ [c] } { m with ap := a', cp := c', vp := m.vp ++ us, kp := addK m.fp s m.kp, fp := addF m.fp s m.kp } ∧ Ch (m.M p) w (w2.setCell ⟨p, 5, none⟩ (.slice a' (n.places.length + 1) c')) := by
  have hl : (n.places ++ [c]).length = n.places.length + 1 := by simp
  have hpin := h.p_in
  obtain ⟨⟨⟨c4, c5, c6⟩, ⟨c7, c8⟩, ⟨c9, c10, c11⟩⟩, ⟨r1, r2, r3⟩, ⟨s1, s2, s3⟩, ⟨hA, hM⟩, hH⟩ := h
  have hpl := (hM p hpin).2
  have hBs : B ≤ w.heap.size := Nat.le_trans (hM p hpin).1 (Nat.le_of_lt hpl)
  have z1 := h1.size
  have z2 := hB.size
  have z3 := hg.size
  have hi : (m.bs p)[5]? = some (m.ap.map Addr.block) := rfl
  have apart : ∀ (j x : Nat), j ≠ 5 → (m.bs p)[j]? = some (some x) → some x ≠ m.ap.map Addr.block := fun j x hj hx e => by
    rw [← e] at hi
    exact hj (hA j 5 x hx hi)
  have hc : Ch (fun b => b = m.mp ∨ some b = m.ap.map Addr.block ∨ b = p) w (w2.setCell ⟨p, 5, none⟩ (.slice a' (n.places.length + 1) c')) :=
    (((h1.mono fun b _ e => .inl e).trans (Ch.of_below hB)).trans (Ch.grown hg fun b hb => .inr (.inl hb.symm))).setCell (b := p) (o := 5) (.inl (.inr (.inr rfl))) _
  have hc2 : Ch (fun b => some b = m.ap.map Addr.block ∨ b = p) w1 (w2.setCell ⟨p, 5, none⟩ (.slice a' (n.places.length + 1) c')) :=
    ((Ch.of_below hB).trans (Ch.grown hg fun b hb => .inl hb.symm)).setCell (b := p) (o := 5) (.inl (.inr rfl)) _
  have hcM : Ch (m.M p) w (w2.setCell ⟨p, 5, none⟩ (.slice a' (n.places.length + 1) c')) := hc.mono fun b _ e => by
    rcases e with e | e | e
    · subst e; unfold NM.M NM.bs; simp
    · unfold NM.M; rw [e]; exact List.mem_of_getElem? hi
    · subst e; exact hpin
  have cell : ∀ o v, o ≠ 5 → w.cell? ⟨p, o, none⟩ = some v → (w2.setCell ⟨p, 5, none⟩ (.slice a' (n.places.length + 1) c')).cell? ⟨p, o, none⟩ = some v := fun o v ho hv => by
    rw [cell_set_ne (by omega)]
    have hp1 : wa.cell? ⟨p, o, none⟩ = some v := (hB.cell (p := ⟨p, o, none⟩) (Nat.lt_of_lt_of_le hpl z1)).trans (h1.cell (by exact fun e => (hA.ne (i := 0) (j := 2) rfl rfl (by decide)) e) hv)
    exact hg.cell hp1 (apart 0 p (by decide) rfl)
  have row : ∀ (j : Nat) (a : Option Addr), j ≠ 0 ∧ j ≠ 2 ∧ j ≠ 5 → (m.bs p)[j]? = some (a.map Addr.block) → ∀ (l c k : Nat), (Value.slice a l c).ownBlock = some k → ¬ (k = m.mp ∨ some k = m.ap.map Addr.block ∨ k = p) := fun j a hj ha l c k hk e => by
    rw [own_block] at hk
    rw [hk] at ha
    rcases e with e | e | e
    · exact hA.ne ha (j := 2) rfl hj.2.1 e
    · exact apart j k hj.2.2 ha e
    · exact hA.ne ha (j := 0) rfl hj.1 e
  have map : ∀ (j x : Nat), j ≠ 0 ∧ j ≠ 2 ∧ j ≠ 5 → (m.bs p)[j]? = some (some x) → ¬ (x = m.mp ∨ some x = m.ap.map Addr.block ∨ x = p) := fun j x hj ha e => by
    rcases e with e | e | e
    · exact hA.ne ha (j := 2) rfl hj.2.1 e
    · exact apart j x hj.2.2 ha e
    · exact hA.ne ha (j := 0) rfl hj.1 e
  have hq : some wa.heap.size ∉ m.bs p := fun e => by have := (hM _ e).2; omega
  have hap : ∀ k, (Value.slice a' (n.places.length + 1) c').ownBlock = some k → ¬ k = p := fun k hk e => by
    rw [own_block] at hk
    subst e
    rcases hat with e | e
    · rw [hk] at e; exact apart 0 _ (by decide) rfl e
    · rw [hk] at e; injection e with e; omega
  have hal : ∀ k, a'.map Addr.block = some k → k < w2.heap.size := fun k hk => (hown.lt k (by rw [own_block]; exact hk)).2
  have hsz : (w2.setCell ⟨p, 5, none⟩ (.slice a' (n.places.length + 1) c')).heap.size = w2.heap.size := by simp [World.setCell]
  refine ⟨⟨⟨⟨cell 4 _ (by decide) c4, ?_, cell 6 _ (by decide) c6⟩, ⟨cell 7 _ (by decide) c7, cell 8 _ (by decide) c8⟩, ⟨cell 9 _ (by decide) c9, cell 10 _ (by decide) c10, cell 11 _ (by decide) c11⟩⟩,
    ⟨own_ch2 r1 hc (row 4 _ (by decide) rfl _ _), ?_, own_ch2 r3 hc (row 6 _ (by decide) rfl _ _)⟩, ⟨s1.ch hc (map 1 _ (by decide) rfl), ?_, s3.ch hc (map 3 _ (by decide) rfl)⟩, ⟨?_, ?_⟩, ?_⟩, hcM⟩
  · show (w2.setCell ⟨p, 5, none⟩ (.slice a' (n.places.length + 1) c')).cell? ⟨p, 5, none⟩ = some (.slice a' (n.places ++ [c]).length c')
    rw [hl]
    have hp1 : ∃ v, wa.cell? ⟨p, 5, none⟩ = some v := ⟨_, (hB.cell (p := ⟨p, 5, none⟩) (Nat.lt_of_lt_of_le hpl z1)).trans (h1.cell (by exact fun e => (hA.ne (i := 0) (j := 2) rfl rfl (by decide)) e) c5)⟩
    obtain ⟨v, hv⟩ := hp1
    exact cell_set_eq (hg.cell hv (apart 0 p (by decide) rfl))
  · show World.ownsRow (w2.setCell ⟨p, 5, none⟩ (.slice a' (n.places.length + 1) c')) B 70 3 (.slice a' (n.places ++ [c]).length c') (n.places ++ [c]).length (m.vp ++ us)
    rw [hl]
    exact own_ch2 hown ((Ch.refl (fun b => b = p) w2).setCell (b := p) (o := 5) (.inl rfl) _) hap
  · show SMp (w2.setCell ⟨p, 5, none⟩ (.slice a' (n.places.length + 1) c')) m.mp (n.places ++ [c]).length (addK m.fp s m.kp) (addF m.fp s m.kp)
    rw [hl]
    refine hs.ch hc2 fun e => ?_
    rcases e with e | e
    · exact apart 2 _ (by decide) rfl e
    · exact hA.ne (i := 2) (j := 0) rfl rfl (by decide) e
  · exact hA.turn (i := 5) hi hat hq
  · intro b hb
    have hb' : some b ∈ (m.bs p).set 5 (a'.map Addr.block) := hb
    rw [hsz]
    rcases hat with e | e
    · rw [e, set_self hi] at hb'
      exact ⟨(hM b hb').1, by have := (hM b hb').2; omega⟩
    · rcases mem_turn hi (.inr e) hb' with g | g
      · exact ⟨(hM b g).1, by have := (hM b g).2; omega⟩
      · subst g; exact ⟨by omega, hal _ e⟩
  · refine ((hH.and hu).up (hcM.mono fun b _ e => .inl e) fun b hb => ?_).mono fun W hW => ?_
    · rcases hb with hb | hb
      · have hb' : some b ∈ (m.bs p).set 5 (a'.map Addr.block) := hb
        rcases mem_turn hi hat hb' with g | g
        · exact .inl (.inl g)
        · exact .inr (by omega)
      · exact .inl (.inr hb)
    · obtain ⟨⟨g1, g2, g3⟩, g4⟩ := hW
      exact ⟨g1, g2.snoc g4, g3⟩
theorem NK.add_tasks {B : Nat} {w w1 wa w2 : World} {p : Nat} {n : PNet} {m : NM} {c : PTask} {us : List Value} {s : List UInt8} {a' : Option Addr} {c' : Nat}
    (h : NK B w p n m) (hu : Held (m.H p B) w fun W => TaskR W c us) (hs : SMp w1 m.mt (n.tasks.length + 1) (addK m.ft s m.kt) (addF m.ft s m.kt)) (h1 : Ch (· = m.mt) w w1) (hB : Below w1.heap.size w1 wa)
    (hown : w2.ownsRow B 63 14 (.slice a' (n.tasks.length + 1) c') (n.tasks.length + 1) (m.vt ++ us)) (hg : wa.grownBy w2 (m.at_.map Addr.block)) (hat : a'.map Addr.block = m.at_.map Addr.block ∨ a'.map Addr.block = some wa.heap.size) :
    NK B (w2.setCell ⟨p, 6, none⟩ (.slice a' (n.tasks.length + 1) c')) p { n with tasks := n.tasks ++ [c] } { m with at_ := a', ct := c', vt := m.vt ++ us, kt := addK m.ft s m.kt, ft := addF m.ft s m.kt } ∧ Ch (m.M p) w (w2.setCell ⟨p, 6, none⟩ (.slice a' (n.tasks.length + 1) c')) := by
  have hl : (n.tasks ++ [c]).length = n.tasks.length + 1 := by simp
  have hpin := h.p_in
  obtain ⟨⟨⟨c4, c5, c6⟩, ⟨c7, c8⟩, ⟨c9, c10, c11⟩⟩, ⟨r1, r2, r3⟩, ⟨s1, s2, s3⟩, ⟨hA, hM⟩, hH⟩ := h
  have hpl := (hM p hpin).2
  have hBs : B ≤ w.heap.size := Nat.le_trans (hM p hpin).1 (Nat.le_of_lt hpl)
  have z1 := h1.size
  have z2 := hB.size
  have z3 := hg.size
  have hi : (m.bs p)[6]? = some (m.at_.map Addr.block) := rfl
  have apart : ∀ (j x : Nat), j ≠ 6 → (m.bs p)[j]? = some (some x) → some x ≠ m.at_.map Addr.block := fun j x hj hx e => by
    rw [← e] at hi
    exact hj (hA j 6 x hx hi)
  have hc : Ch (fun b => b = m.mt ∨ some b = m.at_.map Addr.block ∨ b = p) w (w2.setCell ⟨p, 6, none⟩ (.slice a' (n.tasks.length + 1) c')) :=
    (((h1.mono fun b _ e => .inl e).trans (Ch.of_below hB)).trans (Ch.grown hg fun b hb => .inr (.inl hb.symm))).setCell (b := p) (o := 6) (.inl (.inr (.inr rfl))) _
  have hc2 : Ch (fun b => some b = m.at_.map Addr.block ∨ b = p) w1 (w2.setCell ⟨p, 6, none⟩ (.slice a' (n.tasks.length + 1) c')) :=
    ((Ch.of_below hB).trans (Ch.grown hg fun b hb => .inl hb.symm)).setCell (b := p) (o := 6) (.inl (.inr rfl)) _
  have hcM : Ch (m.M p) w (w2.setCell ⟨p, 6, none⟩ (.slice a' (n.tasks.length + 1) c')) := hc.mono fun b _ e => by
    rcases e with e | e | e
    · subst e; unfold NM.M NM.bs; simp
    · unfold NM.M; rw [e]; exact List.mem_of_getElem? hi
    · subst e; exact hpin
  have cell : ∀ o v, o ≠ 6 → w.cell? ⟨p, o, none⟩ = some v → (w2.setCell ⟨p, 6, none⟩ (.slice a' (n.tasks.length + 1) c')).cell? ⟨p, o, none⟩ = some v := fun o v ho hv => by
    rw [cell_set_ne (by omega)]
    have hp1 : wa.cell? ⟨p, o, none⟩ = some v := (hB.cell (p := ⟨p, o, none⟩) (Nat.lt_of_lt_of_le hpl z1)).trans (h1.cell (by exact fun e => (hA.ne (i := 0) (j := 3) rfl rfl (by decide)) e) hv)
    exact hg.cell hp1 (apart 0 p (by decide) rfl)
  have row : ∀ (j : Nat) (a : Option Addr), j ≠ 0 ∧ j ≠ 3 ∧ j ≠ 6 → (m.bs p)[j]? = some (a.map Addr.block) → ∀ (l c k : Nat), (Value.slice a l c).ownBlock = some k → ¬ (k = m.mt ∨ some k = m.at_.map Addr.block ∨ k = p) := fun j a hj ha l c k hk e => by
    rw [own_block] at hk
    rw [hk] at ha
    rcases e with e | e | e
    · exact hA.ne ha (j := 3) rfl hj.2.1 e
    · exact apart j k hj.2.2 ha e
    · exact hA.ne ha (j := 0) rfl hj.1 e
  have map : ∀ (j x : Nat), j ≠ 0 ∧ j ≠ 3 ∧ j ≠ 6 → (m.bs p)[j]? = some (some x) → ¬ (x = m.mt ∨ some x = m.at_.map Addr.block ∨ x = p) := fun j x hj ha e => by
    rcases e with e | e | e
    · exact hA.ne ha (j := 3) rfl hj.2.1 e
    · exact apart j x hj.2.2 ha e
    · exact hA.ne ha (j := 0) rfl hj.1 e
  have hq : some wa.heap.size ∉ m.bs p := fun e => by have := (hM _ e).2; omega
  have hap : ∀ k, (Value.slice a' (n.tasks.length + 1) c').ownBlock = some k → ¬ k = p := fun k hk e => by
    rw [own_block] at hk
    subst e
    rcases hat with e | e
    · rw [hk] at e; exact apart 0 _ (by decide) rfl e
    · rw [hk] at e; injection e with e; omega
  have hal : ∀ k, a'.map Addr.block = some k → k < w2.heap.size := fun k hk => (hown.lt k (by rw [own_block]; exact hk)).2
  have hsz : (w2.setCell ⟨p, 6, none⟩ (.slice a' (n.tasks.length + 1) c')).heap.size = w2.heap.size := by simp [World.setCell]
  refine ⟨⟨⟨⟨cell 4 _ (by decide) c4, cell 5 _ (by decide) c5, ?_⟩, ⟨cell 7 _ (by decide) c7, cell 8 _ (by decide) c8⟩, ⟨cell 9 _ (by decide) c9, cell 10 _ (by decide) c10, cell 11 _ (by decide) c11⟩⟩,
    ⟨own_ch2 r1 hc (row 4 _ (by decide) rfl _ _), own_ch2 r2 hc (row 5 _ (by decide) rfl _ _), ?_⟩, ⟨s1.ch hc (map 1 _ (by decide) rfl), s2.ch hc (map 2 _ (by decide) rfl), ?_⟩, ⟨?_, ?_⟩, ?_⟩, hcM⟩
  · show (w2.setCell ⟨p, 6, none⟩ (.slice a' (n.tasks.length + 1) c')).cell? ⟨p, 6, none⟩ = some (.slice a' (n.tasks ++ [c]).length c')
    rw [hl]
    have hp1 : ∃ v, wa.cell? ⟨p, 6, none⟩ = some v := ⟨_, (hB.cell (p := ⟨p, 6, none⟩) (Nat.lt_of_lt_of_le hpl z1)).trans (h1.cell (by exact fun e => (hA.ne (i := 0) (j := 3) rfl rfl (by decide)) e) c6)⟩
    obtain ⟨v, hv⟩ := hp1
    exact cell_set_eq (hg.cell hv (apart 0 p (by decide) rfl))
  · show World.ownsRow (w2.setCell ⟨p, 6, none⟩ (.slice a' (n.tasks.length + 1) c')) B 63 14 (.slice a' (n.tasks ++ [c]).length c') (n.tasks ++ [c]).length (m.vt ++ us)
    rw [hl]
    exact own_ch2 hown ((Ch.refl (fun b => b = p) w2).setCell (b := p) (o := 6) (.inl rfl) _) hap
  · show SMp (w2.setCell ⟨p, 6, none⟩ (.slice a' (n.tasks.length + 1) c')) m.mt (n.tasks ++ [c]).length (addK m.ft s m.kt) (addF m.ft s m.kt)
    rw [hl]
    refine hs.ch hc2 fun e => ?_
    rcases e with e | e
    · exact apart 3 _ (by decide) rfl e
    · exact hA.ne (i := 3) (j := 0) rfl rfl (by decide) e
  · exact hA.turn (i := 6) hi hat hq
  · intro b hb
    have hb' : some b ∈ (m.bs p).set 6 (a'.map Addr.block) := hb
    rw [hsz]
    rcases hat with e | e
    · rw [e, set_self hi] at hb'
      exact ⟨(hM b hb').1, by have := (hM b hb').2; omega⟩
    · rcases mem_turn hi (.inr e) hb' with g | g
      · exact ⟨(hM b g).1, by have := (hM b g).2; omega⟩
      · subst g; exact ⟨by omega, hal _ e⟩
  · refine ((hH.and hu).up (hcM.mono fun b _ e => .inl e) fun b hb => ?_).mono fun W hW => ?_
    · rcases hb with hb | hb
      · have hb' : some b ∈ (m.bs p).set 6 (a'.map Addr.block) := hb
        rcases mem_turn hi hat hb' with g | g
        · exact .inl (.inl g)
        · exact .inr (by omega)
      · exact .inl (.inr hb)
    · obtain ⟨⟨g1, g2, g3⟩, g4⟩ := hW
      exact ⟨g1, g2, g3.snoc g4⟩
end Go.Proofs.YtjcanodnlnodpaaGreatDoor.Parse
