/- Net and Text of package parse: contracts of the calls, over the turned program. -/
import Derived.Test.YtjcanodnlnodpaaGreatDoorMReadN
import Derived.Test.YtjcanodnlnodpaaGreatDoorMReadT
import Derived.Test.YtjcanodnlnodpaaGreatDoorMLex
import Derived.Test.YtjcanodnlnodpaaGreatDoorMJoin
namespace Go.Proofs.YtjcanodnlnodpaaGreatDoor.Parse
open Go.RowKit Go.Maps Go.Proofs.YtjcanodnlnodpaaGreatDoor.Frame Go.Proofs.YtjcanodnlnodpaaGreatDoor.Token Go.Proofs.YtjcanodnlnodpaaGreatDoor.Expr Go.Proofs.YtjcanodnlnodpaaGreatDoor.Calc
set_option linter.unusedVariables false
set_option linter.unusedSimpArgs false

theorem fx_lt {w : World} (h : Fx w) : 0 < w.heap.size ∧ 3 < w.heap.size := by
  obtain ⟨h1, te, pe, h2⟩ := h
  exact ⟨World.block_lt_of_cell? w _ (h1 0 (by decide)), World.block_lt_of_cell? w _ h2⟩
theorem nameAt_nil : nameAt [] = fun _ => none := funext fun s => by simp [nameAt]
/-- what is told: a net, a place, which error -/
def NetPost (x : PNet × Int × Int) (w : World) (e : Ending) (w' : World) : Prop := ∃ v, e = .returned (.tuple #[v, .int .i64 x.2.1, .int .i64 x.2.2]) ∧ Held (fun b => b < w.heap.size) w' (fun W => NetR W x.1 v) ∧ Below w.heap.size w w'
def nm0 (b : Nat) : NM := ⟨b, b + 1, b + 1 + 1, fun _ => none, fun _ => none, fun _ => none, 0, 0, 0, none, 0, none, 0, none, 0, [], [], []⟩
theorem nk0 {B p b : Nat} {w : World} {rs : Value} {en : Int} (hB : B ≤ b) (hp : p = b + 1 + 1 + 1) (hpl : p < w.heap.size) (h1 : SMp w b 0 0 (fun _ => none)) (h2 : SMp w (b + 1) 0 0 (fun _ => none)) (h3 : SMp w (b + 1 + 1) 0 0 (fun _ => none))
    (hb : Bx w p [rs, .int .i64 en, .int .i64 0, .int .i64 0, .slice none 0 0, .slice none 0 0, .slice none 0 0, .int .i64 0, .int .i64 0, .map (some b), .map (some (b + 1)), .map (some (b + 1 + 1))]) : NK B w p net0 (nm0 b) ∧ NA net0 (nm0 b) := by
  refine ⟨⟨⟨⟨hb.1 4, hb.1 5, hb.1 6⟩, ⟨hb.1 7, hb.1 8⟩, hb.1 9, hb.1 10, hb.1 11⟩, ⟨World.ownsRow_nil _ _ _ _, World.ownsRow_nil _ _ _ _, World.ownsRow_nil _ _ _ _⟩, ⟨h1, h2, h3⟩, ⟨?_, ?_⟩, fun W _ => ⟨Rws.nil, Rws.nil, Rws.nil⟩⟩, ⟨nameAt_nil.symm, rfl⟩, ⟨nameAt_nil.symm, rfl⟩, nameAt_nil.symm, rfl⟩
  · intro i j x hi hj
    have e1 : (nm0 b).bs p = [some p, some b, some (b + 1), some (b + 1 + 1), none, none, none] := rfl
    rw [e1] at hi hj
    match i, j, hi, hj with
    | 0, 0, _, _ => rfl
    | 1, 1, _, _ => rfl
    | 2, 2, _, _ => rfl
    | 3, 3, _, _ => rfl
    | 0, 1, hi, hj => simp at hi hj; omega
    | 0, 2, hi, hj => simp at hi hj; omega
    | 0, 3, hi, hj => simp at hi hj; omega
    | 1, 0, hi, hj => simp at hi hj; omega
    | 1, 2, hi, hj => simp at hi hj; omega
    | 1, 3, hi, hj => simp at hi hj; omega
    | 2, 0, hi, hj => simp at hi hj; omega
    | 2, 1, hi, hj => simp at hi hj; omega
    | 2, 3, hi, hj => simp at hi hj; omega
    | 3, 0, hi, hj => simp at hi hj; omega
    | 3, 1, hi, hj => simp at hi hj; omega
    | 3, 2, hi, hj => simp at hi hj; omega
    | 4, _, hi, _ => simp at hi
    | 5, _, hi, _ => simp at hi
    | 6, _, hi, _ => simp at hi
    | _, 4, _, hj => simp at hj
    | _, 5, _, hj => simp at hj
    | _, 6, _, hj => simp at hj
    | i + 7, _, hi, _ => simp at hi
    | _, j + 7, _, hj => simp at hj
  · intro x hx
    have hx : some x ∈ [some p, some b, some (b + 1), some (b + 1 + 1), none, none, none] := hx
    simp at hx
    rcases hx with rfl | rfl | rfl | rfl <;> omega

set_option maxRecDepth 100000 in
set_option maxHeartbeats 8000000 in
theorem net_any (a : Option Addr) (c : Nat) (r : List TI) (en : Int) (w : World) (hT : TIs w.heap.size w a r) (hrc : r.length ≤ c) (hc : c ≤ maxLen) (hP : Pk r) (hr : r.length ≤ 1000000) (hF : Fx w) :
    Calls Tryz.prog 12 #[.slice a r.length c, .int .i64 en] w (NetPost (outF en (netF en r)) w) := by
  obtain ⟨W0, hW⟩ : ∃ W0, W0 = ((((w.alloc (.cells #[.slice none 0 0, .slice none 0 0, .slice none 0 0, .int .i64 0, .int .i64 0] 28)).alloc (.map #[] 0)).alloc (.map #[] 0)).alloc (.map #[] 0)).alloc (.cells #[.slice a r.length c, .int .i64 en, .int .i64 0, .int .i64 0, .slice none 0 0, .slice none 0 0, .slice none 0 0, .int .i64 0, .int .i64 0, .map (some (w.heap.size + 1)), .map (some (w.heap.size + 1 + 1)), .map (some (w.heap.size + 1 + 1 + 1))] 77) := ⟨_, rfl⟩
  have hB0 : Below w.heap.size w W0 := by rw [hW]; exact (((((Below.refl _ _).alloc (Nat.le_refl _) _).alloc (by simp) _).alloc (by simp; omega) _).alloc (by simp; omega) _).alloc (by simp; omega) _
  have hs0 : W0.heap.size = w.heap.size + 1 + 1 + 1 + 1 + 1 := by rw [hW]; simp
  have hbx : Bx W0 (w.heap.size + 1 + 1 + 1 + 1) [.slice a r.length c, .int .i64 en, .int .i64 0, .int .i64 0, .slice none 0 0, .slice none 0 0, .slice none 0 0, .int .i64 0, .int .i64 0, .map (some (w.heap.size + 1)), .map (some (w.heap.size + 1 + 1)), .map (some (w.heap.size + 1 + 1 + 1))] := by rw [hW]; exact Bx.mk _ (by simp) rfl
  have hrx : Bx W0 w.heap.size [.slice none 0 0, .slice none 0 0, .slice none 0 0, .int .i64 0, .int .i64 0] := by rw [hW]; exact ((((Bx.mk (w := w) _ rfl rfl).al _).al _).al _).al _
  have hm1 : SMp W0 (w.heap.size + 1) 0 0 (fun _ => none) := by rw [hW]; exact (((SMp.mk (by simp)).al _).al _).al _
  have hm2 : SMp W0 (w.heap.size + 1 + 1) 0 0 (fun _ => none) := by rw [hW]; exact ((SMp.mk (by simp)).al _).al _
  have hm3 : SMp W0 (w.heap.size + 1 + 1 + 1) 0 0 (fun _ => none) := by rw [hW]; exact (SMp.mk (by simp)).al _
  have hg := fx_lt hF
  have hTW : TIs (w.heap.size + 1) W0 a r := by
    rcases hT with h0 | ⟨b, off, ha, hbB, hcc⟩
    · exact .inl h0
    · exact .inr ⟨b, off, ha, by omega, fun i hi => by
        obtain ⟨k0, k1, k2⟩ := hcc i hi
        exact ⟨(hB0.cell (p := ⟨b, off + i * 3, none⟩) hbB).trans k0, (hB0.cell (p := ⟨b, off + i * 3 + 1, none⟩) hbB).trans k1, (hB0.cell (p := ⟨b, off + i * 3 + 2, none⟩) hbB).trans k2⟩⟩
  have hRS : RS (w.heap.size + 1) W0 (w.heap.size + 1 + 1 + 1 + 1) en (.ok r) := ⟨⟨by omega, by omega, fx_below hF hg hB0, by omega⟩, a, c, ⟨hbx.1 0, hbx.1 1, hbx.1 2, hbx.1 3, hbx.2.1⟩, hTW, hrc, hc, hP⟩
  obtain ⟨hNK, hNA⟩ := nk0 (B := w.heap.size + 1) (b := w.heap.size + 1) (Nat.le_refl _) rfl (by omega) hm1 hm2 hm3 hbx
  have H0 : Hid (RS (w.heap.size + 1) W0 (w.heap.size + 1 + 1 + 1 + 1) en (.ok r) ∧ NK (w.heap.size + 1) W0 (w.heap.size + 1 + 1 + 1 + 1) net0 (nm0 (w.heap.size + 1)) ∧ NA net0 (nm0 (w.heap.size + 1)) ∧ Bx W0 w.heap.size [.slice none 0 0, .slice none 0 0, .slice none 0 0, .int .i64 0, .int .i64 0] ∧ Below w.heap.size w W0 ∧ r.length ≤ 1000000) := ⟨hRS, hNK, hNA, hrx, hB0, hr⟩
  have HW : Hid (W0 = ((((w.alloc (.cells #[.slice none 0 0, .slice none 0 0, .slice none 0 0, .int .i64 0, .int .i64 0] 28)).alloc (.map #[] 0)).alloc (.map #[] 0)).alloc (.map #[] 0)).alloc (.cells #[.slice a r.length c, .int .i64 en, .int .i64 0, .int .i64 0, .slice none 0 0, .slice none 0 0, .slice none 0 0, .int .i64 0, .int .i64 0, .map (some (w.heap.size + 1)), .map (some (w.heap.size + 1 + 1)), .map (some (w.heap.size + 1 + 1 + 1))] 77)) := hW
  obtain ⟨rl, hrl⟩ : ∃ rl, rl = r.length := ⟨_, rfl⟩
  rw [← hrl] at HW ⊢
  clear hW hB0 hbx hrx hm1 hm2 hm3 hTW hRS hNK hNA hT hP hF hrl hrc hc hg hr
  have hmk : ∀ W : World, Sem.run Tryz.prog (Instr.makeMap 75 none) W = .ok (.map (some W.heap.size)) (W.alloc (.map #[] 0)) := fun W => makeMap_run W
  go_enter Tryz.func12, Tryz.ntmps12
  go_wp2_with fail
  rw [← HW.out]
  clear HW hmk
  refine (read_any readTask_any (w.heap.size + 1) (w.heap.size + 1 + 1 + 1 + 1) en r (nm0 (w.heap.size + 1)) W0 H0.out.1 H0.out.2.1 H0.out.2.2.1 H0.out.2.2.2.2.2).mono ?_
  rintro e w2 ⟨he, n, m, st, h2, k2, hl2, hc2, R2⟩
  subst he
  have hs2 := hc2.size
  have K2 : Hid (RS (w.heap.size + 1) w2 (w.heap.size + 1 + 1 + 1 + 1) en st ∧ NK (w.heap.size + 1) w2 (w.heap.size + 1 + 1 + 1 + 1) n m ∧ (n.colours.length ≤ 1000000 ∧ n.places.length ≤ 1000000 ∧ n.tasks.length ≤ 1000000) ∧ Bx w2 w.heap.size [.slice none 0 0, .slice none 0 0, .slice none 0 0, .int .i64 0, .int .i64 0] ∧ Below w.heap.size w w2) := ⟨h2, k2, hl2, H0.out.2.2.2.1.ch hc2 (by omega), (H0.out.2.2.2.2.1).trans (hc2.below (by omega) (fun b hb => by omega))⟩
  have RR : Hid (Res en (.ok r) netQ st fun u => u = n) := R2
  obtain ⟨d4, d5, d6⟩ := k2.1.1
  obtain ⟨d7, d8⟩ := k2.1.2.1
  have pl : w.heap.size + 1 + 1 + 1 + 1 < w2.heap.size := h2.lt
  clear H0 h2 k2 hl2 hc2 R2
  go_wp2_with fail
  refine (toldN_any (w.heap.size + 1) (w.heap.size + 1 + 1 + 1 + 1) en st _ _ _ _ _ _ _ _ _ _ _ w2 K2.out.1).mono ?_
  rintro e w3 ⟨he, hb3⟩
  have NN : Hid (∀ v0 v1 v2 v3 v4 : Value, Held (fun b => b < w.heap.size) ((((((w3.setCell ⟨w.heap.size, 0, none⟩ v0).setCell ⟨w.heap.size, 1, none⟩ v1).setCell ⟨w.heap.size, 2, none⟩ v2).setCell ⟨w.heap.size, 3, none⟩ v3).setCell ⟨w.heap.size, 4, none⟩ v4)) (fun W => NetR W n (netV n m)) ∧ Below w.heap.size w ((((((w3.setCell ⟨w.heap.size, 0, none⟩ v0).setCell ⟨w.heap.size, 1, none⟩ v1).setCell ⟨w.heap.size, 2, none⟩ v2).setCell ⟨w.heap.size, 3, none⟩ v3).setCell ⟨w.heap.size, 4, none⟩ v4))) := fun v0 v1 v2 v3 v4 => by
    have hk := K2.out.2.1.net K2.out.2.2.1
    have hch : Ch (fun b => b = w.heap.size) w3 ((((((w3.setCell ⟨w.heap.size, 0, none⟩ v0).setCell ⟨w.heap.size, 1, none⟩ v1).setCell ⟨w.heap.size, 2, none⟩ v2).setCell ⟨w.heap.size, 3, none⟩ v3).setCell ⟨w.heap.size, 4, none⟩ v4)) := ((((((Ch.refl (fun b => b = w.heap.size) w3).setCell (b := w.heap.size) (o := 0) (.inl rfl) v0).setCell (b := w.heap.size) (o := 1) (.inl rfl) v1).setCell (b := w.heap.size) (o := 2) (.inl rfl) v2).setCell (b := w.heap.size) (o := 3) (.inl rfl) v3).setCell (b := w.heap.size) (o := 4) (.inl rfl) v4)
    exact ⟨(hk.on ((Ch.of_below hb3).trans (hch.mono fun b _ e => by show b < _; omega))).less (fun b hb => by show b < _; omega), below_part (below_part (below_part (below_part (below_part (K2.out.2.2.2.2.trans (hb3.mono (by omega))) (Nat.le_refl _) 0 _) (Nat.le_refl _) 1 _) (Nat.le_refl _) 2 _) (Nat.le_refl _) 3 _) (Nat.le_refl _) 4 _⟩
  have hr3 := K2.out.2.2.2.1.below hb3
  obtain ⟨g0, g1, g2, g3, g4, gl⟩ := hr3.five
  have f0 := hr3.2.1 0
  have f1 := hr3.2.1 1
  have f2 := hr3.2.1 2
  have f3 := hr3.2.1 3
  have f4 := hr3.2.1 4
  have OO := netF_of RR.out
  clear hr3 hb3 K2 d4 d5 d6 d7 d8 pl RR
  cases st with
  | ok r3 =>
    have OE : Hid (netF en r = .ok n) := by
      rcases OO with ⟨s, h1, h2⟩ | ⟨x, h1, h2⟩
      · exact h2
      · cases h1
    clear OO
    replace he : e = .returned (.tuple #[netV n m, .int .i64 en, .int .i64 0]) := he
    unfold netV at he
    subst he
    go_wp2_with fail
    refine bodyPost_ret (v := .tuple #[netV n m, .int .i64 en, .int .i64 0]) ?_ rfl ⟨netV n m, by rw [OE.out]; rfl, by rw [OE.out]; exact (NN.out _ _ _ _ _).1, (NN.out _ _ _ _ _).2⟩
    simp [results, Tryz.results12, go_sem, netV, g0, g1, g2, g3, g4]
  | error x =>
    obtain ⟨x1, x2⟩ := x
    have OE : Hid (netF en r = .error (x1, x2)) := by
      rcases OO with ⟨s, h1, h2⟩ | ⟨x, h1, h2⟩
      · cases h1
      · cases h1; exact h2
    clear OO
    replace he : e = .returned (.tuple #[netZ, .int .i64 x1, .int .i64 x2]) := he
    unfold netZ at he
    subst he
    go_wp2_with fail
    refine bodyPost_ret (v := .tuple #[netZ, .int .i64 x1, .int .i64 x2]) ?_ rfl ⟨netZ, by rw [OE.out]; rfl, by rw [OE.out]; exact fun W _ => NetR.zero W, (NN.out _ _ _ _ _).2⟩
    simp [results, Tryz.results12, go_sem, netZ, g0, g1, g2, g3, g4]

theorem tis_of {w : World} {a : Option Addr} {l : List Tok} (h : Toks w a l) : TIs w.heap.size w a (l.map tiT) := by
  rcases h with h0 | ⟨b, off, ha, hc⟩
  · left; rw [h0]; rfl
  · by_cases hl : 0 < l.length
    · refine .inr ⟨b, off, ha, World.block_lt_of_cell? w _ (hc 0 hl).1, fun i hi => ?_⟩
      rw [List.length_map] at hi
      have e : (l.map tiT).getD i ti0 = tiT (l.getD i tk0) := by
        rw [List.getD_eq_getElem?_getD, List.getD_eq_getElem?_getD, List.getElem?_map, List.getElem?_eq_getElem hi]; rfl
      rw [e]
      exact hc i hi
    · exact .inl (by rw [show l = [] from List.eq_nil_of_length_eq_zero (by omega)]; rfl)
theorem pk_of {l : List Tok} {n : Nat} (h : ∀ t ∈ l, t.text.length ≤ n) (hn : n ≤ 140737488355328) : Pk (l.map tiT) := fun t ht => by
  obtain ⟨u, hu, rfl⟩ := List.mem_map.1 ht
  exact Nat.le_trans (h u hu) hn

theorem places_len {l : List UInt8} : ∀ {ts : List Tok} {lo : Nat}, Places l lo ts → ∀ t ∈ ts, t.text.length ≤ l.length
  | [], _, _, t, ht => by cases ht
  | u :: ts, lo, h, t, ht => by
    rcases List.mem_cons.1 ht with rfl | ht
    · have := h.1.2.1; omega
    · exact places_len h.2 t ht
theorem lex_small (l : List UInt8) : (lexF l).1.length ≤ 16384 ∧ ∀ t ∈ (lexF l).1, t.text.length ≤ 16384 := by
  by_cases h : 16384 < l.length
  · rw [lexF_long h]; exact ⟨Nat.zero_le _, fun t ht => by cases ht⟩
  · have h1 := (lexF_parts (l := l) (by omega)).1
    exact ⟨by omega, fun t ht => by have := places_len (lexF_places (l := l) (by omega)) t ht; omega⟩

set_option maxRecDepth 100000 in
set_option maxHeartbeats 8000000 in
theorem text_any (s : ByteArray) (w : World) (hs : s.size ≤ 1000000) (hF : Fx w) : Calls Tryz.prog 16 #[.string s] w (NetPost (textF s.data.toList) w) := by
  have hal : Below w.heap.size w (w.alloc (.cells #[.slice none 0 0, .slice none 0 0, .slice none 0 0, .int .i64 0, .int .i64 0] 28)) := (Below.refl _ _).alloc (Nat.le_refl _) _
  have HF : Hid (Fx (w.alloc (.cells #[.slice none 0 0, .slice none 0 0, .slice none 0 0, .int .i64 0, .int .i64 0] 28))) := hF.below hal
  have HL : Hid (∀ W, Fx W → Calls Tryz.prog 21 #[.string s] W (LexPost2 (lexF s.data.toList) W)) := fun W hW => lex_any2 s W hs hW
  have HX : Hid (Bx (w.alloc (.cells #[.slice none 0 0, .slice none 0 0, .slice none 0 0, .int .i64 0, .int .i64 0] 28)) w.heap.size [.slice none 0 0, .slice none 0 0, .slice none 0 0, .int .i64 0, .int .i64 0] ∧ Below w.heap.size w (w.alloc (.cells #[.slice none 0 0, .slice none 0 0, .slice none 0 0, .int .i64 0, .int .i64 0] 28)) ∧ Fx (w.alloc (.cells #[.slice none 0 0, .slice none 0 0, .slice none 0 0, .int .i64 0, .int .i64 0] 28))) := ⟨Bx.new w #[.slice none 0 0, .slice none 0 0, .slice none 0 0, .int .i64 0, .int .i64 0] _, hal, HF.out⟩
  have HS : Hid ((lexF s.data.toList).1.length ≤ 16384 ∧ ∀ t ∈ (lexF s.data.toList).1, t.text.length ≤ 16384) := lex_small _
  obtain ⟨x, hx⟩ : ∃ x, x = lexF s.data.toList := ⟨_, rfl⟩
  have HT : Hid (textF s.data.toList = if x.2.2 = 0 then outF x.2.1 (netF x.2.1 (x.1.map tiT)) else (net0, x.2.1, x.2.2)) := by show _ = _; rw [hx]; rfl
  rw [← hx] at HL HS
  obtain ⟨l, at0, er⟩ := x
  have HT : Hid (textF s.data.toList = if er = 0 then outF at0 (netF at0 (l.map tiT)) else (net0, (at0 : Int), er)) := HT.out
  generalize textF s.data.toList = tx at *
  clear hal hF hx HF
  go_enter Tryz.func16, Tryz.ntmps16
  go_wp2_with fail
  refine (HL.out _ HX.out.2.2).mono ?_
  rintro e w2 ⟨a, c, he, ht, hb, hlc, hcm⟩
  replace he : e = .returned (.tuple #[.slice a l.length c, .int .i64 at0, .int .i64 er]) := he
  subst he
  have hbx := HX.out.1.below hb
  have hb2 : Below w.heap.size w w2 := then_ HX.out.2.1 hb
  have K2 : Hid (Bx w2 w.heap.size [.slice none 0 0, .slice none 0 0, .slice none 0 0, .int .i64 0, .int .i64 0] ∧ Below w.heap.size w w2) := ⟨hbx, hb2⟩
  have NC : Hid (Calls Tryz.prog 12 #[.slice a l.length c, .int .i64 at0] w2 (NetPost (outF at0 (netF at0 (l.map tiT))) w2)) := by
    have h16 := HS.out.1
    replace h16 : l.length ≤ 16384 := h16
    have := net_any a c (l.map tiT) at0 w2 (tis_of ht) (by rw [List.length_map]; exact hlc) hcm (pk_of HS.out.2 (by decide)) (by rw [List.length_map]; omega) (HX.out.2.2.below hb)
    rw [List.length_map] at this
    exact this
  obtain ⟨g0, g1, g2, g3, g4, gl⟩ := hbx.five
  have f0 := hbx.2.1 0
  have f1 := hbx.2.1 1
  have f2 := hbx.2.1 2
  have f3 := hbx.2.1 3
  have f4 := hbx.2.1 4
  generalize l.length = ln at *
  clear ht hb hlc hcm hbx hb2 HL HX HS
  by_cases h0 : er = 0
  · subst h0
    have HT : Hid (tx = outF at0 (netF at0 (l.map tiT))) := by show _ = _; rw [HT.out, if_pos rfl]
    generalize outF (at0 : Int) (netF (at0 : Int) (l.map tiT)) = o at *
    obtain ⟨n, z1, z2⟩ := o
    go_wp2_with fail
    refine NC.out.mono ?_
    rintro e w3 ⟨v, he, hn, hb3⟩
    have hn0 := hn.now
    obtain ⟨ac, cc, ap, cp, at_, ct, rfl, -⟩ := hn0
    replace he : e = .returned (.tuple #[.agg #[.slice ac n.colours.length cc, .slice ap n.places.length cp, .slice at_ n.tasks.length ct, .int .i64 n.frm, .int .i64 n.too], .int .i64 z1, .int .i64 z2]) := he
    subst he
    have HN : Hid (∀ v0 v1 v2 v3 v4 : Value, Held (fun b => b < w.heap.size) ((((((w3.setCell ⟨w.heap.size, 0, none⟩ v0).setCell ⟨w.heap.size, 1, none⟩ v1).setCell ⟨w.heap.size, 2, none⟩ v2).setCell ⟨w.heap.size, 3, none⟩ v3).setCell ⟨w.heap.size, 4, none⟩ v4)) (fun W => NetR W n (.agg #[.slice ac n.colours.length cc, .slice ap n.places.length cp, .slice at_ n.tasks.length ct, .int .i64 n.frm, .int .i64 n.too])) ∧ Below w.heap.size w ((((((w3.setCell ⟨w.heap.size, 0, none⟩ v0).setCell ⟨w.heap.size, 1, none⟩ v1).setCell ⟨w.heap.size, 2, none⟩ v2).setCell ⟨w.heap.size, 3, none⟩ v3).setCell ⟨w.heap.size, 4, none⟩ v4))) := fun v0 v1 v2 v3 v4 => by
      have hch : Ch (fun b => b = w.heap.size) w3 ((((((w3.setCell ⟨w.heap.size, 0, none⟩ v0).setCell ⟨w.heap.size, 1, none⟩ v1).setCell ⟨w.heap.size, 2, none⟩ v2).setCell ⟨w.heap.size, 3, none⟩ v3).setCell ⟨w.heap.size, 4, none⟩ v4)) := ((((((Ch.refl (fun b => b = w.heap.size) w3).setCell (b := w.heap.size) (o := 0) (.inl rfl) v0).setCell (b := w.heap.size) (o := 1) (.inl rfl) v1).setCell (b := w.heap.size) (o := 2) (.inl rfl) v2).setCell (b := w.heap.size) (o := 3) (.inl rfl) v3).setCell (b := w.heap.size) (o := 4) (.inl rfl) v4)
      have hw2 : w.heap.size < w2.heap.size := K2.out.1.2.2
      exact ⟨(hn.on (hch.mono fun b _ e => by show b < _; omega)).less (fun b hb => by show b < _; omega), below_part (below_part (below_part (below_part (below_part (then_ K2.out.2 hb3) (Nat.le_refl _) 0 _) (Nat.le_refl _) 1 _) (Nat.le_refl _) 2 _) (Nat.le_refl _) 3 _) (Nat.le_refl _) 4 _⟩
    have hr3 := K2.out.1.below hb3
    clear g0 g1 g2 g3 g4 gl f0 f1 f2 f3 f4
    obtain ⟨g0, g1, g2, g3, g4, gl⟩ := hr3.five
    have f0 := hr3.2.1 0
    have f1 := hr3.2.1 1
    have f2 := hr3.2.1 2
    have f3 := hr3.2.1 3
    have f4 := hr3.2.1 4
    clear hr3 hb3 hn K2 NC
    go_wp2_with fail
    refine bodyPost_ret (v := .tuple #[.agg #[.slice ac n.colours.length cc, .slice ap n.places.length cp, .slice at_ n.tasks.length ct, .int .i64 n.frm, .int .i64 n.too], .int .i64 z1, .int .i64 z2]) ?_ rfl (by rw [HT.out]; exact ⟨_, rfl, (HN.out _ _ _ _ _).1, (HN.out _ _ _ _ _).2⟩)
    simp [results, Tryz.results16, go_sem, g0, g1, g2, g3, g4]
  · have HT : Hid (tx = (net0, (at0 : Int), er)) := by show _ = _; rw [HT.out, if_neg h0]
    have h0' : (er != 0) = true := by simpa using h0
    have HN : Hid (∀ v0 v1 v2 v3 v4 : Value, Below w.heap.size w ((((((w2.setCell ⟨w.heap.size, 0, none⟩ v0).setCell ⟨w.heap.size, 1, none⟩ v1).setCell ⟨w.heap.size, 2, none⟩ v2).setCell ⟨w.heap.size, 3, none⟩ v3).setCell ⟨w.heap.size, 4, none⟩ v4))) := fun v0 v1 v2 v3 v4 => below_part (below_part (below_part (below_part (below_part K2.out.2 (Nat.le_refl _) 0 _) (Nat.le_refl _) 1 _) (Nat.le_refl _) 2 _) (Nat.le_refl _) 3 _) (Nat.le_refl _) 4 _
    clear K2 NC h0
    go_wp2_with fail
    refine bodyPost_ret (v := .tuple #[netZ, .int .i64 at0, .int .i64 er]) ?_ rfl (by rw [HT.out]; exact ⟨netZ, rfl, fun W _ => NetR.zero W, HN.out _ _ _ _ _⟩)
    simp [results, Tryz.results16, go_sem, netZ, g0, g1, g2, g3, g4]

end Go.Proofs.YtjcanodnlnodpaaGreatDoor.Parse
