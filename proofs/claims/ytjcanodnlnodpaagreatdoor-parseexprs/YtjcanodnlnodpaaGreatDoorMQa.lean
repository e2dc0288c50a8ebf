/- Contracts and plain mathematics, together: ParQTok, ParQ, ParQ2, ParQ3, ParQ4, ParQ5, ParQ6. -/
import Derived.Test.YtjcanodnlnodpaaGreatDoorMJoin
import Derived.Test.YtjcanodnlnodpaaGreatDoorMRun
import Derived.Test.YtjcanodnlnodpaaGreatDoorMLex
import Derived.Test.YtjcanodnlnodpaaGreatDoorMChoice
import Derived.Deep.QuietTactic
import Derived.BigQuiet
import Derived.Test.YtjcanodnlnodpaaGreatDoorMInt
/- The document's own digit, Number, Word: contracts of the calls, over the turned program (out of layer 5's texts). -/
namespace Go.Proofs.YtjcanodnlnodpaaGreatDoor.Token
open Go.RowKit Go.Proofs.YtjcanodnlnodpaaGreatDoor.Colour Go.Proofs.YtjcanodnlnodpaaGreatDoor.Frame
set_option linter.unusedVariables false
set_option linter.unusedSimpArgs false


set_option maxHeartbeats 1000000 in
theorem r_letter (c : UInt8) (w : World) : Calls Tryz.prog 96 #[.int .u8 c.toNat] w fun e w' => e = .returned (.bool (let8 c)) ∧ w' = w := by
  have hc : c.toNat < 256 := c.toNat_lt
  go_enter Tryz.func96, Tryz.ntmps96
  go_wp2
  all_goals go_ret
  all_goals exact ⟨retb (by unfold let8 letB; rw [Bool.eq_iff_iff]; simp; try omega), rfl⟩
set_option maxHeartbeats 1000000 in
theorem r_digit (c : UInt8) (w : World) : Calls Tryz.prog 97 #[.int .u8 c.toNat] w fun e w' => e = .returned (.bool (dig8 c)) ∧ w' = w := by
  have hc : c.toNat < 256 := c.toNat_lt
  go_enter Tryz.func97, Tryz.ntmps97
  go_wp2
  all_goals go_ret
  all_goals exact ⟨retb (by unfold dig8 digB; rw [Bool.eq_iff_iff]; simp; try omega), rfl⟩

theorem drop_at {s : ByteArray} {k : Nat} (h : k < s.size) : s.data.toList.drop k = s[k] :: s.data.toList.drop (k + 1) := by
  have h1 : k < s.data.toList.length := by rw [size_list]; exact h
  rw [List.drop_eq_getElem_cons h1]
  congr 1
theorem gap_end {b : Bool} {l : List UInt8} {k : Nat} (h : l.length ≤ k) : gapL b (l.drop k) = [] := by rw [List.drop_of_length_le h]; cases b <;> rfl



theorem val_take {s : ByteArray} {k : Nat} (h : k < s.size) : valL 0 (s.data.toList.take (k + 1)) = valL 0 (s.data.toList.take k) * 10 + ((s[k]).toNat - 48) := by
  have h1 : k < s.data.toList.length := by rw [size_list]; exact h
  rw [List.take_add_one, List.getElem?_eq_getElem h1]
  exact val_dig _ _ _
theorem val_more : ∀ (l m : List UInt8) (a : Nat), valL a l ≤ valL a (l ++ m)
  | [], m, a => val_ge m a
  | c :: l, m, a => by
    show valL (a * 10 + (c.toNat - 48)) l ≤ valL (a * 10 + (c.toNat - 48)) (l ++ m)
    exact val_more l m _
theorem val_take_le (l : List UInt8) (k : Nat) : valL 0 (l.take k) ≤ valL 0 l := by
  have := val_more (l.take k) (l.drop k) 0
  rwa [List.take_append_drop] at this
theorem all_bad {s : ByteArray} {k : Nat} (h : k < s.size) (hd : dig8 s[k] = false) : s.data.toList.all dig8 = false := by
  rw [List.all_eq_false]
  refine ⟨s[k], ?_, by rw [hd]; decide⟩
  show s.data[k] ∈ _
  exact (Array.mem_toList_iff).2 (Array.getElem_mem _)

theorem numB_over {l : List UInt8} (h : ¬ valL 0 l < 9223372036854775808) : numB l = false := by
  unfold numB; rw [Bool.and_eq_false_iff]; exact .inr (decide_eq_false h)
theorem numB_bad {l : List UInt8} (h : l.all dig8 = false) : numB l = false := by
  unfold numB; rw [h]; simp
theorem numB_zero {l : List UInt8} (h : zero8 l = true) : numB l = false := by
  unfold numB; rw [h]; simp
theorem numB_nil {l : List UInt8} (h : l.length = 0) : numB l = false := by
  unfold numB; rw [h]; rfl
theorem numB_yes {l : List UInt8} (h0 : 0 < l.length) (ha : l.all dig8 = true) (hz : zero8 l = false) (hv : valL 0 l < 9223372036854775808) : numB l = true := by
  unfold numB; simp only [Bool.and_eq_true, decide_eq_true_eq]; exact ⟨⟨⟨h0, ha⟩, by rw [hz]; rfl⟩, hv⟩

set_option maxRecDepth 100000 in
set_option maxHeartbeats 1000000 in
theorem r_number (s : ByteArray) (w : World) (hs : s.size ≤ 140737488355328) :
    Calls Tryz.prog 98 #[.string s] w fun e w' => e = numR s.data.toList ∧ w' = w := by
  by_cases h0 : s.size = 0
  · have h0' : ((s.size : Int) == 0) = true := by rw [h0]; rfl
    have E : Hid (numR s.data.toList = .returned (.tuple #[.int .i64 0, .bool false])) := numR_no (numB_nil (by rw [size_list]; exact h0))
    go_enter Tryz.func98, Tryz.ntmps98
    go_wp2
    go_ret2
    exact ⟨by rw [E.out]; rfl, rfl⟩
  have h0' : ((s.size : Int) == 0) = false := beq_eq_false_iff_ne.2 (by omega)
  have hsp : 0 < s.size := by omega
  have hsp' : (0 : Int) < s.size := by omega
  cases hz : zero8 s.data.toList with
  | true =>
    have E : Hid (numR s.data.toList = .returned (.tuple #[.int .i64 0, .bool false])) := numR_no (numB_zero hz)
    have h1 : 1 < s.size := by
      rcases Nat.lt_or_ge 1 s.size with h | h
      · exact h
      · rw [zero_out (by omega)] at hz; cases hz
    have h1' : (1 : Int) < s.size := by omega
    rw [zero_in h1] at hz
    have h48 : (((s[0]'hsp).toNat : Int) == 48) = true := by simp at hz ⊢; omega
    clear hz
    go_enter Tryz.func98, Tryz.ntmps98
    go_wp2
    go_ret2
    exact ⟨by rw [E.out]; rfl, rfl⟩
  | false =>
    have HZ : Hid (zero8 s.data.toList = false) := hz
    have G : Hid ((1 : Int) < s.size → (((s[0]'hsp).toNat : Int) == 48) = false) := fun h => by
      rw [zero_in (by omega)] at hz
      simp at hz ⊢; omega
    clear hz
    have key : ∀ (h48 : ((1 : Int) < s.size ∧ (((s[0]'hsp).toNat : Int) == 48) = false) ∨ ¬ (1 : Int) < s.size), Calls Tryz.prog 98 #[.string s] w fun e w' => e = numR s.data.toList ∧ w' = w := by
      intro h48
      rcases h48 with ⟨g1, g2⟩ | g1
      all_goals
        go_enter Tryz.func98, Tryz.ntmps98
        go_wp2
        go_loop [4, 5] (fun v i => ∃ k n : Nat, k ≤ s.size ∧ i = .int .i64 k ∧ v = .int .i64 n ∧ n ≤ 9223372036854775807 ∧ Hid (n = valL 0 (s.data.toList.take k)) ∧ Hid (∀ j (hj : j < s.size), j < k → dig8 s[j] = true)) (fun _ i => s.size - (intOf i).toNat)
        case atStart => exact ⟨0, 0, by omega, rfl, rfl, by omega, rfl, fun j _ h => by omega⟩
        case round =>
          obtain ⟨k, n, hk, rfl, rfl, hn, HV, HD⟩ := hrel
          by_cases hlt : k < s.size
          · have hlt' : (k : Int) < s.size := by omega
            have hc256 : (s[k]).toNat < 256 := (s[k]).toNat_lt
            cases hd : dig8 (s[k]) with
            | false =>
              have HG : Hid (dig8 s[k] = false) := hd
              have E : Hid (numR s.data.toList = .returned (.tuple #[.int .i64 0, .bool false])) := numR_no (numB_bad (all_bad hlt hd))
              clear hd
              go_wp2_with (go_at_call 97; refine (r_digit _ _).mono ?_; rintro e w' ⟨he, hw⟩; subst he; have hw := hw.symm; subst hw; rw [HG.out])
              go_ret2
              exact ⟨by rw [E.out]; rfl, rfl⟩
            | true =>
              have HG : Hid (dig8 s[k] = true) := hd
              have hc : 48 ≤ (s[k]).toNat ∧ (s[k]).toNat ≤ 57 := by unfold dig8 digB at hd; simp at hd; omega
              obtain ⟨d, hdd⟩ : ∃ d : Nat, (s[k]).toNat = d + 48 := ⟨(s[k]).toNat - 48, by omega⟩
              have hS := val_take hlt
              rw [← HV.out, hdd, Nat.add_sub_cancel] at hS
              have hd9 : d ≤ 9 := by omega
              have HD2 : Hid (∀ j (hj : j < s.size), j < k + 1 → dig8 s[j] = true) := fun j hj hjk => by
                rcases Nat.lt_or_ge j k with h | h
                · exact HD.out j hj h
                · obtain rfl : j = k := by omega
                  exact hd
              have hu : IntKind.u8.wrap (((d : Int) + 48) - 48) = (d : Int) := by simp only [IntKind.wrap_u8]; omega
              have hq : IntKind.i64.wrap ((9223372036854775807 - (d : Int)).tdiv 10) = (9223372036854775807 - (d : Int)) / 10 := by
                rw [Int.tdiv_eq_ediv_of_nonneg (by omega), IntKind.wrap_i64]; omega
              have RD : Hid (∀ wx, Calls Tryz.prog 97 #[.int .u8 ((d : Int) + 48)] wx fun e w' => e = .returned (.bool true) ∧ w' = wx) := fun wx => by
                have h := r_digit s[k] wx
                rw [hd, show (((s[k]).toNat : Nat) : Int) = (d : Int) + 48 by omega] at h
                exact h
              clear hd
              by_cases hov : 9223372036854775807 < n * 10 + d
              · have E : Hid (numR s.data.toList = .returned (.tuple #[.int .i64 0, .bool false])) := numR_no (by
                  have hle := val_take_le s.data.toList (k + 1)
                  rw [hS] at hle
                  exact numB_over (by omega))
                have hov' : (9223372036854775807 - (d : Int)) / 10 < (n : Int) := by omega
                clear hS hov
                go_wp2_with (go_at_call 97; refine (RD.out _).mono ?_; rintro e w' ⟨he, hw⟩; subst he; have hw := hw.symm; subst hw)
                go_ret2
                exact ⟨by rw [E.out]; rfl, rfl⟩
              · have hov' : ¬ (9223372036854775807 - (d : Int)) / 10 < (n : Int) := by omega
                have HS : Hid (n * 10 + d = valL 0 (s.data.toList.take (k + 1))) := hS.symm
                clear hS
                go_wp2_with (go_at_call 97; refine (RD.out _).mono ?_; rintro e w' ⟨he, hw⟩; subst he; have hw := hw.symm; subst hw)
                go_round
                case rel => exact ⟨k + 1, n * 10 + d, by omega, by go_num, by first | (go_num; done) | (congr 1; omega), by omega, HS, HD2⟩
                case measure => simp [intOf]; omega
          · have hlt' : ¬ (k : Int) < s.size := by omega
            have E : Hid (numR s.data.toList = .returned (.tuple #[.int .i64 n, .bool true])) := (show numR _ = _ by
              have hv := HV.out
              rw [List.take_of_length_le (by rw [size_list]; omega)] at hv
              have hall : s.data.toList.all dig8 = true := by
                rw [List.all_eq_true]
                intro c hc
                obtain ⟨j, hj, rfl⟩ := List.getElem_of_mem hc
                have hj' : j < s.size := by simpa using hj
                have := HD.out j hj' (by omega)
                rw [Array.getElem_toList]; exact this
              have hb : numB s.data.toList = true := numB_yes (by rw [size_list]; omega) hall HZ.out (by omega)
              unfold numR numV; rw [hb, ← hv]; rfl)
            go_wp2
            go_ret2
            exact ⟨by rw [E.out]; rfl, rfl⟩
    by_cases g : (1 : Int) < s.size
    · exact key (.inl ⟨g, G.out g⟩)
    · exact key (.inr g)
theorem cells_strs {w : World} {g : Nat} {t : TypeId} (zs : List (List UInt8)) (h : w.heap[g]? = some (.cells (zs.map fun l => Value.string (str l)).toArray t)) (j : Nat) (hj : j < zs.length) : w.cell? ⟨g, j, none⟩ = some (.string (str (zs.getD j []))) := by
  rw [box_cell h, List.getElem?_toArray, List.getElem?_map, List.getD_eq_getElem?_getD, List.getElem?_eq_getElem hj]; rfl

set_option maxRecDepth 100000 in
set_option maxHeartbeats 2000000 in
theorem r_word (s : ByteArray) (w : World) :
    Calls Tryz.prog 83 #[.string s] w fun e w' => e = .returned (.bool (wordB s.data.toList)) ∧ Below w.heap.size w w' := by
  go_enter Tryz.func83, Tryz.ntmps83
  go_wp2
  generalize hW0 : w.alloc _ = W
  have hW : W = w.alloc (.cells (wordsL.map fun l => Value.string (str l)).toArray 9) := by rw [← hW0]; rfl
  have hb : Below w.heap.size w W := by rw [hW]; exact (Below.refl _ _).alloc (Nat.le_refl _) _
  have hc : ∀ j, j < 21 → W.cell? ⟨w.heap.size, j, none⟩ = some (.string (str (wordsL.getD j []))) := fun j hj => cells_strs wordsL (by rw [hW]; exact heap_alloc_new w _) j hj
  have HB : Hid (Below w.heap.size w W) := hb
  have HC : Hid (∀ j, j < 21 → W.cell? ⟨w.heap.size, j, none⟩ = some (.string (str (wordsL.getD j [])))) := hc
  clear hb hc hW hW0
  go_loop [4] (fun i => ∃ k : Nat, k ≤ 21 ∧ i = .int .i64 k ∧ Hid (∀ j, j < k → s.data.toList ≠ wordsL.getD j [])) (fun i => 21 - (intOf i).toNat)
  case atStart => exact ⟨0, by omega, rfl, fun j h => by omega⟩
  case round =>
    obtain ⟨k, hk, rfl, hN⟩ := hrel
    by_cases hlt : k < 21
    · have hlt' : (k : Int) < 21 := by omega
      have c0 := HC.out k hlt
      have hbl := World.block_lt_of_cell? W _ c0
      by_cases he : s.data.toList = wordsL.getD k []
      · have hT : str (wordsL.getD k []) = s := by rw [← he, str_list]
        have E : Hid (wordB s.data.toList = true) := decide_eq_true (by rw [he, List.getD_eq_getElem?_getD, List.getElem?_eq_getElem (show k < wordsL.length from hlt)]; exact List.getElem_mem _)
        rw [hT] at c0
        clear he hT
        go_wp2
        go_ret
        exact ⟨by rw [E.out]; rfl, HB.out⟩
      · have hne : ((str (wordsL.getD k [])).toList == s.toList) = false := by
          rw [Go.ByteArray.toList_eq, Go.ByteArray.toList_eq, str_data]
          exact beq_eq_false_iff_ne.2 (fun e => he e.symm)
        have hN2 : Hid (∀ j, j < k + 1 → s.data.toList ≠ wordsL.getD j []) := fun j hj => by
          rcases Nat.lt_or_ge j k with h | h
          · exact hN.out j h
          · obtain rfl : j = k := by omega
            exact he
        generalize str (wordsL.getD k []) = T at *
        clear he
        go_wp2
        go_round
        case rel => exact ⟨k + 1, by omega, by go_num, hN2⟩
        case measure => simp [intOf]; omega
    · have hlt' : ¬ (k : Int) < 21 := by omega
      have E : Hid (wordB s.data.toList = false) := decide_eq_false fun hm => by
        obtain ⟨j, hj, he⟩ := List.getElem_of_mem hm
        have hj' : j < 21 := hj
        refine hN.out j (by omega) ?_
        rw [List.getD_eq_getElem?_getD, List.getElem?_eq_getElem hj]; exact he.symm
      go_wp2
      go_ret
      exact ⟨by rw [E.out]; rfl, HB.out⟩

end Go.Proofs.YtjcanodnlnodpaaGreatDoor.Token
/- The document's own parser: how it lies in memory; here, fail: contracts of the calls, over the turned program. -/
namespace Go.Proofs.YtjcanodnlnodpaaGreatDoor.Parse
open Go.RowKit Go.Maps Go.Proofs.YtjcanodnlnodpaaGreatDoor.Frame Go.Proofs.YtjcanodnlnodpaaGreatDoor.Token Go.Proofs.YtjcanodnlnodpaaGreatDoor.Expr Go.Proofs.YtjcanodnlnodpaaGreatDoor.Calc
set_option linter.unusedVariables false
set_option linter.unusedSimpArgs false

def QAt (w : World) (p : Nat) (lv : Value) (k : Nat) (en er pl : Int) : Prop :=
  w.cell? ⟨p, 0, none⟩ = some lv ∧ w.cell? ⟨p, 1, none⟩ = some (.int .i64 k) ∧ w.cell? ⟨p, 2, none⟩ = some (.int .i64 en) ∧ w.cell? ⟨p, 3, none⟩ = some (.int .i64 er) ∧ w.cell? ⟨p, 4, none⟩ = some (.int .i64 pl) ∧ ∀ o, w.frozen? ⟨p, o, none⟩ = false
def QCh (p : Nat) (w w' : World) : Prop := Ch (· = p) w w' ∧ ∀ o, (5 ≤ o → w'.cell? ⟨p, o, none⟩ = w.cell? ⟨p, o, none⟩) ∧ w'.frozen? ⟨p, o, none⟩ = w.frozen? ⟨p, o, none⟩
theorem QCh.refl (p : Nat) (w : World) : QCh p w w := ⟨Ch.refl _ _, fun _ => ⟨fun _ => rfl, rfl⟩⟩
theorem QCh.trans {p : Nat} {a b c : World} (h : QCh p a b) (k : QCh p b c) : QCh p a c := ⟨h.1.trans k.1, fun o => ⟨fun ho => ((k.2 o).1 ho).trans ((h.2 o).1 ho), (k.2 o).2.trans (h.2 o).2⟩⟩
theorem QCh.of_below {p : Nat} {w w' : World} (hp : p < w.heap.size) (h : Below w.heap.size w w') : QCh p w w' :=
  ⟨Ch.of_below h, fun o => ⟨fun _ => cell_of_block (h.block p hp) o, frozen_of_block (h.block p hp) o⟩⟩
theorem QCh.set {p o : Nat} {w w' : World} (h : QCh p w w') (ho : o < 5) (v : Value) : QCh p w (w'.setCell ⟨p, o, none⟩ v) :=
  ⟨h.1.setCell (.inl rfl) v, fun o' => ⟨fun h4 => (cell_set_ne (by omega)).trans ((h.2 o').1 h4), by simpa using (h.2 o').2⟩⟩
theorem TIs.at {B : Nat} {w : World} {a : Option Addr} {l : List TI} (h : TIs B w a l) {k : Nat} (hk : k < l.length) : ∃ b off, a = some ⟨b, off, none⟩ ∧ b < B ∧ w.cell? ⟨b, off + k * 3, none⟩ = some (.int .i64 (l.getD k ti0).kind) ∧ w.cell? ⟨b, off + k * 3 + 1, none⟩ = some (.string (str (l.getD k ti0).text)) ∧ w.cell? ⟨b, off + k * 3 + 2, none⟩ = some (.int .i64 (l.getD k ti0).at_) := by
  rcases h with h0 | ⟨b, off, ha, hB, hc⟩
  · rw [h0] at hk; cases hk
  · obtain ⟨h0, h1, h2⟩ := hc k hk
    exact ⟨b, off, ha, hB, h0, h1, h2⟩
theorem plc_drop {en : Int} {l : List TI} {k : Nat} (h : k < l.length) : plc en (l.drop k) = (l.getD k ti0).at_ := by
  rw [List.drop_eq_getElem_cons h, List.getD_eq_getElem?_getD, List.getElem?_eq_getElem h]; rfl

set_option maxRecDepth 100000 in
set_option maxHeartbeats 4000000 in
theorem rhere_any (B p k : Nat) (en er pl : Int) (a : Option Addr) (c : Nat) (l : List TI) (w : World) (h : QAt w p (.slice a l.length c) k en er pl) (hT : TIs B w a l) (hB : B ≤ w.heap.size) (hl : l.length ≤ c) (hcm : c ≤ maxLen) (hk : k ≤ 2000000000) :
    Calls Tryz.prog 92 #[ptr p] w fun e w' => e = .returned (.int .i64 (plc en (l.drop k))) ∧ Below w.heap.size w w' := by
  obtain ⟨h0, h1, h2, -, -, -⟩ := h
  have hp := World.block_lt_of_cell? w _ h0
  have hp : p < w.heap.size := hp
  unfold ptr
  by_cases hlt : k < l.length
  · have hlt' : (k : Int) < (l.length : Nat) := by omega
    have hge : ¬ ((l.length : Nat) : Int) ≤ (k : Int) := by omega
    obtain ⟨b, off, rfl, hbB, -, -, c2⟩ := hT.at hlt
    have hbw : b < w.heap.size := by omega
    rw [plc_drop hlt]
    generalize (l.getD k ti0).at_ = z at *
    generalize l.length = n at *
    clear hT
    go_enter Tryz.func92, Tryz.ntmps92
    go_wp2_with fail
    go_quiet (fail)
    go_wp2_with fail
    generalize hwq : w.drewN _ = wq
    have hb : Below w.heap.size w wq := by rw [← hwq]; exact below_drewN (Below.refl _ _) _
    have HB : Hid (Below w.heap.size w wq) := hb
    have g0 := (hb.cell (p := ⟨p, 0, none⟩) hp).trans h0
    have g1 := (hb.cell (p := ⟨p, 1, none⟩) hp).trans h1
    have g2 := (hb.cell (p := ⟨b, off + k * 3 + 2, none⟩) hbw).trans c2
    have gp : p < wq.heap.size := by have := hb.size; omega
    have gb : b < wq.heap.size := by have := hb.size; omega
    clear h0 h1 h2 c2 hb hwq
    go_quiet (fail)
    go_wp2_with fail
    go_ret
    exact ⟨rfl, below_drewN HB.out _⟩
  · have hge : ((l.length : Nat) : Int) ≤ (k : Int) := by omega
    have hd : l.drop k = [] := List.drop_of_length_le (by omega)
    rw [hd]
    show Calls _ _ _ _ fun e w' => e = .returned (.int .i64 en) ∧ Below w.heap.size w w'
    generalize l.length = n at *
    clear hT hd hlt
    go_enter Tryz.func92, Tryz.ntmps92
    go_wp2_with fail
    go_quiet (fail)
    go_wp2_with fail
    go_ret
    exact ⟨rfl, below_drewN (Below.refl _ _) _⟩
end Go.Proofs.YtjcanodnlnodpaaGreatDoor.Parse
/- The document's own parser: peek: a contract of the call, over the turned program. -/
namespace Go.Proofs.YtjcanodnlnodpaaGreatDoor.Parse
open Go.RowKit Go.Maps Go.Proofs.YtjcanodnlnodpaaGreatDoor.Frame Go.Proofs.YtjcanodnlnodpaaGreatDoor.Token Go.Proofs.YtjcanodnlnodpaaGreatDoor.Expr Go.Proofs.YtjcanodnlnodpaaGreatDoor.Calc
set_option linter.unusedVariables false
set_option linter.unusedSimpArgs false

def peekS : St → List UInt8
  | .ok r => peekL (r.map ktI)
  | .error _ => []
theorem peek_cons (t : TI) (r : List TI) : peekL ((t :: r).map ktI) = if t.kind = 3 ∨ t.kind = 1 ∧ wordB t.text = true then t.text else [] := rfl

set_option maxRecDepth 100000 in
set_option maxHeartbeats 4000000 in
theorem rpeek_dead (p k : Nat) (en er pl : Int) (lv : Value) (w : World) (h : QAt w p lv k en er pl) (he : er ≠ 0) :
    Calls Tryz.prog 37 #[ptr p] w fun e w' => e = .returned (.string (str [])) ∧ Below w.heap.size w w' := by
  obtain ⟨h0, h1, h2, h3, -, -⟩ := h
  have hp : p < w.heap.size := World.block_lt_of_cell? w _ h0
  have he' : (er != 0) = true := by simpa using he
  clear he
  unfold ptr
  go_enter Tryz.func37, Tryz.ntmps37
  go_wp2_with fail
  go_quiet (fail)
  go_wp2_with fail
  go_ret
  exact ⟨rfl, below_drewN (Below.refl _ _) _⟩
set_option maxRecDepth 100000 in
set_option maxHeartbeats 4000000 in
theorem rpeek_end (p k : Nat) (en pl : Int) (a : Option Addr) (n c : Nat) (w : World) (h : QAt w p (.slice a n c) k en 0 pl) (hk : n ≤ k) :
    Calls Tryz.prog 37 #[ptr p] w fun e w' => e = .returned (.string (str [])) ∧ Below w.heap.size w w' := by
  obtain ⟨h0, h1, h2, h3, -, -⟩ := h
  have hp : p < w.heap.size := World.block_lt_of_cell? w _ h0
  have hge : ((n : Nat) : Int) ≤ (k : Int) := by omega
  clear hk
  unfold ptr
  go_enter Tryz.func37, Tryz.ntmps37
  go_wp2_with fail
  go_quiet (fail)
  go_wp2_with fail
  go_ret
  exact ⟨rfl, below_drewN (Below.refl _ _) _⟩
set_option maxRecDepth 100000 in
set_option maxHeartbeats 4000000 in
theorem rpeek_sign (p k n c b off : Nat) (en pl z : Int) (T : ByteArray) (w : World) (h : QAt w p (.slice (some ⟨b, off, none⟩) n c) k en 0 pl) (hk : k < n) (hn : n ≤ c) (hc : c ≤ maxLen) (hbw : b < w.heap.size)
    (c0 : w.cell? ⟨b, off + k * 3, none⟩ = some (.int .i64 3)) (c1 : w.cell? ⟨b, off + k * 3 + 1, none⟩ = some (.string T)) (c2 : w.cell? ⟨b, off + k * 3 + 2, none⟩ = some (.int .i64 z)) :
    Calls Tryz.prog 37 #[ptr p] w fun e w' => e = .returned (.string T) ∧ Below w.heap.size w w' := by
  obtain ⟨h0, h1, h2, h3, -, -⟩ := h
  have hp : p < w.heap.size := World.block_lt_of_cell? w _ h0
  have hlt : (k : Int) < (n : Nat) := by omega
  have hge : ¬ ((n : Nat) : Int) ≤ (k : Int) := by omega
  unfold ptr
  go_enter Tryz.func37, Tryz.ntmps37
  go_wp2_with fail
  go_quiet (fail)
  go_wp2_with fail
  generalize hwq : w.drewN _ = wq
  have hb : Below w.heap.size w wq := by rw [← hwq]; exact below_drewN (Below.refl _ _) _
  have HB : Hid (Below w.heap.size w wq) := hb
  have g0 := (hb.cell (p := ⟨p, 0, none⟩) hp).trans h0
  have g1 := (hb.cell (p := ⟨p, 1, none⟩) hp).trans h1
  have e0 := (hb.cell (p := ⟨b, off + k * 3, none⟩) hbw).trans c0
  have e1 := (hb.cell (p := ⟨b, off + k * 3 + 1, none⟩) hbw).trans c1
  have e2 := (hb.cell (p := ⟨b, off + k * 3 + 2, none⟩) hbw).trans c2
  have gp : p < wq.heap.size := by have := hb.size; omega
  have gb : b < wq.heap.size := by have := hb.size; omega
  clear h0 h1 h2 h3 c0 c1 c2 hb hwq
  go_region
  all_goals
    go_wp2_with fail
    go_ret
    exact ⟨rfl, by first | exact (below_drewN HB.out _).alloc (by have := HB.out.size; simp; omega) _ | exact (HB.out.drew).alloc (by have := HB.out.size; simp; omega) _⟩
set_option maxRecDepth 100000 in
set_option maxHeartbeats 4000000 in
theorem rpeek_word (p k n c b off : Nat) (en pl z : Int) (T : ByteArray) (w : World) (h : QAt w p (.slice (some ⟨b, off, none⟩) n c) k en 0 pl) (hk : k < n) (hn : n ≤ c) (hc : c ≤ maxLen) (hbw : b < w.heap.size)
    (c0 : w.cell? ⟨b, off + k * 3, none⟩ = some (.int .i64 1)) (c1 : w.cell? ⟨b, off + k * 3 + 1, none⟩ = some (.string T)) (hw : wordB T.data.toList = true) (c2 : w.cell? ⟨b, off + k * 3 + 2, none⟩ = some (.int .i64 z)) :
    Calls Tryz.prog 37 #[ptr p] w fun e w' => e = .returned (.string T) ∧ Below w.heap.size w w' := by
  obtain ⟨h0, h1, h2, h3, -, -⟩ := h
  have hp : p < w.heap.size := World.block_lt_of_cell? w _ h0
  have hlt : (k : Int) < (n : Nat) := by omega
  have hge : ¬ ((n : Nat) : Int) ≤ (k : Int) := by omega
  have HW : Hid (wordB T.data.toList = true) := hw
  clear hw
  unfold ptr
  go_enter Tryz.func37, Tryz.ntmps37
  go_wp2_with fail
  go_quiet (fail)
  go_wp2_with fail
  generalize hwq : w.drewN _ = wq
  have hb : Below w.heap.size w wq := by rw [← hwq]; exact below_drewN (Below.refl _ _) _
  have HB : Hid (Below w.heap.size w wq) := hb
  have g0 := (hb.cell (p := ⟨p, 0, none⟩) hp).trans h0
  have g1 := (hb.cell (p := ⟨p, 1, none⟩) hp).trans h1
  have e0 := (hb.cell (p := ⟨b, off + k * 3, none⟩) hbw).trans c0
  have e1 := (hb.cell (p := ⟨b, off + k * 3 + 1, none⟩) hbw).trans c1
  have e2 := (hb.cell (p := ⟨b, off + k * 3 + 2, none⟩) hbw).trans c2
  have gp : p < wq.heap.size := by have := hb.size; omega
  have gb : b < wq.heap.size := by have := hb.size; omega
  clear h0 h1 h2 h3 c0 c1 c2 hb hwq
  go_region
  all_goals
    go_wp2_with (go_at_call 83; refine (r_word _ _).mono ?_; rintro e w' ⟨he, hbw2⟩; subst he; rw [HW.out]; have hx := (((Bx.new wq #[.int .i64 1, .string T, .int .i64 z] 49).below (Below.refl _ _).drew).below hbw2).three; have d1 : w'.cell? ⟨wq.heap.size, 1, none⟩ = some (.string T) := hx.2.1; have dl : wq.heap.size < w'.heap.size := hx.2.2.2; clear hx)
    go_ret
    exact ⟨rfl, by first | exact then_ ((below_drewN HB.out _).alloc (by have := HB.out.size; simp; omega) _) hbw2 | exact then_ ((HB.out.drew).alloc (by have := HB.out.size; simp; omega) _) hbw2⟩
set_option maxRecDepth 100000 in
set_option maxHeartbeats 4000000 in
theorem rpeek_name (p k n c b off : Nat) (en pl z : Int) (T : ByteArray) (w : World) (h : QAt w p (.slice (some ⟨b, off, none⟩) n c) k en 0 pl) (hk : k < n) (hn : n ≤ c) (hc : c ≤ maxLen) (hbw : b < w.heap.size)
    (c0 : w.cell? ⟨b, off + k * 3, none⟩ = some (.int .i64 1)) (c1 : w.cell? ⟨b, off + k * 3 + 1, none⟩ = some (.string T)) (hw : wordB T.data.toList = false) (c2 : w.cell? ⟨b, off + k * 3 + 2, none⟩ = some (.int .i64 z)) :
    Calls Tryz.prog 37 #[ptr p] w fun e w' => e = .returned (.string (str [])) ∧ Below w.heap.size w w' := by
  obtain ⟨h0, h1, h2, h3, -, -⟩ := h
  have hp : p < w.heap.size := World.block_lt_of_cell? w _ h0
  have hlt : (k : Int) < (n : Nat) := by omega
  have hge : ¬ ((n : Nat) : Int) ≤ (k : Int) := by omega
  have HW : Hid (wordB T.data.toList = false) := hw
  clear hw
  unfold ptr
  go_enter Tryz.func37, Tryz.ntmps37
  go_wp2_with fail
  go_quiet (fail)
  go_wp2_with fail
  generalize hwq : w.drewN _ = wq
  have hb : Below w.heap.size w wq := by rw [← hwq]; exact below_drewN (Below.refl _ _) _
  have HB : Hid (Below w.heap.size w wq) := hb
  have g0 := (hb.cell (p := ⟨p, 0, none⟩) hp).trans h0
  have g1 := (hb.cell (p := ⟨p, 1, none⟩) hp).trans h1
  have e0 := (hb.cell (p := ⟨b, off + k * 3, none⟩) hbw).trans c0
  have e1 := (hb.cell (p := ⟨b, off + k * 3 + 1, none⟩) hbw).trans c1
  have e2 := (hb.cell (p := ⟨b, off + k * 3 + 2, none⟩) hbw).trans c2
  have gp : p < wq.heap.size := by have := hb.size; omega
  have gb : b < wq.heap.size := by have := hb.size; omega
  clear h0 h1 h2 h3 c0 c1 c2 hb hwq
  go_region
  all_goals
    go_wp2_with (go_at_call 83; refine (r_word _ _).mono ?_; rintro e w' ⟨he, hbw2⟩; subst he; rw [HW.out])
    go_ret
    exact ⟨rfl, by first | exact then_ ((below_drewN HB.out _).alloc (by have := HB.out.size; simp; omega) _) hbw2 | exact then_ ((HB.out.drew).alloc (by have := HB.out.size; simp; omega) _) hbw2⟩
set_option maxRecDepth 100000 in
set_option maxHeartbeats 4000000 in
theorem rpeek_other (p k n c b off : Nat) (en pl z kd : Int) (T : ByteArray) (w : World) (h : QAt w p (.slice (some ⟨b, off, none⟩) n c) k en 0 pl) (hk : k < n) (hn : n ≤ c) (hc : c ≤ maxLen) (hbw : b < w.heap.size)
    (c0 : w.cell? ⟨b, off + k * 3, none⟩ = some (.int .i64 kd)) (c1 : w.cell? ⟨b, off + k * 3 + 1, none⟩ = some (.string T)) (h3k : ¬ kd = 3) (h1k : ¬ kd = 1) (c2 : w.cell? ⟨b, off + k * 3 + 2, none⟩ = some (.int .i64 z)) :
    Calls Tryz.prog 37 #[ptr p] w fun e w' => e = .returned (.string (str [])) ∧ Below w.heap.size w w' := by
  obtain ⟨h0, h1, h2, h3, -, -⟩ := h
  have hp : p < w.heap.size := World.block_lt_of_cell? w _ h0
  have hlt : (k : Int) < (n : Nat) := by omega
  have hge : ¬ ((n : Nat) : Int) ≤ (k : Int) := by omega
  have h3' : (kd == 3) = false := by simpa using h3k
  have h1' : (kd == 1) = false := by simpa using h1k
  clear h3k h1k
  unfold ptr
  go_enter Tryz.func37, Tryz.ntmps37
  go_wp2_with fail
  go_quiet (fail)
  go_wp2_with fail
  generalize hwq : w.drewN _ = wq
  have hb : Below w.heap.size w wq := by rw [← hwq]; exact below_drewN (Below.refl _ _) _
  have HB : Hid (Below w.heap.size w wq) := hb
  have g0 := (hb.cell (p := ⟨p, 0, none⟩) hp).trans h0
  have g1 := (hb.cell (p := ⟨p, 1, none⟩) hp).trans h1
  have e0 := (hb.cell (p := ⟨b, off + k * 3, none⟩) hbw).trans c0
  have e1 := (hb.cell (p := ⟨b, off + k * 3 + 1, none⟩) hbw).trans c1
  have e2 := (hb.cell (p := ⟨b, off + k * 3 + 2, none⟩) hbw).trans c2
  have gp : p < wq.heap.size := by have := hb.size; omega
  have gb : b < wq.heap.size := by have := hb.size; omega
  clear h0 h1 h2 h3 c0 c1 c2 hb hwq
  go_region
  all_goals
    go_wp2_with fail
    go_ret
    exact ⟨rfl, by first | exact (below_drewN HB.out _).alloc (by have := HB.out.size; simp; omega) _ | exact (HB.out.drew).alloc (by have := HB.out.size; simp; omega) _⟩

def QS (B : Nat) (w : World) (p : Nat) (en : Int) (l : List TI) (st : St) : Prop :=
  (B ≤ p ∧ p < w.heap.size) ∧ ∃ (a : Option Addr) (c k : Nat) (er pl : Int), QAt w p (.slice a l.length c) k en er pl ∧ TIs B w a l ∧ (l.length ≤ c ∧ c ≤ maxLen ∧ l.length ≤ 1000000000 ∧ k ≤ l.length ∧ Pk l) ∧ match st with | .ok r => er = 0 ∧ r = l.drop k | .error x => er = x.2 ∧ pl = x.1 ∧ x.2 ≠ 0
theorem rpeek_any (B p : Nat) (en : Int) (l : List TI) (st : St) (w : World) (h : QS B w p en l st) :
    Calls Tryz.prog 37 #[ptr p] w fun e w' => e = .returned (.string (str (peekS st))) ∧ Below w.heap.size w w' := by
  obtain ⟨⟨hB, hp⟩, a, c, k, er, pl, hq, hT, ⟨h1, h2, h3, h4, h5⟩, hs⟩ := h
  cases st with
  | error x =>
    obtain ⟨e1, e2, e3⟩ := hs
    exact rpeek_dead p k en er pl _ w hq (by rw [e1]; exact e3)
  | ok r =>
    obtain ⟨e1, e2⟩ := hs
    subst e1 e2
    by_cases hk : k < l.length
    · obtain ⟨b, off, rfl, hbB, c0, c1, c2⟩ := hT.at hk
      have hbw : b < w.heap.size := by omega
      have hd : l.drop k = l.getD k ti0 :: l.drop (k + 1) := by
        rw [List.drop_eq_getElem_cons hk, List.getD_eq_getElem?_getD, List.getElem?_eq_getElem hk]; rfl
      have hP : peekS (.ok (l.drop k)) = if (l.getD k ti0).kind = 3 ∨ (l.getD k ti0).kind = 1 ∧ wordB (l.getD k ti0).text = true then (l.getD k ti0).text else [] := by
        show peekL ((l.drop k).map ktI) = _
        rw [hd, peek_cons]
      rw [hP]
      generalize l.getD k ti0 = t at *
      obtain ⟨kd, tx, z⟩ := t
      by_cases k3 : kd = 3
      · subst k3
        rw [if_pos (.inl rfl)]
        exact rpeek_sign p k l.length c b off en pl z (str tx) w hq hk h1 h2 hbw c0 c1 c2
      · by_cases k1 : kd = 1
        · subst k1
          cases hw : wordB tx with
          | true => rw [if_pos (.inr ⟨rfl, rfl⟩)]; exact rpeek_word p k l.length c b off en pl z (str tx) w hq hk h1 h2 hbw c0 c1 hw c2
          | false => rw [if_neg (fun h => by rcases h with h | ⟨_, h⟩; exact k3 h; cases h)]; exact rpeek_name p k l.length c b off en pl z (str tx) w hq hk h1 h2 hbw c0 c1 hw c2
        · rw [if_neg (fun h => by rcases h with h | ⟨h, _⟩; exact k3 h; exact k1 h)]
          exact rpeek_other p k l.length c b off en pl z kd (str tx) w hq hk h1 h2 hbw c0 c1 k3 k1 c2
    · have : l.drop k = [] := List.drop_of_length_le (by omega)
      rw [this]
      exact rpeek_end p k en pl a l.length c w hq (by omega)
end Go.Proofs.YtjcanodnlnodpaaGreatDoor.Parse
/- The document's own parser: fail, want: contracts of the calls, over the turned program. -/
namespace Go.Proofs.YtjcanodnlnodpaaGreatDoor.Parse
open Go.RowKit Go.Maps Go.Proofs.YtjcanodnlnodpaaGreatDoor.Frame Go.Proofs.YtjcanodnlnodpaaGreatDoor.Token Go.Proofs.YtjcanodnlnodpaaGreatDoor.Expr Go.Proofs.YtjcanodnlnodpaaGreatDoor.Calc
set_option linter.unusedVariables false
set_option linter.unusedSimpArgs false

theorem QAt.ch {p : Nat} {w w' : World} {lv : Value} {k : Nat} {en er pl : Int} (h : QAt w p lv k en er pl) (hb : Below w.heap.size w w') : QAt w' p lv k en er pl := by
  obtain ⟨h0, h1, h2, h3, h4, hf⟩ := h
  have hp : p < w.heap.size := World.block_lt_of_cell? w _ h0
  exact ⟨(hb.cell (p := ⟨p, 0, none⟩) hp).trans h0, (hb.cell (p := ⟨p, 1, none⟩) hp).trans h1, (hb.cell (p := ⟨p, 2, none⟩) hp).trans h2, (hb.cell (p := ⟨p, 3, none⟩) hp).trans h3, (hb.cell (p := ⟨p, 4, none⟩) hp).trans h4, fun o => (frozen_of_block (hb.block p hp) o).trans (hf o)⟩
theorem QS.below {B p : Nat} {en : Int} {l : List TI} {st : St} {w w' : World} (h : QS B w p en l st) (hb : Below w.heap.size w w') : QS B w' p en l st := by
  obtain ⟨⟨hB, hp⟩, a, c, k, er, pl, hq, hT, hz, hs⟩ := h
  exact ⟨⟨hB, Nat.lt_of_lt_of_le hp hb.size⟩, a, c, k, er, pl, hq.ch hb, hT.below (hb.mono (by omega)), hz, hs⟩
theorem QCh.mono_tis {B p : Nat} {w w' : World} (hc : QCh p w w') (hB : B ≤ p) (hp : p < w.heap.size) {a : Option Addr} {l : List TI} (hT : TIs B w a l) : TIs B w' a l :=
  hT.below (hc.1.below (by omega) (fun b hb => by subst hb; exact hB))

set_option maxRecDepth 100000 in
set_option maxHeartbeats 4000000 in
theorem rfail_any (B p : Nat) (en : Int) (l : List TI) (st : St) (er0 : Int) (w : World) (h : QS B w p en l st) (he : er0 ≠ 0) :
    Calls Tryz.prog 41 #[ptr p, .int .i64 er0] w fun e w' => e = .returned (.tuple #[]) ∧ QS B w' p en l (failS st (hereF en st).at_ er0) ∧ QCh p w w' := by
  have H : Hid (QS B w p en l st) := h
  have HE : Hid (er0 ≠ 0) := he
  obtain ⟨⟨hB, hp⟩, a, c, k, er, pl, hq, hT, ⟨z1, z2, z3, z4, z5⟩, hs⟩ := h
  cases st with
  | error x =>
    obtain ⟨e1, e2, e3⟩ := hs
    obtain ⟨h0, h1, h2, h3, h4, hf⟩ := hq
    have hx : (er == 0) = false := by rw [e1]; simpa using e3
    clear e1 e2 e3 hT he hf z5
    unfold ptr
    go_enter Tryz.func41, Tryz.ntmps41
    go_wp2_with fail
    go_end0
    exact ⟨rfl, H.out, QCh.refl _ _⟩
  | ok r =>
    obtain ⟨e1, e2⟩ := hs
    subst e1 e2
    rw [here_plc]
    obtain ⟨h0, h1, h2, h3, h4, hf⟩ := hq
    have f3 := hf 3
    have f4 := hf 4
    have HC : Hid (QCh p w (w.setCell ⟨p, 3, none⟩ (.int .i64 er0))) := (QCh.refl p w).set (show 3 < 5 by decide) _
    have HQ : Hid (QAt (w.setCell ⟨p, 3, none⟩ (.int .i64 er0)) p (.slice a l.length c) k en er0 pl) := ⟨(cell_set_ne (by omega)).trans h0, (cell_set_ne (by omega)).trans h1, (cell_set_ne (by omega)).trans h2, cell_set_eq h3, (cell_set_ne (by omega)).trans h4, fun o => by simpa using hf o⟩
    have HT : Hid (TIs B (w.setCell ⟨p, 3, none⟩ (.int .i64 er0)) a l ∧ Pk l) := ⟨QCh.mono_tis HC.out hB hp hT, z5⟩
    have CH : Hid (Calls Tryz.prog 92 #[.pointer (some ⟨p, 0, none⟩)] (w.setCell ⟨p, 3, none⟩ (.int .i64 er0)) fun e w' => e = .returned (.int .i64 (plc en (l.drop k))) ∧ Below (w.setCell ⟨p, 3, none⟩ (.int .i64 er0)).heap.size (w.setCell ⟨p, 3, none⟩ (.int .i64 er0)) w') :=
      rhere_any B p k en er0 pl a c l _ HQ.out HT.out.1 (by simp; omega) z1 z2 (by omega)
    have HZ : Hid (l.length ≤ c ∧ c ≤ maxLen ∧ l.length ≤ 1000000000 ∧ k ≤ l.length ∧ B ≤ p) := ⟨z1, z2, z3, z4, hB⟩
    show Calls _ _ _ _ fun e w' => e = .returned (.tuple #[]) ∧ QS B w' p en l (.error (plc en (l.drop k), er0)) ∧ QCh p w w'
    generalize plc en (l.drop k) = pz at *
    clear hT hf z5 he
    unfold ptr
    go_enter Tryz.func41, Tryz.ntmps41
    go_wp2_with fail
    refine CH.out.mono ?_
    rintro e w1 ⟨he, hb⟩
    subst he
    have hq1 := HQ.out.ch hb
    have HB : Hid (Below (w.setCell ⟨p, 3, none⟩ (.int .i64 er0)).heap.size (w.setCell ⟨p, 3, none⟩ (.int .i64 er0)) w1 ∧ QAt w1 p (.slice a l.length c) k en er0 pl) := ⟨hb, hq1⟩
    have g4 := hq1.2.2.2.2.1
    have gf := hq1.2.2.2.2.2 4
    have gp : p < w1.heap.size := by have := hb.size; simp at this; omega
    clear hb hq1 h0 h1 h2 h3 h4 f3 f4
    go_wp2_with fail
    go_end0
    have hc1 : QCh p w w1 := HC.out.trans (QCh.of_below (by simp; omega) HB.out.1)
    have hc2 : QCh p w (w1.setCell ⟨p, 4, none⟩ (.int .i64 pz)) := hc1.set (show 4 < 5 by decide) _
    obtain ⟨i0, i1, i2, i3, i4, i5⟩ := HB.out.2
    obtain ⟨y1, y2, y3, y4, y5⟩ := HZ.out
    have hT1 : TIs B w1 a l := HT.out.1.below (HB.out.1.mono (by simp; omega))
    refine ⟨rfl, ⟨⟨y5, by simp; omega⟩, a, c, k, er0, pz, ⟨(cell_set_ne (by omega)).trans i0, (cell_set_ne (by omega)).trans i1, (cell_set_ne (by omega)).trans i2, (cell_set_ne (by omega)).trans i3, cell_set_eq i4, fun o => by simpa using i5 o⟩, ?_, ⟨y1, y2, y3, y4, HT.out.2⟩, rfl, rfl, HE.out⟩, hc2⟩
    exact QCh.mono_tis ((QCh.refl p w1).set (show 4 < 5 by decide) _) y5 gp hT1
end Go.Proofs.YtjcanodnlnodpaaGreatDoor.Parse
/- The document's own parser: want, name, number: contracts of the calls, over the turned program. -/
namespace Go.Proofs.YtjcanodnlnodpaaGreatDoor.Parse
open Go.RowKit Go.Maps Go.Proofs.YtjcanodnlnodpaaGreatDoor.Frame Go.Proofs.YtjcanodnlnodpaaGreatDoor.Token Go.Proofs.YtjcanodnlnodpaaGreatDoor.Expr Go.Proofs.YtjcanodnlnodpaaGreatDoor.Calc
set_option linter.unusedVariables false
set_option linter.unusedSimpArgs false

theorem qadv {B p : Nat} {en pl : Int} {l : List TI} {a : Option Addr} {c k : Nat} {w : World} (hB : B ≤ p) (hp : p < w.heap.size) (hq : QAt w p (.slice a l.length c) k en 0 pl) (hT : TIs B w a l) (hz : l.length ≤ c ∧ c ≤ maxLen ∧ l.length ≤ 1000000000 ∧ k ≤ l.length ∧ Pk l) (hk : k < l.length) :
    QS B (w.setCell ⟨p, 1, none⟩ (.int .i64 ((k : Int) + 1))) p en l (.ok (l.drop k).tail) ∧ QCh p w (w.setCell ⟨p, 1, none⟩ (.int .i64 ((k : Int) + 1))) := by
  have hc : QCh p w (w.setCell ⟨p, 1, none⟩ (.int .i64 ((k : Int) + 1))) := (QCh.refl p w).set (show 1 < 5 by decide) _
  obtain ⟨h0, h1, h2, h3, h4, hf⟩ := hq
  obtain ⟨z1, z2, z3, z4, z5⟩ := hz
  refine ⟨⟨⟨hB, by simpa using hp⟩, a, c, k + 1, 0, pl, ⟨(cell_set_ne (by omega)).trans h0, ?_, (cell_set_ne (by omega)).trans h2, (cell_set_ne (by omega)).trans h3, (cell_set_ne (by omega)).trans h4, fun o => by simpa using hf o⟩, QCh.mono_tis hc hB hp hT, ⟨z1, z2, z3, by omega, z5⟩, rfl, ?_⟩, hc⟩
  · rw [show (((k + 1 : Nat)) : Int) = (k : Int) + 1 by omega]
    exact cell_set_eq h1
  · rw [List.tail_drop]
theorem peekS_took {st : St} {s : List UInt8} (hs : s ≠ []) : tookB st s = decide (peekS st = s) := by
  cases st with
  | error e => exact (decide_eq_false fun h => hs h.symm).symm
  | ok r => rfl
theorem took_ok {st : St} {s : List UInt8} (h : tookB st s = true) (hs : s ≠ []) : ∃ r, st = .ok r ∧ peekL (r.map ktI) = s ∧ r ≠ [] := by
  cases st with
  | error e => cases h
  | ok r =>
    have h : peekL (r.map ktI) = s := of_decide_eq_true h
    exact ⟨r, rfl, h, fun e => by subst e; exact hs h.symm⟩
theorem drop_lt {α : Type} {l : List α} {k : Nat} (h : l.drop k ≠ []) : k < l.length := by
  by_cases h1 : k < l.length
  · exact h1
  · exact absurd (List.drop_of_length_le (by omega)) h

def WantPost (B p : Nat) (en : Int) (l : List TI) (st : St) (s : List UInt8) (w w' : World) : Prop := ∃ st', QS B w' p en l st' ∧ QCh p w w' ∧ Res en st (wantP s) st' fun _ => True
set_option maxRecDepth 100000 in
set_option maxHeartbeats 4000000 in
theorem rwant_any (B p : Nat) (en : Int) (l : List TI) (st : St) (s : ByteArray) (sl : List UInt8) (w : World) (h : QS B w p en l st) (hs : s.data.toList = sl) (hn : sl ≠ []) :
    Calls Tryz.prog 42 #[ptr p, .string s] w fun e w' => e = .returned (.tuple #[]) ∧ WantPost B p en l st sl w w' := by
  have H : Hid (QS B w p en l st) := h
  have HM : Hid (_ ∧ _) := must_res (en := en) (st := st) hn
  have hp : p < w.heap.size := h.1.2
  have hne : s.toList.isEmpty = false := by
    rw [Go.ByteArray.toList_eq, List.isEmpty_eq_false_iff, hs]; exact hn
  cases hb : tookB st sl with
  | true =>
    obtain ⟨r, rfl, hr, hr2⟩ := took_ok hb hn
    have HB : Hid (tookB (.ok r) sl = true) := hb
    have hpk : str (peekS (.ok r)) = s := by
      show str (peekL (r.map ktI)) = s
      rw [hr, ← hs, str_list]
    have CP : Hid (Calls Tryz.prog 37 #[.pointer (some ⟨p, 0, none⟩)] w fun e w' => e = .returned (.string s) ∧ Below w.heap.size w w') := by
      have := rpeek_any B p en l (.ok r) w h
      rwa [hpk] at this
    obtain ⟨⟨hB, -⟩, a, c, k, er, pl, hq, hT, hz, e1, e2⟩ := h
    subst e1 e2
    have hk := drop_lt hr2
    have HQ : Hid ((QAt w p (.slice a l.length c) k en 0 pl ∧ TIs B w a l) ∧ (l.length ≤ c ∧ c ≤ maxLen ∧ l.length ≤ 1000000000 ∧ k ≤ l.length ∧ Pk l) ∧ k < l.length ∧ B ≤ p) := ⟨⟨hq, hT⟩, hz, hk, hB⟩
    have hkk : (k : Int) + 1 < 9223372036854775808 := by have := hz.2.2.1; omega
    have HT2 : Hid (tookS (.ok (l.drop k)) sl = .ok (l.drop k).tail) := by show (if peekL ((l.drop k).map ktI) = sl then _ else _) = _; rw [if_pos hr]
    clear hq hT hz hr hr2 hb hs hn hpk hk
    unfold ptr
    go_enter Tryz.func42, Tryz.ntmps42
    go_wp2_with fail
    refine CP.out.mono ?_
    rintro e w1 ⟨he, hb⟩
    subst he
    have hq1 := HQ.out.1.1.ch hb
    have HB1 : Hid (Below w.heap.size w w1) := hb
    have g1 := hq1.2.1
    have gf := hq1.2.2.2.2.2 1
    have gp : p < w1.heap.size := by have := hb.size; omega
    have H1 : Hid (QAt w1 p (.slice a l.length c) k en 0 pl ∧ TIs B w1 a l) := ⟨hq1, HQ.out.1.2.below (hb.mono (by have := HQ.out.2.2.2; omega))⟩
    clear hb hq1
    go_wp2_with fail
    go_end0
    obtain ⟨q1, q2⟩ := qadv HQ.out.2.2.2 gp H1.out.1 H1.out.2 HQ.out.2.1 HQ.out.2.2.1
    refine ⟨rfl, _, q1, (QCh.of_below hp HB1.out).trans q2, ?_⟩
    have := HM.out.1 HB.out
    rwa [HT2.out] at this
  | false =>
    have HB : Hid (tookB st sl = false) := hb
    have hpk : ((str (peekS st)).toList == s.toList) = false := by
      rw [peekS_took hn] at hb
      have hb := of_decide_eq_false hb
      rw [Go.ByteArray.toList_eq, Go.ByteArray.toList_eq]
      exact beq_eq_false_iff_ne.2 fun e => hb (by rw [← hs, ← e, str_data])
    have hpk2 : ((str (peekS st)).toList != s.toList) = true := by unfold bne; rw [hpk]; rfl
    have CP : Hid (Calls Tryz.prog 37 #[.pointer (some ⟨p, 0, none⟩)] w fun e w' => e = .returned (.string (str (peekS st))) ∧ Below w.heap.size w w') := rpeek_any B p en l st w h
    generalize str (peekS st) = T at *
    clear h hb hs hn
    unfold ptr
    go_enter Tryz.func42, Tryz.ntmps42
    go_wp2_with fail
    refine CP.out.mono ?_
    rintro e w1 ⟨he, hb⟩
    subst he
    have HB1 : Hid (Below w.heap.size w w1) := hb
    clear hb
    go_wp2_with fail
    refine (rfail_any B p en l st 4 w1 (H.out.below HB1.out) (by decide)).mono ?_
    rintro e w2 ⟨he, h2⟩
    subst he
    go_wp2_with fail
    refine bodyPost_ret (v := .tuple #[]) ?_ rfl ⟨rfl, _, h2.1, (QCh.of_below hp HB1.out).trans h2.2, HM.out.2 HB.out⟩
    simp [results, Tryz.results42, go_sem]
end Go.Proofs.YtjcanodnlnodpaaGreatDoor.Parse
/- The document's own parser: name: a contract of the call, over the turned program. -/
namespace Go.Proofs.YtjcanodnlnodpaaGreatDoor.Parse
open Go.RowKit Go.Maps Go.Proofs.YtjcanodnlnodpaaGreatDoor.Frame Go.Proofs.YtjcanodnlnodpaaGreatDoor.Token Go.Proofs.YtjcanodnlnodpaaGreatDoor.Expr Go.Proofs.YtjcanodnlnodpaaGreatDoor.Calc
set_option linter.unusedVariables false
set_option linter.unusedSimpArgs false

def nmS (en : Int) (st : St) : List UInt8 × St := if nameOk (hereF en st) = true then ((hereF en st).text, st) else ([], failS st (hereF en st).at_ 4)
def FailsTo (p : Nat) (er : Int) (P : World → Prop) (w : World) : Prop := ∀ W, Below w.heap.size w W → Calls Tryz.prog 41 #[.pointer (some ⟨p, 0, none⟩), .int .i64 er] W fun e w' => e = .returned (.tuple #[]) ∧ Hid (P w')
theorem QS.fails {B p : Nat} {en : Int} {l : List TI} {st : St} {w : World} (h : QS B w p en l st) (er : Int) (he : er ≠ 0) : FailsTo p er (fun w' => QS B w' p en l (failS st (hereF en st).at_ er) ∧ QCh p w w') w := fun W hb =>
  (rfail_any B p en l st er W (h.below hb) he).mono fun e w' hh => ⟨hh.1, hh.2.1, (QCh.of_below h.1.2 hb).trans hh.2.2⟩

set_option maxRecDepth 100000 in
set_option maxHeartbeats 4000000 in
theorem rname_dead (p k : Nat) (en er pl : Int) (lv : Value) (w : World) (h : QAt w p lv k en er pl) (he : er ≠ 0) (P : World → Prop) (CF : FailsTo p 4 P w) :
    Calls Tryz.prog 86 #[ptr p] w fun e w' => e = .returned (.string (str [])) ∧ P w' := by
  have CF : Hid (FailsTo p 4 P w) := CF
  obtain ⟨h0, h1, h2, h3, -, -⟩ := h
  have hp : p < w.heap.size := World.block_lt_of_cell? w _ h0
  have he' : (er == 0) = false := by simpa using he
  clear he
  unfold ptr
  go_enter Tryz.func86, Tryz.ntmps86
  go_wp2_with fail
  go_quiet (fail)
  go_wp2_with fail
  refine (CF.out _ (below_drewN (Below.refl _ _) _)).mono ?_
  rintro e w9 ⟨he, hP⟩
  subst he
  go_wp2_with fail
  go_ret
  exact ⟨rfl, hP.out⟩

set_option maxRecDepth 100000 in
set_option maxHeartbeats 4000000 in
theorem rname_end (p k : Nat) (en pl : Int) (a : Option Addr) (n c : Nat) (w : World) (h : QAt w p (.slice a n c) k en 0 pl) (hk : n ≤ k) (P : World → Prop) (CF : FailsTo p 4 P w) :
    Calls Tryz.prog 86 #[ptr p] w fun e w' => e = .returned (.string (str [])) ∧ P w' := by
  have CF : Hid (FailsTo p 4 P w) := CF
  obtain ⟨h0, h1, h2, h3, -, -⟩ := h
  have hp : p < w.heap.size := World.block_lt_of_cell? w _ h0
  have hge : ¬ (k : Int) < ((n : Nat) : Int) := by omega
  clear hk
  unfold ptr
  go_enter Tryz.func86, Tryz.ntmps86
  go_wp2_with fail
  go_quiet (fail)
  go_wp2_with fail
  refine (CF.out _ (below_drewN (Below.refl _ _) _)).mono ?_
  rintro e w9 ⟨he, hP⟩
  subst he
  go_wp2_with fail
  go_ret
  exact ⟨rfl, hP.out⟩

set_option maxRecDepth 100000 in
set_option maxHeartbeats 4000000 in
theorem rname_word (p k n c b off : Nat) (en pl z : Int) (T : ByteArray) (w : World) (h : QAt w p (.slice (some ⟨b, off, none⟩) n c) k en 0 pl) (hk : k < n) (hn : n ≤ c) (hc : c ≤ maxLen) (hbw : b < w.heap.size) (c0 : w.cell? ⟨b, off + k * 3, none⟩ = some (.int .i64 1)) (c1 : w.cell? ⟨b, off + k * 3 + 1, none⟩ = some (.string T)) (c2 : w.cell? ⟨b, off + k * 3 + 2, none⟩ = some (.int .i64 z)) (hw : wordB T.data.toList = true) (P : World → Prop) (CF : FailsTo p 4 P w) :
    Calls Tryz.prog 86 #[ptr p] w fun e w' => e = .returned (.string (str [])) ∧ P w' := by
  have CF : Hid (FailsTo p 4 P w) := CF
  obtain ⟨h0, h1, h2, h3, -, -⟩ := h
  have hp : p < w.heap.size := World.block_lt_of_cell? w _ h0
  have hlt : (k : Int) < (n : Nat) := by omega
  have HW : Hid (wordB T.data.toList = true) := hw
  clear hw
  unfold ptr
  go_enter Tryz.func86, Tryz.ntmps86
  go_wp2_with fail
  go_quiet (fail)
  go_wp2_with fail
  generalize hwq : w.drewN _ = wq
  have hb : Below w.heap.size w wq := by rw [← hwq]; exact below_drewN (Below.refl _ _) _
  have HB : Hid (Below w.heap.size w wq) := hb
  have g0 := (hb.cell (p := ⟨p, 0, none⟩) hp).trans h0
  have g1 := (hb.cell (p := ⟨p, 1, none⟩) hp).trans h1
  have e0 := (hb.cell (p := ⟨b, off + k * 3, none⟩) hbw).trans c0
  have e1 := (hb.cell (p := ⟨b, off + k * 3 + 1, none⟩) hbw).trans c1
  have e2 := (hb.cell (p := ⟨b, off + k * 3 + 2, none⟩) hbw).trans c2
  have gp : p < wq.heap.size := by have := hb.size; omega
  have gb : b < wq.heap.size := by have := hb.size; omega
  clear h0 h1 h2 h3 c0 c1 c2 hb hwq
  go_region
  all_goals
    go_wp2_with fail
    (refine (r_word _ _).mono ?_; rintro e w' ⟨he, hbw2⟩; subst he; rw [HW.out]; have hx := (((Bx.new wq #[.int .i64 1, .string T, .int .i64 z] 49).below (Below.refl _ _).drew).below hbw2).three; have d1 : w'.cell? ⟨wq.heap.size, 1, none⟩ = some (.string T) := hx.2.1; have dl : wq.heap.size < w'.heap.size := hx.2.2.2; clear hx; have HB3 : Hid (Below w.heap.size w w') := then_ ((((HB.out).alloc (by have := HB.out.size; omega) _)).drew) hbw2; clear hbw2)
    go_wp2_with fail
    refine (CF.out _ (HB3.out)).mono ?_
    rintro e w9 ⟨he, hP⟩
    subst he
    go_wp2_with fail
    go_ret
    exact ⟨rfl, hP.out⟩

set_option maxRecDepth 100000 in
set_option maxHeartbeats 4000000 in
theorem rname_other (p k n c b off : Nat) (en pl z kd : Int) (T : ByteArray) (w : World) (h : QAt w p (.slice (some ⟨b, off, none⟩) n c) k en 0 pl) (hk : k < n) (hn : n ≤ c) (hc : c ≤ maxLen) (hbw : b < w.heap.size) (c0 : w.cell? ⟨b, off + k * 3, none⟩ = some (.int .i64 kd)) (c1 : w.cell? ⟨b, off + k * 3 + 1, none⟩ = some (.string T)) (c2 : w.cell? ⟨b, off + k * 3 + 2, none⟩ = some (.int .i64 z)) (h1k : ¬ kd = 1) (P : World → Prop) (CF : FailsTo p 4 P w) :
    Calls Tryz.prog 86 #[ptr p] w fun e w' => e = .returned (.string (str [])) ∧ P w' := by
  have CF : Hid (FailsTo p 4 P w) := CF
  obtain ⟨h0, h1, h2, h3, -, -⟩ := h
  have hp : p < w.heap.size := World.block_lt_of_cell? w _ h0
  have hlt : (k : Int) < (n : Nat) := by omega
  have h1' : (kd == 1) = false := by simpa using h1k
  clear h1k
  unfold ptr
  go_enter Tryz.func86, Tryz.ntmps86
  go_wp2_with fail
  go_quiet (fail)
  go_wp2_with fail
  generalize hwq : w.drewN _ = wq
  have hb : Below w.heap.size w wq := by rw [← hwq]; exact below_drewN (Below.refl _ _) _
  have HB : Hid (Below w.heap.size w wq) := hb
  have g0 := (hb.cell (p := ⟨p, 0, none⟩) hp).trans h0
  have g1 := (hb.cell (p := ⟨p, 1, none⟩) hp).trans h1
  have e0 := (hb.cell (p := ⟨b, off + k * 3, none⟩) hbw).trans c0
  have e1 := (hb.cell (p := ⟨b, off + k * 3 + 1, none⟩) hbw).trans c1
  have e2 := (hb.cell (p := ⟨b, off + k * 3 + 2, none⟩) hbw).trans c2
  have gp : p < wq.heap.size := by have := hb.size; omega
  have gb : b < wq.heap.size := by have := hb.size; omega
  clear h0 h1 h2 h3 c0 c1 c2 hb hwq
  go_region
  all_goals
    go_wp2_with fail
    refine (CF.out _ (by first | exact (below_drewN HB.out _).alloc (by have := HB.out.size; simp; omega) _ | exact (HB.out.drew).alloc (by have := HB.out.size; simp; omega) _ | exact ((HB.out).alloc (by have := HB.out.size; omega) _).drew)).mono ?_
    rintro e w9 ⟨he, hP⟩
    subst he
    go_wp2_with fail
    go_ret
    exact ⟨rfl, hP.out⟩

set_option maxRecDepth 100000 in
set_option maxHeartbeats 4000000 in
theorem rname_name (p k n c b off : Nat) (en pl z : Int) (T : ByteArray) (w : World) (h : QAt w p (.slice (some ⟨b, off, none⟩) n c) k en 0 pl) (hk : k < n) (hn : n ≤ c) (hc : c ≤ maxLen) (hbw : b < w.heap.size) (c0 : w.cell? ⟨b, off + k * 3, none⟩ = some (.int .i64 1)) (c1 : w.cell? ⟨b, off + k * 3 + 1, none⟩ = some (.string T)) (c2 : w.cell? ⟨b, off + k * 3 + 2, none⟩ = some (.int .i64 z)) (hw : wordB T.data.toList = false) :
    Calls Tryz.prog 86 #[ptr p] w fun e w' => e = .returned (.string T) ∧ Below w.heap.size w w' := by
  obtain ⟨h0, h1, h2, h3, -, -⟩ := h
  have hp : p < w.heap.size := World.block_lt_of_cell? w _ h0
  have hlt : (k : Int) < (n : Nat) := by omega
  have HW : Hid (wordB T.data.toList = false) := hw
  clear hw
  unfold ptr
  go_enter Tryz.func86, Tryz.ntmps86
  go_wp2_with fail
  go_quiet (fail)
  go_wp2_with fail
  generalize hwq : w.drewN _ = wq
  have hb : Below w.heap.size w wq := by rw [← hwq]; exact below_drewN (Below.refl _ _) _
  have HB : Hid (Below w.heap.size w wq) := hb
  have g0 := (hb.cell (p := ⟨p, 0, none⟩) hp).trans h0
  have g1 := (hb.cell (p := ⟨p, 1, none⟩) hp).trans h1
  have e0 := (hb.cell (p := ⟨b, off + k * 3, none⟩) hbw).trans c0
  have e1 := (hb.cell (p := ⟨b, off + k * 3 + 1, none⟩) hbw).trans c1
  have e2 := (hb.cell (p := ⟨b, off + k * 3 + 2, none⟩) hbw).trans c2
  have gp : p < wq.heap.size := by have := hb.size; omega
  have gb : b < wq.heap.size := by have := hb.size; omega
  clear h0 h1 h2 h3 c0 c1 c2 hb hwq
  go_region
  all_goals
    go_wp2_with fail
    (refine (r_word _ _).mono ?_; rintro e w' ⟨he, hbw2⟩; subst he; rw [HW.out]; have hx := (((Bx.new wq #[.int .i64 1, .string T, .int .i64 z] 49).below (Below.refl _ _).drew).below hbw2).three; have d1 : w'.cell? ⟨wq.heap.size, 1, none⟩ = some (.string T) := hx.2.1; have dl : wq.heap.size < w'.heap.size := hx.2.2.2; clear hx; have HB3 : Hid (Below w.heap.size w w') := then_ ((((HB.out).alloc (by have := HB.out.size; omega) _)).drew) hbw2; clear hbw2)
    go_wp2_with fail
    go_ret
    exact ⟨rfl, HB3.out⟩

theorem rname_any (B p : Nat) (en : Int) (l : List TI) (st : St) (w : World) (h : QS B w p en l st) :
    Calls Tryz.prog 86 #[ptr p] w fun e w' => e = .returned (.string (str (nmS en st).1)) ∧ QS B w' p en l (nmS en st).2 ∧ QCh p w w' := by
  have CF := h.fails 4 (by decide)
  have H := h
  obtain ⟨⟨hB, hp⟩, a, c, k, er, pl, hq, hT, ⟨h1, h2, h3, h4, h5⟩, hs⟩ := h
  cases st with
  | error x =>
    obtain ⟨e1, e2, e3⟩ := hs
    have hn : nmS en (.error x : St) = ([], failS (.error x) (hereF en (.error x : St)).at_ 4) := if_neg (show ¬ nameOk ⟨0, [], en⟩ = true by unfold nameOk; simp)
    rw [hn]
    exact rname_dead p k en er pl _ w hq (by rw [e1]; exact e3) _ CF
  | ok r =>
    obtain ⟨e1, e2⟩ := hs
    subst e1 e2
    by_cases hk : k < l.length
    · obtain ⟨b, off, rfl, hbB, c0, c1, c2⟩ := hT.at hk
      have hbw : b < w.heap.size := by omega
      have hd : l.drop k = l.getD k ti0 :: l.drop (k + 1) := by
        rw [List.drop_eq_getElem_cons hk, List.getD_eq_getElem?_getD, List.getElem?_eq_getElem hk]; rfl
      have hh : hereF en (.ok (l.drop k)) = l.getD k ti0 := by rw [hd]; rfl
      unfold nmS
      rw [hh] at CF ⊢
      generalize l.getD k ti0 = t at *
      obtain ⟨kd, tx, z⟩ := t
      by_cases k1 : kd = 1
      · subst k1
        cases hw : wordB tx with
        | true =>
          rw [if_neg (show ¬ nameOk ⟨1, tx, z⟩ = true by unfold nameOk; simp [hw])]
          exact rname_word p k l.length c b off en pl z (str tx) w hq hk h1 h2 hbw c0 c1 c2 hw _ CF
        | false =>
          rw [if_pos (show nameOk ⟨1, tx, z⟩ = true by unfold nameOk; simp [hw])]
          exact (rname_name p k l.length c b off en pl z (str tx) w hq hk h1 h2 hbw c0 c1 c2 hw).mono fun e w' h => ⟨h.1, H.below h.2, QCh.of_below hp h.2⟩
      · rw [if_neg (show ¬ nameOk ⟨kd, tx, z⟩ = true by unfold nameOk; simp [k1])]
        exact rname_other p k l.length c b off en pl z kd (str tx) w hq hk h1 h2 hbw c0 c1 c2 k1 _ CF
    · have hd : l.drop k = [] := List.drop_of_length_le (by omega)
      rw [hd] at CF ⊢
      have hn : nmS en (.ok [] : St) = ([], failS (.ok []) (hereF en (.ok [] : St)).at_ 4) := if_neg (show ¬ nameOk ⟨0, [], en⟩ = true by unfold nameOk; simp)
      rw [hn]
      exact rname_end p k en pl a l.length c w hq (by omega) _ CF
end Go.Proofs.YtjcanodnlnodpaaGreatDoor.Parse
/- The document's own parser: number: a contract of the call, over the turned program. -/
namespace Go.Proofs.YtjcanodnlnodpaaGreatDoor.Parse
open Go.RowKit Go.Maps Go.Proofs.YtjcanodnlnodpaaGreatDoor.Frame Go.Proofs.YtjcanodnlnodpaaGreatDoor.Token Go.Proofs.YtjcanodnlnodpaaGreatDoor.Expr Go.Proofs.YtjcanodnlnodpaaGreatDoor.Calc
set_option linter.unusedVariables false
set_option linter.unusedSimpArgs false

def StepPost (p k : Nat) (w w' : World) : Prop := ∃ W, Hid (Below w.heap.size w W) ∧ w' = W.setCell ⟨p, 1, none⟩ (.int .i64 ((k : Int) + 1))
def sgI (b : Bool) (z : Int) : Int := if b = true then -z else z
theorem qwrap {x : Int} (h1 : -9223372036854775808 ≤ x) (h2 : x ≤ 9223372036854775807) : IntKind.i64.wrap x = x := by
  simp [IntKind.wrap, IntKind.signed, IntKind.bits]
  omega
theorem numV_yes {l : List UInt8} (h : numB l = true) : numV l = (valL 0 l : Int) := by unfold numV; rw [h]; rfl
theorem numV_in {l : List UInt8} (h : numB l = true) : 0 ≤ numV l ∧ numV l < 9223372036854775808 := by
  rw [numV_yes h]
  rw [numB_parts] at h
  simp only [Bool.and_eq_true, decide_eq_true_eq] at h
  have := h.2
  exact ⟨by omega, by omega⟩

set_option maxRecDepth 100000 in
set_option maxHeartbeats 4000000 in
theorem rnum_dead (p k : Nat) (en er pl : Int) (lv : Value) (w : World) (h : QAt w p lv k en er pl) (he : er ≠ 0) (ng : Bool) (P : World → Prop) (CF : FailsTo p 4 P w) :
    Calls Tryz.prog 88 #[ptr p, .bool ng] w fun e w' => e = .returned (.int .i64 0) ∧ P w' := by
  have CF : Hid (FailsTo p 4 P w) := CF
  obtain ⟨h0, h1, h2, h3, -, hf⟩ := h
  have hp : p < w.heap.size := World.block_lt_of_cell? w _ h0
  have he' : (er == 0) = false := by simpa using he
  clear he
  clear hf
  unfold ptr
  go_enter Tryz.func88, Tryz.ntmps88
  go_wp2_with fail
  go_quiet (fail)
  go_wp2_with fail
  refine (CF.out _ (below_drewN (Below.refl _ _) _)).mono ?_
  rintro e w9 ⟨he, hP⟩
  subst he
  go_wp2_with fail
  go_ret
  exact ⟨rfl, hP.out⟩

set_option maxRecDepth 100000 in
set_option maxHeartbeats 4000000 in
theorem rnum_end (p k : Nat) (en pl : Int) (a : Option Addr) (n c : Nat) (w : World) (h : QAt w p (.slice a n c) k en 0 pl) (hk : n ≤ k) (ng : Bool) (P : World → Prop) (CF : FailsTo p 4 P w) :
    Calls Tryz.prog 88 #[ptr p, .bool ng] w fun e w' => e = .returned (.int .i64 0) ∧ P w' := by
  have CF : Hid (FailsTo p 4 P w) := CF
  obtain ⟨h0, h1, h2, h3, -, hf⟩ := h
  have hp : p < w.heap.size := World.block_lt_of_cell? w _ h0
  have hge : ¬ (k : Int) < ((n : Nat) : Int) := by omega
  have hdk : decide (k < n) = false := decide_eq_false (by omega)
  clear hk
  clear hf
  unfold ptr
  go_enter Tryz.func88, Tryz.ntmps88
  go_wp2_with fail
  go_quiet (fail)
  go_wp2_with fail
  refine (CF.out _ (below_drewN (Below.refl _ _) _)).mono ?_
  rintro e w9 ⟨he, hP⟩
  subst he
  go_wp2_with fail
  go_ret
  exact ⟨rfl, hP.out⟩

set_option maxRecDepth 100000 in
set_option maxHeartbeats 4000000 in
theorem rnum_other (p k n c b off : Nat) (en pl kd : Int) (T : ByteArray) (w : World) (h : QAt w p (.slice (some ⟨b, off, none⟩) n c) k en 0 pl) (hk : k < n) (hn : n ≤ c) (hc : c ≤ maxLen) (hn9 : n ≤ 1000000000) (hbw : b < w.heap.size) (c0 : w.cell? ⟨b, off + k * 3, none⟩ = some (.int .i64 kd)) (c1 : w.cell? ⟨b, off + k * 3 + 1, none⟩ = some (.string T)) (h1k : ¬ kd = 2) (ng : Bool) (P : World → Prop) (CF : FailsTo p 4 P w) :
    Calls Tryz.prog 88 #[ptr p, .bool ng] w fun e w' => e = .returned (.int .i64 0) ∧ P w' := by
  have CF : Hid (FailsTo p 4 P w) := CF
  obtain ⟨h0, h1, h2, h3, -, hf⟩ := h
  have hp : p < w.heap.size := World.block_lt_of_cell? w _ h0
  have hlt : (k : Int) < (n : Nat) := by omega
  have h1' : (kd == 2) = false := by simpa using h1k
  clear h1k
  clear hf
  unfold ptr
  go_enter Tryz.func88, Tryz.ntmps88
  go_wp2_with fail
  go_quiet (fail)
  go_wp2_with fail
  refine (CF.out _ (below_drewN (Below.refl _ _) _)).mono ?_
  rintro e w9 ⟨he, hP⟩
  subst he
  go_wp2_with fail
  go_ret
  exact ⟨rfl, hP.out⟩

set_option maxRecDepth 100000 in
set_option maxHeartbeats 4000000 in
theorem rnum_bad (p k n c b off : Nat) (en pl : Int) (T : ByteArray) (w : World) (h : QAt w p (.slice (some ⟨b, off, none⟩) n c) k en 0 pl) (hk : k < n) (hn : n ≤ c) (hc : c ≤ maxLen) (hn9 : n ≤ 1000000000) (hbw : b < w.heap.size) (c0 : w.cell? ⟨b, off + k * 3, none⟩ = some (.int .i64 2)) (c1 : w.cell? ⟨b, off + k * 3 + 1, none⟩ = some (.string T)) (hT : T.size ≤ 140737488355328) (hN : numB T.data.toList = false) (ng : Bool) (P : World → Prop) (CF : FailsTo p 4 P w) :
    Calls Tryz.prog 88 #[ptr p, .bool ng] w fun e w' => e = .returned (.int .i64 0) ∧ P w' := by
  have CF : Hid (FailsTo p 4 P w) := CF
  obtain ⟨h0, h1, h2, h3, -, hf⟩ := h
  have hp : p < w.heap.size := World.block_lt_of_cell? w _ h0
  have hlt : (k : Int) < (n : Nat) := by omega
  have CN : Hid (∀ W, Calls Tryz.prog 98 #[.string T] W fun e w' => e = .returned (.tuple #[.int .i64 (numV T.data.toList), .bool false]) ∧ w' = W) := fun W => by
    have := r_number T W hT
    unfold numR at this
    rwa [hN] at this
  generalize numV T.data.toList = z at *
  clear hN hT
  clear hf
  unfold ptr
  go_enter Tryz.func88, Tryz.ntmps88
  go_wp2_with fail
  go_quiet (fail)
  go_wp2_with fail
  generalize hwq : w.drewN _ = wq
  have hb : Below w.heap.size w wq := by rw [← hwq]; exact below_drewN (Below.refl _ _) _
  have HB : Hid (Below w.heap.size w wq) := hb
  have g0 := (hb.cell (p := ⟨p, 0, none⟩) hp).trans h0
  have g1 := (hb.cell (p := ⟨p, 1, none⟩) hp).trans h1
  have e0 := (hb.cell (p := ⟨b, off + k * 3, none⟩) hbw).trans c0
  have e1 := (hb.cell (p := ⟨b, off + k * 3 + 1, none⟩) hbw).trans c1
  have gp : p < wq.heap.size := by have := hb.size; omega
  have gb : b < wq.heap.size := by have := hb.size; omega
  clear h0 h1 h2 h3 c0 c1 hb hwq
  go_quiet (fail)
  go_wp2_with fail
  refine (CN.out _).mono ?_
  rintro e w8 ⟨he, hw⟩
  subst he
  subst hw
  go_wp2_with fail
  refine (CF.out _ (below_drewN HB.out _)).mono ?_
  rintro e w9 ⟨he, hP⟩
  subst he
  go_wp2_with fail
  go_ret
  exact ⟨rfl, hP.out⟩

set_option maxRecDepth 100000 in
set_option maxHeartbeats 4000000 in
theorem rnum_yes (p k n c b off : Nat) (en pl : Int) (T : ByteArray) (w : World) (h : QAt w p (.slice (some ⟨b, off, none⟩) n c) k en 0 pl) (hk : k < n) (hn : n ≤ c) (hc : c ≤ maxLen) (hn9 : n ≤ 1000000000) (hbw : b < w.heap.size) (c0 : w.cell? ⟨b, off + k * 3, none⟩ = some (.int .i64 2)) (c1 : w.cell? ⟨b, off + k * 3 + 1, none⟩ = some (.string T)) (hT : T.size ≤ 140737488355328) (hN : numB T.data.toList = true) (ng : Bool) :
    Calls Tryz.prog 88 #[ptr p, .bool ng] w fun e w' => e = .returned (.int .i64 (sgI ng (numV T.data.toList))) ∧ StepPost p k w w' := by
  have hv : 0 ≤ numV T.data.toList ∧ numV T.data.toList < 9223372036854775808 := numV_in hN
  obtain ⟨h0, h1, h2, h3, -, hf⟩ := h
  have hp : p < w.heap.size := World.block_lt_of_cell? w _ h0
  have f1 := hf 1
  have hkk : (k : Int) + 1 < 9223372036854775808 := by omega
  have hlt : (k : Int) < (n : Nat) := by omega
  have CN : Hid (∀ W, Calls Tryz.prog 98 #[.string T] W fun e w' => e = .returned (.tuple #[.int .i64 (numV T.data.toList), .bool true]) ∧ w' = W) := fun W => by
    have := r_number T W hT
    unfold numR at this
    rwa [hN] at this
  generalize numV T.data.toList = z at *
  clear hN hT
  rcases ng with _ | _
  · clear hf
    unfold ptr
    go_enter Tryz.func88, Tryz.ntmps88
    go_wp2_with fail
    go_quiet (fail)
    go_wp2_with fail
    generalize hwq : w.drewN _ = wq
    have hb : Below w.heap.size w wq := by rw [← hwq]; exact below_drewN (Below.refl _ _) _
    have HB : Hid (Below w.heap.size w wq) := hb
    have g0 := (hb.cell (p := ⟨p, 0, none⟩) hp).trans h0
    have g1 := (hb.cell (p := ⟨p, 1, none⟩) hp).trans h1
    have e0 := (hb.cell (p := ⟨b, off + k * 3, none⟩) hbw).trans c0
    have e1 := (hb.cell (p := ⟨b, off + k * 3 + 1, none⟩) hbw).trans c1
    have gp : p < wq.heap.size := by have := hb.size; omega
    have gb : b < wq.heap.size := by have := hb.size; omega
    have f1' := (frozen_of_block (hb.block p hp) 1).trans f1
    clear h0 h1 h2 h3 c0 c1 hb hwq f1
    go_quiet (fail)
    go_wp2_with fail
    refine (CN.out _).mono ?_
    rintro e w8 ⟨he, hw⟩
    subst he
    replace hw : w8 = wq.drewN _ := hw
    have hbr : Below w.heap.size w w8 := by rw [hw]; exact below_drewN HB.out _
    have HBr : Hid (Below w.heap.size w w8) := hbr
    have k1 : w8.cell? ⟨p, 1, none⟩ = some (.int .i64 k) := by rw [hw]; exact g1
    have k2 : w8.frozen? ⟨p, 1, none⟩ = false := by rw [hw]; exact f1'
    have k3 : p < w8.heap.size := by rw [hw]; exact gp
    clear hbr hw g0 g1 e0 e1 gp gb f1' hk hn hc hn9 hlt hbw
    obtain ⟨hv0, hv1⟩ := hv
    have hv2 : -9223372036854775808 ≤ -z := by omega
    have hv3 : IntKind.i64.wrap (-z) = -z := qwrap (by omega) (by omega)
    clear hv0
    go_wp2_with fail
    go_ret
    exact ⟨rfl, _, HBr.out, rfl⟩
  · clear hf
    unfold ptr
    go_enter Tryz.func88, Tryz.ntmps88
    go_wp2_with fail
    go_quiet (fail)
    go_wp2_with fail
    generalize hwq : w.drewN _ = wq
    have hb : Below w.heap.size w wq := by rw [← hwq]; exact below_drewN (Below.refl _ _) _
    have HB : Hid (Below w.heap.size w wq) := hb
    have g0 := (hb.cell (p := ⟨p, 0, none⟩) hp).trans h0
    have g1 := (hb.cell (p := ⟨p, 1, none⟩) hp).trans h1
    have e0 := (hb.cell (p := ⟨b, off + k * 3, none⟩) hbw).trans c0
    have e1 := (hb.cell (p := ⟨b, off + k * 3 + 1, none⟩) hbw).trans c1
    have gp : p < wq.heap.size := by have := hb.size; omega
    have gb : b < wq.heap.size := by have := hb.size; omega
    have f1' := (frozen_of_block (hb.block p hp) 1).trans f1
    clear h0 h1 h2 h3 c0 c1 hb hwq f1
    go_quiet (fail)
    go_wp2_with fail
    refine (CN.out _).mono ?_
    rintro e w8 ⟨he, hw⟩
    subst he
    replace hw : w8 = wq.drewN _ := hw
    have hbr : Below w.heap.size w w8 := by rw [hw]; exact below_drewN HB.out _
    have HBr : Hid (Below w.heap.size w w8) := hbr
    have k1 : w8.cell? ⟨p, 1, none⟩ = some (.int .i64 k) := by rw [hw]; exact g1
    have k2 : w8.frozen? ⟨p, 1, none⟩ = false := by rw [hw]; exact f1'
    have k3 : p < w8.heap.size := by rw [hw]; exact gp
    clear hbr hw g0 g1 e0 e1 gp gb f1' hk hn hc hn9 hlt hbw
    obtain ⟨hv0, hv1⟩ := hv
    have hv2 : -9223372036854775808 ≤ -z := by omega
    have hv3 : IntKind.i64.wrap (-z) = -z := qwrap (by omega) (by omega)
    clear hv0
    go_wp2_with fail
    go_ret
    exact ⟨rfl, _, HBr.out, rfl⟩

theorem rnumber_any (B p : Nat) (en : Int) (l : List TI) (st : St) (ng : Bool) (w : World) (h : QS B w p en l st) :
    Calls Tryz.prog 88 #[ptr p, .bool ng] w fun e w' => e = .returned (.int .i64 (sgI ng (numberF en st).1)) ∧ QS B w' p en l (numberF en st).2 ∧ QCh p w w' := by
  have CF := h.fails 4 (by decide)
  have H := h
  have zz : ∀ z : Int, z = 0 → sgI ng z = 0 := fun z hz => by subst hz; cases ng <;> rfl
  obtain ⟨⟨hB, hp⟩, a, c, k, er, pl, hq, hT, ⟨h1, h2, h3, h4, h5⟩, hs⟩ := h
  cases hk : numOk (hereF en st) with
  | false =>
    rw [numF_no hk, zz _ rfl]
    cases st with
    | error x =>
      obtain ⟨e1, e2, e3⟩ := hs
      exact rnum_dead p k en er pl _ w hq (by rw [e1]; exact e3) ng _ CF
    | ok r =>
      obtain ⟨e1, e2⟩ := hs
      subst e1 e2
      by_cases hkl : k < l.length
      · obtain ⟨b, off, rfl, hbB, c0, c1, c2⟩ := hT.at hkl
        have hd : l.drop k = l.getD k ti0 :: l.drop (k + 1) := by
          rw [List.drop_eq_getElem_cons hkl, List.getD_eq_getElem?_getD, List.getElem?_eq_getElem hkl]; rfl
        have hh : hereF en (.ok (l.drop k)) = l.getD k ti0 := by rw [hd]; rfl
        have hP : (l.getD k ti0).text.length ≤ 140737488355328 := h5 _ (by rw [List.getD_eq_getElem?_getD, List.getElem?_eq_getElem hkl]; exact List.getElem_mem _)
        rw [hh] at hk
        generalize l.getD k ti0 = t at *
        obtain ⟨kd, tx, z⟩ := t
        by_cases k1 : kd = 2
        · subst k1
          refine rnum_bad p k l.length c b off en pl (str tx) w hq hkl h1 h2 h3 (by omega) c0 c1 (by rw [str_size]; exact hP) ?_ ng _ CF
          rw [str_data]
          unfold numOk at hk
          simpa using hk
        · exact rnum_other p k l.length c b off en pl kd (str tx) w hq hkl h1 h2 h3 (by omega) c0 c1 k1 ng _ CF
      · exact rnum_end p k en pl a l.length c w hq (by omega) ng _ CF
  | true =>
    obtain ⟨t, r, rfl, h6, h7⟩ := numF_yes hk
    obtain ⟨e1, e2⟩ := hs
    subst e1
    have hkl : k < l.length := drop_lt (by rw [← e2]; simp)
    have hz : l.length ≤ c ∧ c ≤ maxLen ∧ l.length ≤ 1000000000 ∧ k ≤ l.length ∧ Pk l := ⟨h1, h2, h3, h4, h5⟩
    obtain ⟨b, off, rfl, hbB, c0, c1, c2⟩ := hT.at hkl
    have hd : l.drop k = l.getD k ti0 :: l.drop (k + 1) := by
      rw [List.drop_eq_getElem_cons hkl, List.getD_eq_getElem?_getD, List.getElem?_eq_getElem hkl]; rfl
    rw [hd] at e2
    injection e2 with e3 e4
    have hP : (l.getD k ti0).text.length ≤ 140737488355328 := h5 _ (by rw [List.getD_eq_getElem?_getD, List.getElem?_eq_getElem hkl]; exact List.getElem_mem _)
    rw [← e3] at c0 c1 hP
    unfold numOk at h6
    rw [Bool.and_eq_true] at h6
    have k2 := of_decide_eq_true h6.1
    rw [k2] at c0
    rw [h7]
    refine (rnum_yes p k l.length c b off en pl (str t.text) w hq hkl h1 h2 h3 (by omega) c0 c1 (by rw [str_size]; exact hP) (by rw [str_data]; exact h6.2) ng).mono ?_
    rintro e w' ⟨he, W, hb, rfl⟩
    have hW := hb.out.size
    obtain ⟨q1, q2⟩ := qadv hB (Nat.lt_of_lt_of_le hp hW) (hq.ch hb.out) (hT.below (hb.out.mono (by omega))) hz hkl
    rw [hd] at q1
    refine ⟨?_, ?_, (QCh.of_below hp hb.out).trans q2⟩
    · rw [he, str_data, numV_yes h6.2]
    · rw [e4]; exact q1
end Go.Proofs.YtjcanodnlnodpaaGreatDoor.Parse
