/- cut of package colour, of texts of ASCII: contracts of the calls, over the turned program: the closure, the library's loop that calls it, cut itself. -/
import Derived.Test.YtlcbpkdggppkaaaDoorColParts
import Derived.Lib.OthersKept
import Derived.Deep.LoopGhost
namespace Go.Proofs.YtlcbpkdggppkaaaDoor.Colour
open Go.RowKit Go.Proofs.YtlcbpkdggppkaaaDoor.Frame Go.Deep
set_option linter.unusedVariables false

def dstep (d : Int) (r : Nat) : Int := if r = 40 then d + 1 else if r = 41 then d - 1 else d
/-- where the first comma within one bracket stands; -1, if there is none -/
def cutL : List UInt8 → Nat → Int → Int
  | [], _, _ => -1
  | c :: r, pos, d => if c.toNat = 44 ∧ dstep d c.toNat = 1 then pos else cutL r (pos + 1) (dstep d c.toNat)

/-- what the closure leaves -/
def DeepPost (D : Nat) (d' : Int) (W w' : World) : Prop := w' = W ∧ W.cell? ⟨D, 0, none⟩ = some (.int .i64 d') ∨ w' = W.setCell ⟨D, 0, none⟩ (.int .i64 d')

set_option maxHeartbeats 1000000 in
theorem cut1_any (r : Nat) (d : Int) (D : Nat) (W : World) (hc : W.cell? ⟨D, 0, none⟩ = some (.int .i64 d)) (hf : W.frozen? ⟨D, 0, none⟩ = false) (d1 : -4611686018427387904 ≤ d) (d2 : d ≤ 4611686018427387904) :
    Calls Tryd.prog 46 #[.int .i32 r, .pointer (some ⟨D, 0, none⟩)] W fun e w' => e = .returned (.bool (decide (r = 44 ∧ dstep d r = 1))) ∧ DeepPost D (dstep d r) W w' := by
  by_cases h40 : r = 40
  · subst h40
    go_enter Tryd.func46, Tryd.ntmps46
    go_wp2
    go_ret
    exact ⟨rfl, .inr rfl⟩
  · by_cases h41 : r = 41
    · subst h41
      go_enter Tryd.func46, Tryd.ntmps46
      go_wp2
      go_ret
      exact ⟨rfl, .inr rfl⟩
    · have hs : dstep d r = d := by unfold dstep; rw [if_neg h40, if_neg h41]
      have g40 : ((r : Int) == 40) = false := beq_eq_false_iff_ne.2 (by omega)
      have g41 : ((r : Int) == 41) = false := beq_eq_false_iff_ne.2 (by omega)
      have HS : Hid (dstep d r = d) := hs
      clear hs
      by_cases h44 : r = 44
      · subst h44
        go_enter Tryd.func46, Tryd.ntmps46
        go_wp2
        go_ret
        refine ⟨?_, .inl ⟨rfl, by rw [HS.out]; exact hc⟩⟩
        rw [HS.out]
        exact retb (by rw [Bool.eq_iff_iff]; simp)
      · have g44 : ((r : Int) == 44) = false := beq_eq_false_iff_ne.2 (by omega)
        go_enter Tryd.func46, Tryd.ntmps46
        go_wp2
        go_ret
        refine ⟨?_, .inl ⟨rfl, by rw [HS.out]; exact hc⟩⟩
        exact retb (by simp [h44])

theorem deep_heap {D : Nat} {d' : Int} {W w' : World} (h : DeepPost D d' W w') {j : Nat} (hj : j ≠ D) : w'.heap[j]? = W.heap[j]? := by
  rcases h with ⟨rfl, _⟩ | rfl
  · rfl
  · exact Below.heap_setCell _ _ _ _ hj
theorem deep_cell {D : Nat} {d d' : Int} {W w' : World} (h : DeepPost D d' W w') (hc : W.cell? ⟨D, 0, none⟩ = some (.int .i64 d)) (hf : W.frozen? ⟨D, 0, none⟩ = false) : w'.cell? ⟨D, 0, none⟩ = some (.int .i64 d') ∧ w'.frozen? ⟨D, 0, none⟩ = false := by
  rcases h with ⟨rfl, hc'⟩ | rfl
  · exact ⟨hc', hf⟩
  · refine ⟨set_cell hc, ?_⟩
    rw [World.frozen?_setCell]; exact hf
theorem deep_below {B D : Nat} {d' : Int} {w0 W w' : World} (h : DeepPost D d' W w') (hb : Below B w0 W) (hD : B ≤ D) : Below B w0 w' := by
  rcases h with ⟨rfl, _⟩ | rfl
  · exact hb
  · exact hb.setCell hD _
theorem dstep_bd (d : Int) (r : Nat) : d - 1 ≤ dstep d r ∧ dstep d r ≤ d + 1 := by unfold dstep; split <;> try split
                                                                                   all_goals omega
theorem cutL_at (s : ByteArray) (pos : Nat) (d : Int) (h : pos < s.size) : cutL (s.data.toList.drop pos) pos d = if (s[pos]).toNat = 44 ∧ dstep d (s[pos]).toNat = 1 then (pos : Int) else cutL (s.data.toList.drop (pos + 1)) (pos + 1) (dstep d (s[pos]).toNat) := by
  rw [List.drop_eq_getElem_cons (by simpa using h)]
  rfl
theorem cutL_end (s : ByteArray) (pos : Nat) (d : Int) (h : ¬ pos < s.size) : cutL (s.data.toList.drop pos) pos d = -1 := by
  rw [List.drop_eq_nil_of_le (by simpa using h)]; rfl

/-- what holds between two runes -/
def DInv (B D I : Nat) (s : ByteArray) (w0 : World) (gf : Nat) (wx : World) : Prop :=
  ∃ (pos : Nat) (d : Int), (wx.heap[I]? = some (.stringIter s pos) ∧ wx.cell? ⟨D, 0, none⟩ = some (.int .i64 d) ∧ wx.frozen? ⟨D, 0, none⟩ = false ∧ Below B w0 wx) ∧
    cutL (s.data.toList.drop pos) pos d = cutL s.data.toList 0 0 ∧ s.size ≤ pos + gf ∧ pos ≤ s.size ∧ -(pos : Int) ≤ d ∧ d ≤ pos

set_option maxHeartbeats 2000000 in
set_option maxRecDepth 1000000 in
theorem indexFunc_deep (B D : Nat) (s : ByteArray) (w0 w : World) (hs : s.size ≤ 1000000) (ha : ∀ i (h : i < s.size), (s[i]).toNat < 128) (hB : B ≤ D) (hBw : Below B w0 w) (hc : w.cell? ⟨D, 0, none⟩ = some (.int .i64 0)) (hf : w.frozen? ⟨D, 0, none⟩ = false) :
    Calls Tryd.prog 67 #[.string s, .func (.func 46) #[] #[.pointer (some ⟨D, 0, none⟩)], .bool true] w fun e w' => e = .returned (.int .i64 (cutL s.data.toList 0 0)) ∧ Below B w0 w' := by
  have hDl : D < w.heap.size := World.block_lt_of_cell? w _ hc
  have HA : Hid (∀ i (h : i < s.size), (s[i]).toNat < 128) := ha
  have HB : Hid (Below B w0 w) := hBw
  have HI : Hid (DInv B D w.heap.size s w0 s.size (w.iter s 0)) := by
    refine ⟨0, 0, ⟨World.iter_heap w s 0, ?_, ?_, hBw.alloc (by omega) _⟩, rfl, by omega, by omega, by omega, by omega⟩
    · exact (World.cell?_alloc_past _ _ _ hDl).trans hc
    · exact (((Below.refl _ w).alloc (Nat.le_refl _) _).frozen (p := ⟨D, 0, none⟩) hDl).trans hf
  clear ha hBw hc hf
  go_enter Tryd.func67, Tryd.ntmps67
  go_wp2
  go_loopg [] s.size (fun gf wx => DInv B D w.heap.size s w0 gf wx)
  case atStart => exact HI.out
  case round =>
    obtain ⟨pos, d, ⟨hit, hcd, hfd, hbw⟩, hleft, hfu, hps', hd1, hd2⟩ := hrel
    by_cases hps : pos < s.size
    · obtain ⟨g', rfl⟩ : ∃ g', gk = g' + 1 := ⟨gk - 1, by omega⟩
      have hnx : ∀ ty, (Instr.next (.pointer (some ⟨w.heap.size, 0, none⟩)) true ty).run Tryd.prog wr = _ := fun ty => Lib.run_next_ascii_at wr w.heap.size s pos ty hit hps (HA.out pos hps)
      have hit2 := Lib.iterAt_heap wr w.heap.size s pos (pos + 1) hit
      have hbw2 := Lib.below_iterAt hbw (k := w.heap.size) (by omega) s (pos + 1)
      have hblk : (wr.iterAt w.heap.size s (pos + 1)).heap[D]? = wr.heap[D]? := Lib.iterAt_other wr w.heap.size D s (pos + 1) (by omega)
      have hcd2 : (wr.iterAt w.heap.size s (pos + 1)).cell? ⟨D, 0, none⟩ = some (.int .i64 d) := (World.cell?_of_block (w := wr) hblk).trans hcd
      have hfd2 : (wr.iterAt w.heap.size s (pos + 1)).frozen? ⟨D, 0, none⟩ = false := (World.frozen?_of_block (w := wr) hblk).trans hfd
      rw [cutL_at s pos d hps] at hleft
      obtain ⟨W, hWd⟩ : ∃ W, wr.iterAt w.heap.size s (pos + 1) = W := ⟨_, rfl⟩
      rw [hWd] at hnx hit2 hbw2 hcd2 hfd2
      obtain ⟨r, hr⟩ : ∃ r, (s[pos]).toNat = r := ⟨_, rfl⟩
      rw [hr] at hnx hleft
      have cS : Hid (Calls Tryd.prog 46 #[.int .i32 r, .pointer (some ⟨D, 0, none⟩)] W _) := cut1_any r d D W hcd2 hfd2 (by omega) (by omega)
      have HBW : Hid (Below B w0 W) := hbw2
      have HC2 : Hid (W.cell? ⟨D, 0, none⟩ = some (.int .i64 d)) := hcd2
      have HF2 : Hid (W.frozen? ⟨D, 0, none⟩ = false) := hfd2
      have HIT : Hid (W.heap[w.heap.size]? = some (.stringIter s (pos + 1))) := hit2
      have hbd := dstep_bd d r
      clear hit hcd hfd hbw hit2 hbw2 hcd2 hfd2 hblk hWd hr
      by_cases hy : r = 44 ∧ dstep d r = 1
      · rw [if_pos hy] at hleft
        have HL : Hid ((pos : Int) = cutL s.data.toList 0 0) := hleft
        have HY : Hid (decide (r = 44 ∧ dstep d r = 1) = true) := decide_eq_true hy
        clear hleft hy
        go_wp2_with (go_at_call 46; refine cS.out.mono ?_; rintro e W' ⟨he, hw⟩; subst he; rw [HY.out]; have HW : Hid (DeepPost D (dstep d r) W W') := hw; clear hw)
        go_ret
        exact ⟨reti HL.out, deep_below HW.out HBW.out hB⟩
      · rw [if_neg hy] at hleft
        have HL : Hid (cutL (s.data.toList.drop (pos + 1)) (pos + 1) (dstep d r) = cutL s.data.toList 0 0) := hleft
        have HY : Hid (decide (r = 44 ∧ dstep d r = 1) = false) := decide_eq_false hy
        clear hleft hy
        go_wp2_with (go_at_call 46; refine cS.out.mono ?_; rintro e W' ⟨he, hw⟩; subst he; rw [HY.out]; have HW : Hid (DeepPost D (dstep d r) W W') := hw; clear hw)
        go_roundg g'
        case measure => omega
        case rel =>
          have := deep_cell HW.out HC2.out HF2.out
          exact ⟨pos + 1, dstep d r, ⟨(deep_heap HW.out (by omega)).trans HIT.out, this.1, this.2, deep_below HW.out HBW.out hB⟩, HL.out, by omega, by omega, by omega, by omega⟩
    · have hnx : ∀ ty, (Instr.next (.pointer (some ⟨w.heap.size, 0, none⟩)) true ty).run Tryd.prog wr = _ := fun ty => Lib.run_next_end_at wr w.heap.size s pos ty hit hps
      rw [cutL_end s pos d hps] at hleft
      have HL : Hid (-1 = cutL s.data.toList 0 0) := hleft
      have HBW : Hid (Below B w0 wr) := hbw
      clear hleft hbw hcd hfd
      go_wp2
      go_ret
      exact ⟨reti HL.out, HBW.out⟩

set_option maxHeartbeats 1000000 in
theorem IndexFunc_deep (B D : Nat) (s : ByteArray) (w0 w : World) (hs : s.size ≤ 1000000) (ha : ∀ i (h : i < s.size), (s[i]).toNat < 128) (hB : B ≤ D) (hBw : Below B w0 w) (hc : w.cell? ⟨D, 0, none⟩ = some (.int .i64 0)) (hf : w.frozen? ⟨D, 0, none⟩ = false) :
    Calls Tryd.prog 45 #[.string s, .func (.func 46) #[] #[.pointer (some ⟨D, 0, none⟩)]] w fun e w' => e = .returned (.int .i64 (cutL s.data.toList 0 0)) ∧ Below B w0 w' := by
  have C : Hid (Calls Tryd.prog 67 #[.string s, .func (.func 46) #[] #[.pointer (some ⟨D, 0, none⟩)], .bool true] w _) := indexFunc_deep B D s w0 w hs ha hB hBw hc hf
  clear ha hBw hc hf
  go_enter Tryd.func45, Tryd.ntmps45
  go_wp2_with (go_at_call 67; refine C.out.mono ?_; rintro e W' ⟨he, hw⟩; subst he)
  go_ret
  exact ⟨rfl, hw⟩

end Go.Proofs.YtlcbpkdggppkaaaDoor.Colour
