/- cut of package colour, of a text of ASCII that is a pair's: a contract of the call, over the turned program. -/
import Derived.Test.YtlcbpkdggppkaaaDoorColCut
namespace Go.Proofs.YtlcbpkdggppkaaaDoor.Colour
open Go.RowKit Go.Proofs.YtlcbpkdggppkaaaDoor.Frame Go.Deep
set_option linter.unusedVariables false

set_option maxHeartbeats 1000000 in
theorem cut_yes (s : ByteArray) (k : Nat) (w : World) (hs : s.size ≤ 1000000) (ha : ∀ i (h : i < s.size), (s[i]).toNat < 128) (hp : Lib.hasPrefix s.data.toList [40] = true) (hq : Lib.hasSuffix s.data.toList [41] = true) (hk : cutL s.data.toList 0 0 = k) (h1 : 1 ≤ k) (h2 : k + 2 ≤ s.size) :
    Calls Tryd.prog 36 #[.string s] w fun e w' => e = .returned (.tuple #[.string (s.extract 1 k), .string (s.extract (k + 1) (s.size - 1)), .bool true]) ∧ Below w.heap.size w w' := by
  have HP : Hid (Lib.hasPrefix s.data.toList [40] = true) := hp
  have HQ : Hid (Lib.hasSuffix s.data.toList [41] = true) := hq
  have C : ∀ o, Hid (o = Obj.cells #[.int .i64 0] 3 → Calls Tryd.prog 45 #[.string s, .func (.func 46) #[] #[.pointer (some ⟨w.heap.size, 0, none⟩)]] (w.alloc o) fun e w' => e = .returned (.int .i64 k) ∧ Below w.heap.size w w') := fun o ho => by
    subst ho
    rw [← hk]
    exact IndexFunc_deep w.heap.size w.heap.size s w _ hs ha (Nat.le_refl _) ((Below.refl _ w).alloc (Nat.le_refl _) _) (by simp [go_sem]) (by simp [go_sem])
  have h1' : (1 : Int) ≤ k := by omega
  have h2' : (k : Int) + 2 ≤ s.size := by omega
  have h3' : (k : Int) ≤ s.size := by omega
  clear ha hp hq hk
  go_enter Tryd.func36, Tryd.ntmps36
  go_wp2_with (first
    | (go_at_call 43; refine (Tryd.strings_HasPrefix _ _ _).mono ?_; rintro e w' ⟨he, hw⟩; subst he; have hw := hw.symm; subst hw; rw [HP.out])
    | (go_at_call 44; refine (Tryd.strings_HasSuffix _ _ _ (by omega)).mono ?_; rintro e w' ⟨he, hw⟩; subst he; have hw := hw.symm; subst hw; rw [HQ.out])
    | (go_at_call 45; refine ((C _).out rfl).mono ?_; rintro e w' ⟨he, hb⟩; subst he))
  have h4' : (k : Int) + 1 ≤ s.size - 1 := by omega
  have h5' : (s.size : Int) - 1 ≤ s.size := by omega
  go_quiet (fail)
  go_wp2
  go_ret3
  exact ⟨rfl, below_drewN hb _⟩
end Go.Proofs.YtlcbpkdggppkaaaDoor.Colour
