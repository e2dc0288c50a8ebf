/- What every statement's proof of this seat shares: the program's own knobs, and how a slice of ints that came in lies in memory. -/
import Derived.Test.YtpfcoicomgpaoaaRows
import Derived.WalkKit
import Derived.ProofKit
import Derived.OpenShut
import Derived.ShutString
namespace Go.Proofs.Ytpfcoicomgpaoaa.Frame
open Go.ChangeShapes Go.WideShapes Go.ChangeAt Go.RowKit
theorem own : ownKnob Try.prog.godebug = none := by kernel_rfl
theorem laidOut : laidOutB Try.prog = true := by kernel_rfl

/-- a slice of ints in memory: nil, or a row of 'cap' numbers, of which the first 'len' are its elements -/
inductive Ints (w : World) : Option Addr → Nat → Nat → List Int → Prop
  | nil : Ints w none 0 0 []
  | row {x : Addr} {len cap : Nat} {zs : List Int} (hl : len ≤ cap) (hm : cap ≤ maxLen) (hz : zs.length = cap)
      (hc : ∀ i, i < zs.length → w.cell? (x.add i) = some (.int .i64 (zs.getD i 0))) (hf : ∀ n ∈ zs, (Lit.int .i64 n).wf = true) : Ints w (some x) len cap zs
end Go.Proofs.Ytpfcoicomgpaoaa.Frame
