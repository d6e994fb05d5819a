/- The closed facts of the row of Unpacks, each checked as a lemma of its own. -/
import Derived.Test.YtgfbbcnnmoamnaaGreatDoorRows
import Derived.JoinedOf
import Derived.KernelRfl
namespace Go.Proofs.YtgfbbcnnmoamnaaGreatDoor.Tr
open Go Go.Proofs.YtgfbbcnnmoamnaaGreatDoor

/-- the row, as it would be of a call that leaves no goroutine behind at all -/
def rowA : OpenClaim := { Rows.unpacksUptoRow with leaving := false }
theorem and2 {a b : Bool} (ha : a = true) (hb : b = true) : (a && b) = true := by rw [ha, hb]; rfl
set_option maxHeartbeats 20000000 in
theorem facts : joinedFacts Tryz.prog 3 Tryz.f3 (Rows.OpenSpec.upto Rows.unpacksSpec).bare rowA = true := by
  unfold joinedFacts
  repeat' (with_reducible refine and2 ?_ ?_)
  all_goals (as_aux_lemma => kernel_rfl)
end Go.Proofs.YtgfbbcnnmoamnaaGreatDoor.Tr
