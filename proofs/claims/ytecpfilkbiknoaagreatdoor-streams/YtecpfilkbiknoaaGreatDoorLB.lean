/- The closed facts of the row of Streams, each checked as a lemma of its own: all at once they outgrow the kernel's memory. -/
import Derived.Test.YtecpfilkbiknoaaGreatDoorRows
import Derived.JoinedOf
import Derived.KernelRfl
namespace Go.Proofs.YtecpfilkbiknoaaGreatDoor
open Go

theorem and2 {a b : Bool} (ha : a = true) (hb : b = true) : (a && b) = true := by rw [ha, hb]; rfl
set_option maxHeartbeats 20000000 in
theorem facts : joinedFacts Tryz.prog 3 Tryz.f3 Rows.streamsSpec Rows.streamsRow = true := by
  unfold joinedFacts
  repeat' (with_reducible refine and2 ?_ ?_)
  all_goals (as_aux_lemma => kernel_rfl)
end Go.Proofs.YtecpfilkbiknoaaGreatDoor
