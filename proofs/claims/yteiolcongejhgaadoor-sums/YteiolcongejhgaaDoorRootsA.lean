/- The words of the rounds, worked out of cube roots, part 1 of 4: closed facts by the kernel. -/
import Derived.Test.YteiolcongejhgaaDoorRefMath
namespace Go.Proofs.YteiolcongejhgaaDoor
theorem root3_0 : behindF 2 3 = 0x428a2f98#32 := by decide +kernel
theorem root3_1 : behindF 3 3 = 0x71374491#32 := by decide +kernel
theorem root3_2 : behindF 5 3 = 0xb5c0fbcf#32 := by decide +kernel
theorem root3_3 : behindF 7 3 = 0xe9b5dba5#32 := by decide +kernel
theorem root3_4 : behindF 11 3 = 0x3956c25b#32 := by decide +kernel
theorem root3_5 : behindF 13 3 = 0x59f111f1#32 := by decide +kernel
theorem root3_6 : behindF 17 3 = 0x923f82a4#32 := by decide +kernel
theorem root3_7 : behindF 19 3 = 0xab1c5ed5#32 := by decide +kernel
theorem root3_8 : behindF 23 3 = 0xd807aa98#32 := by decide +kernel
theorem root3_9 : behindF 29 3 = 0x12835b01#32 := by decide +kernel
theorem root3_10 : behindF 31 3 = 0x243185be#32 := by decide +kernel
theorem root3_11 : behindF 37 3 = 0x550c7dc3#32 := by decide +kernel
theorem root3_12 : behindF 41 3 = 0x72be5d74#32 := by decide +kernel
theorem root3_13 : behindF 43 3 = 0x80deb1fe#32 := by decide +kernel
theorem root3_14 : behindF 47 3 = 0x9bdc06a7#32 := by decide +kernel
theorem root3_15 : behindF 53 3 = 0xc19bf174#32 := by decide +kernel
end Go.Proofs.YteiolcongejhgaaDoor
