/- The words of the rounds, worked out of cube roots, part 2 of 4: closed facts by the kernel. -/
import Derived.Test.YteiolcongejhgaaDoorRefMath
namespace Go.Proofs.YteiolcongejhgaaDoor
theorem root3_16 : behindF 59 3 = 0xe49b69c1#32 := by decide +kernel
theorem root3_17 : behindF 61 3 = 0xefbe4786#32 := by decide +kernel
theorem root3_18 : behindF 67 3 = 0x0fc19dc6#32 := by decide +kernel
theorem root3_19 : behindF 71 3 = 0x240ca1cc#32 := by decide +kernel
theorem root3_20 : behindF 73 3 = 0x2de92c6f#32 := by decide +kernel
theorem root3_21 : behindF 79 3 = 0x4a7484aa#32 := by decide +kernel
theorem root3_22 : behindF 83 3 = 0x5cb0a9dc#32 := by decide +kernel
theorem root3_23 : behindF 89 3 = 0x76f988da#32 := by decide +kernel
theorem root3_24 : behindF 97 3 = 0x983e5152#32 := by decide +kernel
theorem root3_25 : behindF 101 3 = 0xa831c66d#32 := by decide +kernel
theorem root3_26 : behindF 103 3 = 0xb00327c8#32 := by decide +kernel
theorem root3_27 : behindF 107 3 = 0xbf597fc7#32 := by decide +kernel
theorem root3_28 : behindF 109 3 = 0xc6e00bf3#32 := by decide +kernel
theorem root3_29 : behindF 113 3 = 0xd5a79147#32 := by decide +kernel
theorem root3_30 : behindF 127 3 = 0x06ca6351#32 := by decide +kernel
theorem root3_31 : behindF 131 3 = 0x14292967#32 := by decide +kernel
end Go.Proofs.YteiolcongejhgaaDoor
