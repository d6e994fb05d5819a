/- The words of the rounds, worked out of cube roots, part 3 of 4: closed facts by the kernel. -/
import Derived.Test.YteiolcongejhgaaDoorRefMath
namespace Go.Proofs.YteiolcongejhgaaDoor
theorem root3_32 : behindF 137 3 = 0x27b70a85#32 := by decide +kernel
theorem root3_33 : behindF 139 3 = 0x2e1b2138#32 := by decide +kernel
theorem root3_34 : behindF 149 3 = 0x4d2c6dfc#32 := by decide +kernel
theorem root3_35 : behindF 151 3 = 0x53380d13#32 := by decide +kernel
theorem root3_36 : behindF 157 3 = 0x650a7354#32 := by decide +kernel
theorem root3_37 : behindF 163 3 = 0x766a0abb#32 := by decide +kernel
theorem root3_38 : behindF 167 3 = 0x81c2c92e#32 := by decide +kernel
theorem root3_39 : behindF 173 3 = 0x92722c85#32 := by decide +kernel
theorem root3_40 : behindF 179 3 = 0xa2bfe8a1#32 := by decide +kernel
theorem root3_41 : behindF 181 3 = 0xa81a664b#32 := by decide +kernel
theorem root3_42 : behindF 191 3 = 0xc24b8b70#32 := by decide +kernel
theorem root3_43 : behindF 193 3 = 0xc76c51a3#32 := by decide +kernel
theorem root3_44 : behindF 197 3 = 0xd192e819#32 := by decide +kernel
theorem root3_45 : behindF 199 3 = 0xd6990624#32 := by decide +kernel
theorem root3_46 : behindF 211 3 = 0xf40e3585#32 := by decide +kernel
theorem root3_47 : behindF 223 3 = 0x106aa070#32 := by decide +kernel
end Go.Proofs.YteiolcongejhgaaDoor
