/- The words of the rounds, worked out of cube roots, part 4 of 4: closed facts by the kernel. -/
import Derived.Test.YteiolcongejhgaaDoorRefMath
namespace Go.Proofs.YteiolcongejhgaaDoor
theorem root3_48 : behindF 227 3 = 0x19a4c116#32 := by decide +kernel
theorem root3_49 : behindF 229 3 = 0x1e376c08#32 := by decide +kernel
theorem root3_50 : behindF 233 3 = 0x2748774c#32 := by decide +kernel
theorem root3_51 : behindF 239 3 = 0x34b0bcb5#32 := by decide +kernel
theorem root3_52 : behindF 241 3 = 0x391c0cb3#32 := by decide +kernel
theorem root3_53 : behindF 251 3 = 0x4ed8aa4a#32 := by decide +kernel
theorem root3_54 : behindF 257 3 = 0x5b9cca4f#32 := by decide +kernel
theorem root3_55 : behindF 263 3 = 0x682e6ff3#32 := by decide +kernel
theorem root3_56 : behindF 269 3 = 0x748f82ee#32 := by decide +kernel
theorem root3_57 : behindF 271 3 = 0x78a5636f#32 := by decide +kernel
theorem root3_58 : behindF 277 3 = 0x84c87814#32 := by decide +kernel
theorem root3_59 : behindF 281 3 = 0x8cc70208#32 := by decide +kernel
theorem root3_60 : behindF 283 3 = 0x90befffa#32 := by decide +kernel
theorem root3_61 : behindF 293 3 = 0xa4506ceb#32 := by decide +kernel
theorem root3_62 : behindF 307 3 = 0xbef9a3f7#32 := by decide +kernel
theorem root3_63 : behindF 311 3 = 0xc67178f2#32 := by decide +kernel
theorem root2_0 : behindF 2 2 = 0x6a09e667#32 := by decide +kernel
theorem root2_1 : behindF 3 2 = 0xbb67ae85#32 := by decide +kernel
theorem root2_2 : behindF 5 2 = 0x3c6ef372#32 := by decide +kernel
theorem root2_3 : behindF 7 2 = 0xa54ff53a#32 := by decide +kernel
theorem root2_4 : behindF 11 2 = 0x510e527f#32 := by decide +kernel
theorem root2_5 : behindF 13 2 = 0x9b05688c#32 := by decide +kernel
theorem root2_6 : behindF 17 2 = 0x1f83d9ab#32 := by decide +kernel
theorem root2_7 : behindF 19 2 = 0x5be0cd19#32 := by decide +kernel
end Go.Proofs.YteiolcongejhgaaDoor
