/- The words of the rounds and the first state are the program's own. -/
import Derived.Test.YteiolcongejhgaaDoorRootsA
import Derived.Test.YteiolcongejhgaaDoorRootsB
import Derived.Test.YteiolcongejhgaaDoorRootsC
import Derived.Test.YteiolcongejhgaaDoorRootsD
namespace Go.Proofs.YteiolcongejhgaaDoor
theorem roots3 : wordsF 3 312 = keys := by
  have e : primes.take (pcount 312) = primes := by rw [pcount_end]; rfl
  unfold wordsF
  rw [e]
  simp only [primes, List.map, keys, root3_0, root3_1, root3_2, root3_3, root3_4, root3_5, root3_6, root3_7, root3_8, root3_9, root3_10, root3_11, root3_12, root3_13, root3_14, root3_15, root3_16, root3_17, root3_18, root3_19, root3_20, root3_21, root3_22, root3_23, root3_24, root3_25, root3_26, root3_27, root3_28, root3_29, root3_30, root3_31, root3_32, root3_33, root3_34, root3_35, root3_36, root3_37, root3_38, root3_39, root3_40, root3_41, root3_42, root3_43, root3_44, root3_45, root3_46, root3_47, root3_48, root3_49, root3_50, root3_51, root3_52, root3_53, root3_54, root3_55, root3_56, root3_57, root3_58, root3_59, root3_60, root3_61, root3_62, root3_63]
theorem roots2 : wordsF 2 20 = first8 := by
  have e : primes.take (pcount 20) = [2, 3, 5, 7, 11, 13, 17, 19] := by rw [pcount_20]; rfl
  unfold wordsF
  rw [e]
  simp only [List.map, first8, root2_0, root2_1, root2_2, root2_3, root2_4, root2_5, root2_6, root2_7]
end Go.Proofs.YteiolcongejhgaaDoor
