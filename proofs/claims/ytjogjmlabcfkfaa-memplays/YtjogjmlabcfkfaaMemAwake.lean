/-
  What the law's awake comes to. No conditions.
-/
import Derived.Test.YtjogjmlabcfkfaaMemUse
namespace Go.Proofs.Ytjogjmlabcfkfaa
open Go Go.RowKit

set_option maxHeartbeats 1000000 in
theorem awake_any (w : World) : Calls Try.prog 9 #[] w (Ret (.bool true) w) := by
  have HE : Hid ((M0 [2] 1).ep (0 : Int).toNat = 1#64) := Lib.hid rfl
  have HD : Hid (DoOk (M0 [2] 1) 0 1#64 1 1) := Lib.hid ⟨⟨by decide, by decide, rfl⟩, by decide, by decide, by decide, by decide⟩
  have HW : Hid (U ((M0 [2] 1).wd (0 : Int).toNat (1 : Int).toNat) = 0) := Lib.hid U_0
  have HP : Hid (U (((M0 [2] 1).done 0 1 1 7#64 0#64).wd (0 : Int).toNat (1 : Int).toNat) = 7) := Lib.hid U_7
  go_enter Try.func9, Try.ntmps9
  go_wp2_with (first
    | (go_at_call 11; refine (new_row [2] _ _ _ rfl rfl ok2).mono ?_; rintro e X ⟨L, rfl, hM, hX⟩; have HM := Lib.hid hM; have HX := Lib.hid (ext_trans (ext_alloc _ (ext_refl w)) hX); have hlo := hX.size; clear hM hX)
    | (go_at_call 20; refine (cap_int HM.out 0 1#64 (by decide) (by decide) HE).mono ?_; rintro e w' hr'; obtain ⟨rfl, s, rfl⟩ := hr'.over; clear hr')
    | (go_at_call 17; refine (do_int (HM.out.over s) 0 1 1 _ 7 0 0 1#64 7#64 0#64 _ rfl U_7.symm U_0.symm HD.out HW (Lib.hid rfl)).mono ?_; rintro e Y ⟨rfl, hM, hF⟩; have HM2 := Lib.hid hM; have HY := Lib.hid (Fr.below hF (ext_over s HX.out) (by simp)); clear hM hF)
    | (go_at_call 21; refine (peek_int HM2.out 0 1 7 (by decide) (by decide) (by decide) (by decide) HP).mono ?_; rintro e w' hr'; obtain ⟨rfl, s2, rfl⟩ := hr'.over; clear hr'))
  go_ret
  exact Ret.mk (ext_over _ HY.out)

end Go.Proofs.Ytjogjmlabcfkfaa
