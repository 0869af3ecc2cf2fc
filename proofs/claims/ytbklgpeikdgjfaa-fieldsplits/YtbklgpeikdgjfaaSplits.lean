/-
  FieldSplits: the call's ways, walked. Conditions: those of each theorem.
-/
import Derived.Test.YtbklgpeikdgjfaaSplit
import Derived.Test.YtbklgpeikdgjfaaRSplit
import Derived.Test.YtbklgpeikdgjfaaSame
import Derived.Test.YtbklgpeikdgjfaaBackM
namespace Go.Proofs.Ytbklgpeikdgjfaa
open Go Go.RowKit

set_option maxHeartbeats 400000 in
theorem fieldSplits_small (l : List (Int × Int)) (x : BitVec 64) (a0 : Option Addr) (cap : Nat) (w : World) (hl : l.length ≤ 64) (hF : Hid (Fs w (.slice a0 l.length cap) l)) :
    Calls Try.prog 5 #[.slice a0 l.length cap, .int .u64 (U x)] w (Ret (.bool true) w) := by
  obtain ⟨r, e, hs⟩ := splitSpec_of l x
  have hr := split_len l x r e hs
  have HS := Lib.hid hs
  clear hs
  go_enter Try.func5, Try.ntmps5
  go_wp2_with (first
    | (go_at_call 10; refine (awake_any _).mono ?_; rintro e w1 hr'; obtain ⟨rfl, hb1⟩ := hr'; have HX1 := Lib.hid hb1; clear hb1)
    | (go_at_call 23; refine (split_any l _ x _ r e HS hl (hF.out.ext HX1.out)).mono ?_; rintro e w2 hr'; obtain ⟨sv, rfl, hb2, hu2⟩ := hr'; have HX2 := Lib.hid (ext_trans HX1.out hb2); have HA := Lib.hid hu2; clear hb2 hu2)
    | (go_at_call 24; refine (rsplit_any l _ x _ r e HS hl (hF.out.ext HX2.out)).mono ?_; rintro e w3 hr'; obtain ⟨sv', rfl, hb3, hu3⟩ := hr'; have HX3 := Lib.hid (ext_trans HX2.out hb3); have HB := Lib.hid hu3; have HA3 := Lib.hid (HA.out.ext hb3); clear hb3 hu3)
    | (go_at_call 25; refine (same_any r r _ _ _ true (hid_yes rfl) (by omega) HA3.out HB.out).mono ?_; rintro e w4 hr'; obtain ⟨rfl, hb4⟩ := hr'; have HX4 := Lib.hid (ext_trans HX3.out hb4); clear hb4))
  go_ret
  exact Ret.mk HX4.out

set_option maxHeartbeats 400000 in
theorem fieldSplits_great (n : Nat) (x : BitVec 64) (a0 : Option Addr) (cap : Nat) (w : World) (h : 64 < n) :
    Calls Try.prog 5 #[.slice a0 n cap, .int .u64 (U x)] w (Ret (.bool true) w) := by
  go_enter Try.func5, Try.ntmps5
  go_wp2_with (go_at_call 10; refine (awake_any _).mono ?_; rintro e w' hr'; obtain ⟨rfl, s, rfl⟩ := hr'.over; clear hr')
  go_ret
  exact Ret.mk (by repeat (first | exact ext_refl _ | apply ext_over | apply ext_alloc))

theorem fieldSplits_any (l : List (Int × Int)) (x : BitVec 64) (lv : Value) (w : World) (hF : Fs w lv l) :
    Calls Try.prog 5 #[lv, .int .u64 (U x)] w (Ret (.bool true) w) := by
  have hF' := hF
  obtain ⟨a0, cap, rfl, _⟩ := hF'
  by_cases h : l.length ≤ 64
  · exact fieldSplits_small l x a0 cap w h (Lib.hid hF)
  · exact fieldSplits_great l.length x a0 cap w (by omega)

end Go.Proofs.Ytbklgpeikdgjfaa
