/-
  FieldBack: the call's ways, walked. Conditions: those of each theorem.
-/
import Derived.Test.YtbklgpeikdgjfaaPack
import Derived.Test.YtbklgpeikdgjfaaSplit
import Derived.Test.YtbklgpeikdgjfaaSame
import Derived.Test.YtbklgpeikdgjfaaBackM
namespace Go.Proofs.Ytbklgpeikdgjfaa
open Go Go.RowKit

/-- What the law does with a word: split it, and pack what comes of it. -/
def BackSpec (l : List (Int × Int)) (y : BitVec 64) (r : List (BitVec 64)) (e : Int) : Prop := SplitSpec l y r e ∧ ((e = 0 ∧ PackSpec l r y 0) ∨ (e ≠ 0 ∧ r = []))
theorem backSpec_of (l : List (Int × Int)) (y : BitVec 64) : ∃ r e, BackSpec l y r e := by
  by_cases h : Lay l
  · by_cases h2 : y &&& ~~~ (covTo l l.length) = 0#64
    · exact ⟨splitL l y, 0, ⟨fun hn => absurd h hn, fun _ hn => absurd h2 hn, fun _ _ => ⟨rfl, rfl⟩⟩, .inl ⟨rfl, pack_split l y h h2⟩⟩
    · exact ⟨[], 10, ⟨fun hn => absurd h hn, fun _ _ => ⟨rfl, rfl⟩, fun _ hn => absurd hn h2⟩, .inr ⟨by decide, rfl⟩⟩
  · exact ⟨[], 1, ⟨fun _ => ⟨rfl, rfl⟩, fun hn => absurd hn h, fun hn => absurd hn h⟩, .inr ⟨by decide, rfl⟩⟩
theorem us_empty {w : World} {v : Value} (h : Us w v []) : ∃ a cap, v = .slice a 0 cap := by
  obtain ⟨a, cap, e, _⟩ := h
  exact ⟨a, cap, e⟩

set_option maxHeartbeats 1000000 in
theorem fieldBack_small (l : List (Int × Int)) (v : List (BitVec 64)) (y : BitVec 64) (a0 a1 : Option Addr) (cap cap1 : Nat) (w : World) (hl : l.length ≤ 64) (hv : v.length ≤ 70)
    (hF : Hid (Fs w (.slice a0 l.length cap) l)) (hU : Hid (Us w (.slice a1 v.length cap1) v)) :
    Calls Try.prog 6 #[.slice a0 l.length cap, .slice a1 v.length cap1, .int .u64 (U y)] w (Ret (.bool true) w) := by
  obtain ⟨r, e, hs, hb⟩ := backSpec_of l y
  have hrl := split_len l y r e hs
  have HS := Lib.hid hs
  clear hs
  by_cases ok : PackOk l v
  · have HP : Hid (PackSpec l v (packTo l v l.length) 0) := ⟨fun _ => ⟨rfl, rfl⟩, fun hn => absurd ok hn⟩
    have HQ : Hid (SplitSpec l (packTo l v l.length) v 0) := Lib.hid (split_pack l v ok)
    have hvl : v.length ≤ 64 := by rw [← ok.2.1]; exact hl
    clear ok
    rcases hb with ⟨rfl, hb⟩ | ⟨he, rfl⟩
    · have HB := Lib.hid hb
      clear hb
      go_enter Try.func6, Try.ntmps6
      go_wp2_with fail
      refine (awake_any _).mono ?_
      rintro _ w1 hr1
      obtain ⟨rfl, hb1⟩ := hr1
      have HX1 := Lib.hid hb1
      clear hb1
      go_wp2_with fail
      refine (pack_any l v _ _ _ _ _ HP hl (hF.out.ext HX1.out) (hU.out.ext HX1.out)).mono ?_
      rintro _ w2 hr2
      obtain ⟨rfl, hb2⟩ := hr2
      have HX2 := Lib.hid (ext_trans HX1.out hb2)
      clear hb2
      go_wp2_with fail
      refine (split_any l _ _ _ v 0 HQ hl (hF.out.ext HX2.out)).mono ?_
      rintro _ w3 hr3
      obtain ⟨sv, rfl, hb3, hu3⟩ := hr3
      have HX3 := Lib.hid (ext_trans HX2.out hb3)
      have HA := Lib.hid hu3
      clear hb3 hu3
      go_wp2_with fail
      refine (same_any v v _ _ _ true (hid_yes rfl) hv HA.out (hU.out.ext HX3.out)).mono ?_
      rintro _ w4 hr4
      obtain ⟨rfl, hb4⟩ := hr4
      have HX4 := Lib.hid (ext_trans HX3.out hb4)
      clear hb4 HA
      go_wp2_with fail
      refine (split_any l _ _ _ r 0 HS hl (hF.out.ext HX4.out)).mono ?_
      rintro _ w5 hr5
      obtain ⟨sv', rfl, hb5, hu5⟩ := hr5
      have HX5 := Lib.hid (ext_trans HX4.out hb5)
      have HA5 := Lib.hid hu5
      clear hb5 hu5
      go_wp2_with fail
      refine (pack_any l r _ _ _ _ _ HB hl (hF.out.ext HX5.out) HA5.out).mono ?_
      rintro _ w6 hr6
      obtain ⟨rfl, hb6⟩ := hr6
      have HX6 := Lib.hid (ext_trans HX5.out hb6)
      clear hb6
      go_wp2_with fail
      go_ret
      exact Ret.mk HX6.out
    · have q1 : (e != 0) = true := by rw [bne_iff_ne]; exact he
      clear he
      go_enter Try.func6, Try.ntmps6
      go_wp2_with fail
      refine (awake_any _).mono ?_
      rintro _ w1 hr1
      obtain ⟨rfl, hb1⟩ := hr1
      have HX1 := Lib.hid hb1
      clear hb1
      go_wp2_with fail
      refine (pack_any l v _ _ _ _ _ HP hl (hF.out.ext HX1.out) (hU.out.ext HX1.out)).mono ?_
      rintro _ w2 hr2
      obtain ⟨rfl, hb2⟩ := hr2
      have HX2 := Lib.hid (ext_trans HX1.out hb2)
      clear hb2
      go_wp2_with fail
      refine (split_any l _ _ _ v 0 HQ hl (hF.out.ext HX2.out)).mono ?_
      rintro _ w3 hr3
      obtain ⟨sv, rfl, hb3, hu3⟩ := hr3
      have HX3 := Lib.hid (ext_trans HX2.out hb3)
      have HA := Lib.hid hu3
      clear hb3 hu3
      go_wp2_with fail
      refine (same_any v v _ _ _ true (hid_yes rfl) hv HA.out (hU.out.ext HX3.out)).mono ?_
      rintro _ w4 hr4
      obtain ⟨rfl, hb4⟩ := hr4
      have HX4 := Lib.hid (ext_trans HX3.out hb4)
      clear hb4 HA
      go_wp2_with fail
      refine (split_any l _ _ _ [] e HS hl (hF.out.ext HX4.out)).mono ?_
      rintro _ w5 hr5
      obtain ⟨sv', rfl, hb5, hu5⟩ := hr5
      have HX5 := Lib.hid (ext_trans HX4.out hb5)
      obtain ⟨a5, cap5, rfl⟩ := us_empty hu5
      clear hb5 hu5
      go_wp2_with fail
      go_ret
      exact Ret.mk HX5.out
  · have HP : Hid (PackSpec l v 0#64 1) := ⟨fun hn => absurd hn ok, fun _ => ⟨rfl, rfl⟩⟩
    clear ok
    rcases hb with ⟨rfl, hb⟩ | ⟨he, rfl⟩
    · have HB := Lib.hid hb
      clear hb
      go_enter Try.func6, Try.ntmps6
      go_wp2_with fail
      refine (awake_any _).mono ?_
      rintro _ w1 hr1
      obtain ⟨rfl, hb1⟩ := hr1
      have HX1 := Lib.hid hb1
      clear hb1
      go_wp2_with fail
      refine (pack_any l v _ _ _ _ _ HP hl (hF.out.ext HX1.out) (hU.out.ext HX1.out)).mono ?_
      rintro _ w2 hr2
      obtain ⟨rfl, hb2⟩ := hr2
      have HX2 := Lib.hid (ext_trans HX1.out hb2)
      clear hb2
      go_wp2_with fail
      refine (split_any l _ _ _ r 0 HS hl (hF.out.ext HX2.out)).mono ?_
      rintro _ w5 hr5
      obtain ⟨sv', rfl, hb5, hu5⟩ := hr5
      have HX5 := Lib.hid (ext_trans HX2.out hb5)
      have HA5 := Lib.hid hu5
      clear hb5 hu5
      go_wp2_with fail
      refine (pack_any l r _ _ _ _ _ HB hl (hF.out.ext HX5.out) HA5.out).mono ?_
      rintro _ w6 hr6
      obtain ⟨rfl, hb6⟩ := hr6
      have HX6 := Lib.hid (ext_trans HX5.out hb6)
      clear hb6
      go_wp2_with fail
      go_ret
      exact Ret.mk HX6.out
    · have q1 : (e != 0) = true := by rw [bne_iff_ne]; exact he
      clear he
      go_enter Try.func6, Try.ntmps6
      go_wp2_with fail
      refine (awake_any _).mono ?_
      rintro _ w1 hr1
      obtain ⟨rfl, hb1⟩ := hr1
      have HX1 := Lib.hid hb1
      clear hb1
      go_wp2_with fail
      refine (pack_any l v _ _ _ _ _ HP hl (hF.out.ext HX1.out) (hU.out.ext HX1.out)).mono ?_
      rintro _ w2 hr2
      obtain ⟨rfl, hb2⟩ := hr2
      have HX2 := Lib.hid (ext_trans HX1.out hb2)
      clear hb2
      go_wp2_with fail
      refine (split_any l _ _ _ [] e HS hl (hF.out.ext HX2.out)).mono ?_
      rintro _ w5 hr5
      obtain ⟨sv', rfl, hb5, hu5⟩ := hr5
      have HX5 := Lib.hid (ext_trans HX2.out hb5)
      obtain ⟨a5, cap5, rfl⟩ := us_empty hu5
      clear hb5 hu5
      go_wp2_with fail
      go_ret
      exact Ret.mk HX5.out

set_option maxHeartbeats 400000 in
theorem fieldBack_great (n m : Nat) (y : BitVec 64) (a0 a1 : Option Addr) (cap cap1 : Nat) (w : World) (h : ¬ (n ≤ 64 ∧ m ≤ 70)) :
    Calls Try.prog 6 #[.slice a0 n cap, .slice a1 m cap1, .int .u64 (U y)] w (Ret (.bool true) w) := by
  by_cases hn : n ≤ 64
  · have hm : 70 < m := by omega
    clear h
    go_enter Try.func6, Try.ntmps6
    go_wp2_with (go_at_call 10; refine (awake_any _).mono ?_; rintro e w' hr'; obtain ⟨rfl, s, rfl⟩ := hr'.over; clear hr')
    go_ret
    exact Ret.mk (by repeat (first | exact ext_refl _ | apply ext_over | apply ext_alloc))
  · have hm : 64 < n := by omega
    clear h hn
    go_enter Try.func6, Try.ntmps6
    go_wp2_with (go_at_call 10; refine (awake_any _).mono ?_; rintro e w' hr'; obtain ⟨rfl, s, rfl⟩ := hr'.over; clear hr')
    go_ret
    exact Ret.mk (by repeat (first | exact ext_refl _ | apply ext_over | apply ext_alloc))

theorem fieldBack_any (l : List (Int × Int)) (v : List (BitVec 64)) (y : BitVec 64) (lv vv : Value) (w : World) (hF : Fs w lv l) (hU : Us w vv v) :
    Calls Try.prog 6 #[lv, vv, .int .u64 (U y)] w (Ret (.bool true) w) := by
  have hF' := hF
  have hU' := hU
  obtain ⟨a0, cap, rfl, _⟩ := hF'
  obtain ⟨a1, cap1, rfl, _⟩ := hU'
  by_cases h : l.length ≤ 64 ∧ v.length ≤ 70
  · exact fieldBack_small l v y a0 a1 cap cap1 w h.1 h.2 (Lib.hid hF) (Lib.hid hU)
  · exact fieldBack_great l.length v.length y a0 a1 cap cap1 w h

end Go.Proofs.Ytbklgpeikdgjfaa
