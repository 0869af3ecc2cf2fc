/-
  FieldPacks: the call's ways, walked. Conditions: those of each theorem.
-/
import Derived.Test.YtbklgpeikdgjfaaPack
import Derived.Test.YtbklgpeikdgjfaaRPack
namespace Go.Proofs.Ytbklgpeikdgjfaa
open Go Go.RowKit

set_option maxHeartbeats 400000 in
theorem fieldPacks_small (l : List (Int × Int)) (v : List (BitVec 64)) (a0 a1 : Option Addr) (cap cap1 : Nat) (w : World) (hl : l.length ≤ 64) (hv : v.length ≤ 70)
    (hF : Hid (Fs w (.slice a0 l.length cap) l)) (hU : Hid (Us w (.slice a1 v.length cap1) v)) :
    Calls Try.prog 4 #[.slice a0 l.length cap, .slice a1 v.length cap1] w (Ret (.bool true) w) := by
  obtain ⟨x, e, hs⟩ := packSpec_of l v
  obtain ⟨y, r, _, hr⟩ := covSpec_of l
  have HS := Lib.hid hs
  have HR := Lib.hid hr
  clear hs hr
  go_enter Try.func4, Try.ntmps4
  go_wp2_with (first
    | (go_at_call 10; refine (awake_any _).mono ?_; rintro e w' hr'; obtain ⟨rfl, s, rfl⟩ := hr'.over; clear hr')
    | (go_at_call 19; refine (pack_any l v _ _ _ x e HS hl (hF.out.over _) (hU.out.over _)).mono ?_; rintro e w' hr'; obtain ⟨rfl, s, rfl⟩ := hr'.over; clear hr')
    | (go_at_call 20; refine (rpack_any l v _ _ _ x e HS hl (hF.out.over _) (hU.out.over _)).mono ?_; rintro e w' hr'; obtain ⟨rfl, s, rfl⟩ := hr'.over; clear hr')
    | (go_at_call 21; refine (formedL_any l _ _ r HR hl (hF.out.over _)).mono ?_; rintro e w' hr'; obtain ⟨rfl, s, rfl⟩ := hr'.over; clear hr')
    | (go_at_call 22; refine (layout_any l _ _ r HR hl (hF.out.over _)).mono ?_; rintro e w' hr'; obtain ⟨rfl, s, rfl⟩ := hr'.over; clear hr'))
  go_ret
  exact Ret.mk (by repeat (first | exact ext_refl _ | apply ext_over | apply ext_alloc))

set_option maxHeartbeats 400000 in
theorem fieldPacks_great (n m : Nat) (a0 a1 : Option Addr) (cap cap1 : Nat) (w : World) (h : ¬ (n ≤ 64 ∧ m ≤ 70)) :
    Calls Try.prog 4 #[.slice a0 n cap, .slice a1 m cap1] w (Ret (.bool true) w) := by
  by_cases hn : n ≤ 64
  · have hm : 70 < m := by omega
    clear h
    go_enter Try.func4, Try.ntmps4
    go_wp2_with (go_at_call 10; refine (awake_any _).mono ?_; rintro e w' hr'; obtain ⟨rfl, s, rfl⟩ := hr'.over; clear hr')
    go_ret
    exact Ret.mk (by repeat (first | exact ext_refl _ | apply ext_over | apply ext_alloc))
  · have hm : 64 < n := by omega
    clear h hn
    go_enter Try.func4, Try.ntmps4
    go_wp2_with (go_at_call 10; refine (awake_any _).mono ?_; rintro e w' hr'; obtain ⟨rfl, s, rfl⟩ := hr'.over; clear hr')
    go_ret
    exact Ret.mk (by repeat (first | exact ext_refl _ | apply ext_over | apply ext_alloc))

theorem fieldPacks_any (l : List (Int × Int)) (v : List (BitVec 64)) (lv vv : Value) (w : World) (hF : Fs w lv l) (hU : Us w vv v) :
    Calls Try.prog 4 #[lv, vv] w (Ret (.bool true) w) := by
  have hF' := hF
  have hU' := hU
  obtain ⟨a0, cap, rfl, _⟩ := hF'
  obtain ⟨a1, cap1, rfl, _⟩ := hU'
  by_cases h : l.length ≤ 64 ∧ v.length ≤ 70
  · exact fieldPacks_small l v a0 a1 cap cap1 w h.1 h.2 (Lib.hid hF) (Lib.hid hU)
  · exact fieldPacks_great l.length v.length a0 a1 cap cap1 w h

end Go.Proofs.Ytbklgpeikdgjfaa
