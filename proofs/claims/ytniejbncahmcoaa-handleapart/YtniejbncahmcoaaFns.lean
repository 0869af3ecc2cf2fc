/-
  What the calls of package field (a field's Formed, Most, Get, Put, and the mask) and awake come to: contracts over the translation. Conditions: those of each theorem.
-/
import Derived.Test.YtniejbncahmcoaaLib
import Derived.Test.YtniejbncahmcoaaBv
namespace Go.Proofs.Ytniejbncahmcoaa
open Go Go.RowKit

set_option maxHeartbeats 400000 in
theorem formed_yes (a b : Int) (w : World) (h : Fm a b) :
    Calls Try.prog 26 #[.agg #[.int .i64 a, .int .i64 b]] w (Ret (.bool true) w) := by
  obtain ⟨h1, h2, h3, h4⟩ := h
  go_enter Try.func26, Try.ntmps26
  go_wp2
  go_ret
  exact Ret.mk (by repeat (first | exact ext_refl _ | apply ext_over | apply ext_alloc))

set_option maxHeartbeats 400000 in
theorem formed_no (a b : Int) (w : World) (h : ¬ Fm a b) :
    Calls Try.prog 26 #[.agg #[.int .i64 a, .int .i64 b]] w (Ret (.bool false) w) := by
  unfold Fm at h
  by_cases h1 : 0 ≤ a
  · by_cases h2 : a < 64
    · by_cases h3 : 1 ≤ b
      · have h4 : decide (b ≤ 64 - a) = false := by simp; omega
        clear h
        go_enter Try.func26, Try.ntmps26
        go_wp2
        go_ret
        exact Ret.mk (by repeat (first | exact ext_refl _ | apply ext_over | apply ext_alloc))
      · clear h
        go_enter Try.func26, Try.ntmps26
        go_wp2
        go_ret
        exact Ret.mk (by repeat (first | exact ext_refl _ | apply ext_over | apply ext_alloc))
    · clear h
      go_enter Try.func26, Try.ntmps26
      go_wp2
      go_ret
      exact Ret.mk (by repeat (first | exact ext_refl _ | apply ext_over | apply ext_alloc))
  · clear h
    go_enter Try.func26, Try.ntmps26
    go_wp2
    go_ret
    exact Ret.mk (by repeat (first | exact ext_refl _ | apply ext_over | apply ext_alloc))

set_option maxHeartbeats 400000 in
theorem most_yes (a b : Int) (w : World) (h : Fm a b) :
    Calls Try.prog 24 #[.agg #[.int .i64 a, .int .i64 b]] w (Ret (.int .u64 (U (mostN b))) w) := by
  have ⟨h1, h2, h3, h4⟩ := h
  go_enter Try.func24, Try.ntmps24
  go_wp2_with (go_at_call 26; refine (formed_yes _ _ _ h).mono ?_; rintro e w' hr; obtain ⟨rfl, s, rfl⟩ := hr.over; clear hr)
  go_ret
  refine Ret.int ?_ (by repeat (first | exact ext_refl _ | apply ext_over | apply ext_alloc))
  rw [show (64 - b).toNat = 64 - b.toNat by omega, ones_shr, mostN_def, U_toNat]

set_option maxHeartbeats 400000 in
theorem most_no (a b : Int) (w : World) (h : ¬ Fm a b) :
    Calls Try.prog 24 #[.agg #[.int .i64 a, .int .i64 b]] w (Ret (.int .u64 0) w) := by
  go_enter Try.func24, Try.ntmps24
  go_wp2_with (go_at_call 26; refine (formed_no _ _ _ h).mono ?_; rintro e w' hr; obtain ⟨rfl, s, rfl⟩ := hr.over; clear hr)
  go_ret
  exact Ret.mk (by repeat (first | exact ext_refl _ | apply ext_over | apply ext_alloc))

set_option maxHeartbeats 400000 in
theorem mask_yes (a b : Int) (w : World) (h : Fm a b) :
    Calls Try.prog 27 #[.agg #[.int .i64 a, .int .i64 b]] w (Ret (.int .u64 (U (maskN a b))) w) := by
  have ⟨h1, h2, h3, h4⟩ := h
  go_enter Try.func27, Try.ntmps27
  go_wp2
  first | refine wp_region_over2 (by kernel_rfl) (by kernel_rfl) ?_ | refine wp_region_over (by kernel_rfl) (by kernel_rfl) ?_
  repeat (go_big_quiet_step ((go_at_call 24; exact over_call (most_yes _ _ _ h))))
  refine wpQuiet_nil ?_
  intro _ hw'
  obtain ⟨s, hw''⟩ := hw'
  subst hw''
  go_wp2
  go_ret
  exact Ret.int (by rw [maskN_def]) (by repeat (first | exact ext_refl _ | apply ext_over | apply ext_alloc))

set_option maxHeartbeats 400000 in
theorem get_no (a b : Int) (x : BitVec 64) (w : World) (h : ¬ Fm a b) :
    Calls Try.prog 22 #[.agg #[.int .i64 a, .int .i64 b], .int .u64 (U x)] w (Ret (.int .u64 0) w) := by
  go_enter Try.func22, Try.ntmps22
  go_wp2_with (go_at_call 26; refine (formed_no _ _ _ h).mono ?_; rintro e w' hr; obtain ⟨rfl, s, rfl⟩ := hr.over; clear hr)
  go_ret
  exact Ret.mk (by repeat (first | exact ext_refl _ | apply ext_over | apply ext_alloc))

set_option maxHeartbeats 400000 in
theorem get_yes (a b : Int) (x : BitVec 64) (w : World) (h : Fm a b) :
    Calls Try.prog 22 #[.agg #[.int .i64 a, .int .i64 b], .int .u64 (U x)] w (Ret (.int .u64 (U (getN a b x))) w) := by
  have ⟨h1, h2, h3, h4⟩ := h
  go_enter Try.func22, Try.ntmps22
  go_wp2_with (go_at_call 26; refine (formed_yes _ _ _ h).mono ?_; rintro e w' hr; obtain ⟨rfl, s, rfl⟩ := hr.over; clear hr)
  first | refine wp_region_over2 (by kernel_rfl) (by kernel_rfl) ?_ | refine wp_region_over (by kernel_rfl) (by kernel_rfl) ?_
  repeat (go_big_quiet_step ((go_at_call 27; exact over_call (mask_yes _ _ _ h))))
  refine wpQuiet_nil ?_
  intro _ hw'
  obtain ⟨s', hw''⟩ := hw'
  subst hw''
  go_wp2
  go_ret
  exact Ret.int (by rw [getN_def]) (by repeat (first | exact ext_refl _ | apply ext_over | apply ext_alloc))

set_option maxHeartbeats 400000 in
theorem put_no (a b : Int) (x v : BitVec 64) (w : World) (h : ¬ Fm a b) :
    Calls Try.prog 25 #[.agg #[.int .i64 a, .int .i64 b], .int .u64 (U x), .int .u64 (U v)] w (Ret (.int .u64 (U x)) w) := by
  go_enter Try.func25, Try.ntmps25
  go_wp2_with (go_at_call 26; refine (formed_no _ _ _ h).mono ?_; rintro e w' hr; obtain ⟨rfl, s, rfl⟩ := hr.over; clear hr)
  go_ret
  exact Ret.mk (by repeat (first | exact ext_refl _ | apply ext_over | apply ext_alloc))

set_option maxHeartbeats 400000 in
theorem put_yes (a b : Int) (x v : BitVec 64) (w : World) (h : Fm a b) :
    Calls Try.prog 25 #[.agg #[.int .i64 a, .int .i64 b], .int .u64 (U x), .int .u64 (U v)] w (Ret (.int .u64 (U (putN a b x v))) w) := by
  have ⟨h1, h2, h3, h4⟩ := h
  go_enter Try.func25, Try.ntmps25
  go_wp2_with (go_at_call 26; refine (formed_yes _ _ _ h).mono ?_; rintro e w' hr; obtain ⟨rfl, s, rfl⟩ := hr.over; clear hr)
  first | refine wp_region_over2 (by kernel_rfl) (by kernel_rfl) ?_ | refine wp_region_over (by kernel_rfl) (by kernel_rfl) ?_
  repeat (go_big_quiet_step ((go_at_call 27; exact over_call (mask_yes _ _ _ h))))
  refine wpQuiet_nil ?_
  intro _ hw'
  obtain ⟨s', hw''⟩ := hw'
  subst hw''
  go_wp2
  go_ret
  exact Ret.int (by rw [putN_def]) (by repeat (first | exact ext_refl _ | apply ext_over | apply ext_alloc))

theorem put_at (a b x v : Int) (X V : BitVec 64) (w : World) (h : Fm a b) (hx : x = U X) (hv : v = U V) :
    Calls Try.prog 25 #[.agg #[.int .i64 a, .int .i64 b], .int .u64 x, .int .u64 v] w (Ret (.int .u64 (U (putN a b X V))) w) := by
  subst hx hv
  exact put_yes a b X V w h

theorem fm48 : Fm 4 8 := ⟨by decide, by decide, by decide, by decide⟩
theorem most48 (w : World) : Calls Try.prog 24 #[.agg #[.int .i64 4, .int .i64 8]] w (Ret (.int .u64 255) w) :=
  U_most8 ▸ most_yes 4 8 w fm48
theorem get48 (w : World) : Calls Try.prog 22 #[.agg #[.int .i64 4, .int .i64 8], .int .u64 147] w (Ret (.int .u64 9) w) :=
  U_get48 ▸ U_147 ▸ get_yes 4 8 147#64 w fm48

theorem put_put (a b : Int) (w v u : BitVec 64) (h : Fm a b) : putN a b (putN a b w v) u = putN a b w u := by
  apply bv_eq; intro i hi
  simp only [putN_bit a b _ _ i h hi]; split <;> rfl
theorem put_get (a b : Int) (w : BitVec 64) (h : Fm a b) : putN a b w (getN a b w) = w := by
  apply bv_eq; intro i hi
  rw [putN_bit a b _ _ i h hi]
  split
  · rename_i e
    obtain ⟨h1, h2, h3, h4⟩ := h
    rw [getN_bit a b _ _ ⟨h1, h2, h3, h4⟩, show a.toNat + (i - a.toNat) = i by omega]
    have : ((i - a.toNat : Nat) : Int) < b := by omega
    simp [this]
  · rfl
theorem get_put (a b : Int) (w v : BitVec 64) (h : Fm a b) : getN a b (putN a b w v) = v &&& mostN b := by
  apply bv_eq; intro i hi
  rw [getN_bit a b _ _ h, BitVec.getLsbD_and, mostN_bit b i (by have := h.2.2.1; omega) (by have := h.1; have := h.2.2.2; omega), Bool.and_comm]
  by_cases e : (i : Int) < b
  · obtain ⟨h1, h2, h3, h4⟩ := h
    rw [putN_bit a b _ _ _ ⟨h1, h2, h3, h4⟩ (by omega), if_pos (by omega), show a.toNat + i - a.toNat = i by omega]
  · simp [e]

end Go.Proofs.Ytniejbncahmcoaa
