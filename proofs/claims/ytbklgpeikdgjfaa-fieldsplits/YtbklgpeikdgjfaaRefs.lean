/-
  What the calls of the reference of layer 1 come to for one field: Formed, Most, Get, Put. Conditions: those of each theorem.
-/
import Derived.Test.YtbklgpeikdgjfaaFns
namespace Go.Proofs.Ytbklgpeikdgjfaa
open Go Go.RowKit

set_option maxHeartbeats 400000 in
theorem rformed_yes (a b : Int) (w : World) (h : Fm a b) :
    Calls Try.prog 12 #[.agg #[.int .i64 a, .int .i64 b]] w (Ret (.bool true) w) := by
  obtain ⟨h1, h2, h3, h4⟩ := h
  go_enter Try.func12, Try.ntmps12
  go_wp2
  go_ret
  exact Ret.mk (by repeat (first | exact ext_refl _ | apply ext_over | apply ext_alloc))

set_option maxHeartbeats 400000 in
theorem rformed_no (a b : Int) (w : World) (h : ¬ Fm a b) :
    Calls Try.prog 12 #[.agg #[.int .i64 a, .int .i64 b]] w (Ret (.bool false) w) := by
  unfold Fm at h
  by_cases h1 : 0 ≤ a
  · by_cases h2 : a ≤ 63
    · by_cases h3 : 1 ≤ b
      · have h4 : decide (b ≤ 64 - a) = false := by simp; omega
        clear h
        go_enter Try.func12, Try.ntmps12
        go_wp2
        go_ret
        exact Ret.mk (by repeat (first | exact ext_refl _ | apply ext_over | apply ext_alloc))
      · clear h
        go_enter Try.func12, Try.ntmps12
        go_wp2
        go_ret
        exact Ret.mk (by repeat (first | exact ext_refl _ | apply ext_over | apply ext_alloc))
    · clear h
      go_enter Try.func12, Try.ntmps12
      go_wp2
      go_ret
      exact Ret.mk (by repeat (first | exact ext_refl _ | apply ext_over | apply ext_alloc))
  · clear h
    go_enter Try.func12, Try.ntmps12
    go_wp2
    go_ret
    exact Ret.mk (by repeat (first | exact ext_refl _ | apply ext_over | apply ext_alloc))

theorem lowN_yes (a : Nat) (x : BitVec 64) (k : Nat) (h : x.getLsbD (a + k) = true) : lowN a x k ||| (1#64 <<< k) = lowN a x (k + 1) := by
  show _ = if x.getLsbD (a + k) = true then lowN a x k ||| (1#64 <<< k) else lowN a x k
  rw [if_pos h]
theorem lowN_no (a : Nat) (x : BitVec 64) (k : Nat) (h : x.getLsbD (a + k) = false) : lowN a x k = lowN a x (k + 1) := by
  show _ = if x.getLsbD (a + k) = true then lowN a x k ||| (1#64 <<< k) else lowN a x k
  rw [if_neg (by rw [h]; decide)]

/-- What a round of Get leaves. -/
def GetRel (a b : Int) (x : BitVec 64) (W : World) (v i : Value) (wr : World) : Prop :=
  ∃ k : Nat, (k : Int) ≤ b ∧ i = .int .i64 k ∧ v = .int .u64 (U (lowN a.toNat x k)) ∧ ∃ s, wr = over W s

set_option maxHeartbeats 400000 in
theorem rget_yes (a b : Int) (x : BitVec 64) (w : World) (h : Fm a b) :
    Calls Try.prog 16 #[.agg #[.int .i64 a, .int .i64 b], .int .u64 (U x)] w (Ret (.int .u64 (U (getN a b x))) w) := by
  have ⟨h1, h2, h3, h4⟩ := h
  go_enter Try.func16, Try.ntmps16
  go_wp2
  go_loopw [5, 6] (fun v i wr => GetRel a b x (w.alloc (Obj.cells #[Value.int IntKind.i64 a, Value.int IntKind.i64 b] 23)) v i wr) (fun _ i _ => (b - intOf i).toNat)
  case atStart => exact ⟨0, by omega, rfl, by rw [lowN, U_0], over_of (Below.refl _ _)⟩
  case round =>
    obtain ⟨k, hk, rfl, rfl, s, rfl⟩ := hrel
    by_cases hlt : (k : Int) < b
    · have e : (a + (k : Int)).toNat = a.toNat + k := by omega
      cases hb : x.getLsbD (a.toNat + k) with
      | true =>
        have hq := bit_shr x (a + (k : Int)).toNat
        rw [e, hb, ← e] at hq
        have HB := Lib.hid hb
        clear hb e
        go_wp2_with (go_at_call 12; refine (rformed_yes _ _ _ h).mono ?_; rintro e w' hr; obtain ⟨rfl, s, rfl⟩ := hr.over; clear hr)
        exact ⟨⟨k + 1, by omega, by go_num, by rw [lowN_yes _ _ _ HB.out], over_of (over_below _ _)⟩, by simp [intOf]; omega⟩
      | false =>
        have hq := bit_shr x (a + (k : Int)).toNat
        rw [e, hb, ← e] at hq
        have HB := Lib.hid hb
        clear hb e
        go_wp2_with (go_at_call 12; refine (rformed_yes _ _ _ h).mono ?_; rintro e w' hr; obtain ⟨rfl, s, rfl⟩ := hr.over; clear hr)
        exact ⟨⟨k + 1, by omega, by go_num, by rw [lowN_no _ _ _ HB.out], over_of (over_below _ _)⟩, by simp [intOf]; omega⟩
    · go_wp2
      go_ret
      exact Ret.int (by rw [← lowN_get a b x h, show b.toNat = k by omega]) (by repeat (first | exact ext_refl _ | apply ext_over | apply ext_alloc))

/-- The loop ends at once where the field isn't formed. -/
def NoRel (x i : Value) (W : World) (u v : Value) (wr : World) : Prop := u = x ∧ v = i ∧ ∃ s, wr = over W s

set_option maxHeartbeats 400000 in
theorem rget_no (a b : Int) (x : BitVec 64) (w : World) (h : ¬ Fm a b) :
    Calls Try.prog 16 #[.agg #[.int .i64 a, .int .i64 b], .int .u64 (U x)] w (Ret (.int .u64 0) w) := by
  go_enter Try.func16, Try.ntmps16
  go_wp2
  go_loopw [5, 6] (fun v i wr => NoRel (.int .u64 0) (.int .i64 0) (w.alloc (Obj.cells #[Value.int IntKind.i64 a, Value.int IntKind.i64 b] 23)) v i wr) (fun _ _ _ => 0)
  case atStart => exact ⟨rfl, rfl, over_of (Below.refl _ _)⟩
  case round =>
    obtain ⟨rfl, rfl, s, rfl⟩ := hrel
    by_cases hlt : 0 < b
    · go_wp2_with (go_at_call 12; refine (rformed_no _ _ _ h).mono ?_; rintro e w' hr; obtain ⟨rfl, s, rfl⟩ := hr.over; clear hr)
      go_ret
      exact Ret.mk (by repeat (first | exact ext_refl _ | apply ext_over | apply ext_alloc))
    · go_wp2
      go_ret
      exact Ret.mk (by repeat (first | exact ext_refl _ | apply ext_over | apply ext_alloc))

theorem putTo_yes (a : Nat) (x v : BitVec 64) (k : Nat) (h : v.getLsbD k = true) : putTo a x v k ||| (1#64 <<< (a + k)) = putTo a x v (k + 1) := by
  show _ = if v.getLsbD k = true then putTo a x v k ||| (1#64 <<< (a + k)) else putTo a x v k &&& ~~~ (1#64 <<< (a + k))
  rw [if_pos h]
theorem putTo_no (a : Nat) (x v : BitVec 64) (k : Nat) (h : v.getLsbD k = false) : putTo a x v k &&& ~~~ (1#64 <<< (a + k)) = putTo a x v (k + 1) := by
  show _ = if v.getLsbD k = true then putTo a x v k ||| (1#64 <<< (a + k)) else putTo a x v k &&& ~~~ (1#64 <<< (a + k))
  rw [if_neg (by rw [h]; decide)]

/-- What a round of Put leaves. -/
def PutRel (a b : Int) (x v : BitVec 64) (W : World) (u i : Value) (wr : World) : Prop :=
  ∃ k : Nat, (k : Int) ≤ b ∧ i = .int .i64 k ∧ u = .int .u64 (U (putTo a.toNat x v k)) ∧ ∃ s, wr = over W s

set_option maxHeartbeats 400000 in
theorem rput_yes (a b : Int) (x v : BitVec 64) (w : World) (h : Fm a b) :
    Calls Try.prog 18 #[.agg #[.int .i64 a, .int .i64 b], .int .u64 (U x), .int .u64 (U v)] w (Ret (.int .u64 (U (putN a b x v))) w) := by
  have ⟨h1, h2, h3, h4⟩ := h
  go_enter Try.func18, Try.ntmps18
  go_wp2
  go_loopw [1, 7] (fun u i wr => PutRel a b x v (w.alloc (Obj.cells #[Value.int IntKind.i64 a, Value.int IntKind.i64 b] 23)) u i wr) (fun _ i _ => (b - intOf i).toNat)
  case atStart => exact ⟨0, by omega, rfl, by rw [putTo], over_of (Below.refl _ _)⟩
  case round =>
    obtain ⟨k, hk, rfl, rfl, s, rfl⟩ := hrel
    by_cases hlt : (k : Int) < b
    · have e : (a + (k : Int)).toNat = a.toNat + k := by omega
      have E := Lib.hid e
      clear e
      cases hb : v.getLsbD k with
      | true =>
        have hq := bit_shr v k
        rw [hb] at hq
        have HB := Lib.hid hb
        clear hb
        go_wp2_with (go_at_call 12; refine (rformed_yes _ _ _ h).mono ?_; rintro e w' hr; obtain ⟨rfl, s, rfl⟩ := hr.over; clear hr)
        exact ⟨⟨k + 1, by omega, by go_num, by rw [E.out, putTo_yes _ _ _ _ HB.out], over_of (over_below _ _)⟩, by simp [intOf]; omega⟩
      | false =>
        have hq := bit_shr v k
        rw [hb] at hq
        have HB := Lib.hid hb
        clear hb
        go_wp2_with (go_at_call 12; refine (rformed_yes _ _ _ h).mono ?_; rintro e w' hr; obtain ⟨rfl, s, rfl⟩ := hr.over; clear hr)
        exact ⟨⟨k + 1, by omega, by go_num, by rw [E.out, putTo_no _ _ _ _ HB.out], over_of (over_below _ _)⟩, by simp [intOf]; omega⟩
    · go_wp2
      go_ret
      exact Ret.int (by rw [← putTo_put a b x v h, show b.toNat = k by omega]) (by repeat (first | exact ext_refl _ | apply ext_over | apply ext_alloc))

set_option maxHeartbeats 400000 in
theorem rput_no (a b : Int) (x v : BitVec 64) (w : World) (h : ¬ Fm a b) :
    Calls Try.prog 18 #[.agg #[.int .i64 a, .int .i64 b], .int .u64 (U x), .int .u64 (U v)] w (Ret (.int .u64 (U x)) w) := by
  go_enter Try.func18, Try.ntmps18
  go_wp2
  go_loopw [1, 7] (fun u i wr => NoRel (.int .u64 (U x)) (.int .i64 0) (w.alloc (Obj.cells #[Value.int IntKind.i64 a, Value.int IntKind.i64 b] 23)) u i wr) (fun _ _ _ => 0)
  case atStart => exact ⟨rfl, rfl, over_of (Below.refl _ _)⟩
  case round =>
    obtain ⟨rfl, rfl, s, rfl⟩ := hrel
    by_cases hlt : 0 < b
    · go_wp2_with (go_at_call 12; refine (rformed_no _ _ _ h).mono ?_; rintro e w' hr; obtain ⟨rfl, s, rfl⟩ := hr.over; clear hr)
      go_ret
      exact Ret.mk (by repeat (first | exact ext_refl _ | apply ext_over | apply ext_alloc))
    · go_wp2
      go_ret
      exact Ret.mk (by repeat (first | exact ext_refl _ | apply ext_over | apply ext_alloc))

theorem rget_ones (a b : Int) (w : World) (h : Fm a b) :
    Calls Try.prog 16 #[.agg #[.int .i64 a, .int .i64 b], .int .u64 18446744073709551615] w (Ret (.int .u64 (U (mostN b))) w) := by
  have := rget_yes a b 18446744073709551615#64 w h
  rw [U_ones, get_ones a b h] at this
  exact this
theorem rget_ones_no (a b : Int) (w : World) (h : ¬ Fm a b) :
    Calls Try.prog 16 #[.agg #[.int .i64 a, .int .i64 b], .int .u64 18446744073709551615] w (Ret (.int .u64 0) w) := by
  have := rget_no a b 18446744073709551615#64 w h
  rw [U_ones] at this
  exact this

set_option maxHeartbeats 400000 in
theorem rmost_yes (a b : Int) (w : World) (h : Fm a b) :
    Calls Try.prog 14 #[.agg #[.int .i64 a, .int .i64 b]] w (Ret (.int .u64 (U (mostN b))) w) := by
  go_enter Try.func14, Try.ntmps14
  go_wp2_with (go_at_call 16; refine (rget_ones _ _ _ h).mono ?_; rintro e w' hr; obtain ⟨rfl, s, rfl⟩ := hr.over; clear hr)
  go_ret
  exact Ret.mk (by repeat (first | exact ext_refl _ | apply ext_over | apply ext_alloc))

set_option maxHeartbeats 400000 in
theorem rmost_no (a b : Int) (w : World) (h : ¬ Fm a b) :
    Calls Try.prog 14 #[.agg #[.int .i64 a, .int .i64 b]] w (Ret (.int .u64 0) w) := by
  go_enter Try.func14, Try.ntmps14
  go_wp2_with (go_at_call 16; refine (rget_ones_no _ _ _ h).mono ?_; rintro e w' hr; obtain ⟨rfl, s, rfl⟩ := hr.over; clear hr)
  go_ret
  exact Ret.mk (by repeat (first | exact ext_refl _ | apply ext_over | apply ext_alloc))

end Go.Proofs.Ytbklgpeikdgjfaa
