/-
  What the calls of package mem come to, but for New: contracts over the translation. Conditions: those of each theorem.
-/
import Derived.Test.YthepcnffadjeaaaMemM
import Derived.Test.YthepcnffadjeaaaMix
namespace Go.Proofs.Ythepcnffadjeaaa
open Go Go.RowKit

section
variable {lo hi : Nat} {L : Lay} {M : MS} {w : World}

set_option maxHeartbeats 400000 in
theorem find_yes (h : MemIn lo hi L M w) (i : Nat) (hi' : i < M.n) :
    Calls Try.prog 30 #[.pointer (some ⟨L.bm, 0, none⟩), .int .i64 (i : Int)] w fun e w' => e = .returned (.pointer (some ⟨L.rb i, 0, none⟩)) ∧ w = w' := by
  have c0 := h.m0
  have c1 := h.p hi'
  have hr := (h.r (by omega)).1
  have h65 := h.few
  rw [hr] at c0
  clear hr h
  go_enter Try.func30, Try.ntmps30
  go_wp2
  go_ret
  exact ⟨rfl, rfl⟩

set_option maxHeartbeats 400000 in
theorem find_no (h : MemIn lo hi L M w) (i : Int) (hi' : ¬ (0 ≤ i ∧ i < M.n)) :
    Calls Try.prog 30 #[.pointer (some ⟨L.bm, 0, none⟩), .int .i64 i] w fun e w' => e = .returned (.pointer none) ∧ w = w' := by
  have c0 := h.m0
  have h65 := h.few
  clear h
  by_cases h0 : 0 ≤ i
  · have h1 : (M.n : Int) ≤ i := by omega
    clear hi'
    go_enter Try.func30, Try.ntmps30
    go_wp2
    go_ret
    exact ⟨rfl, rfl⟩
  · have h1 : i < 0 := by omega
    clear hi' h0
    go_enter Try.func30, Try.ntmps30
    go_wp2
    go_ret
    exact ⟨rfl, rfl⟩

set_option maxHeartbeats 400000 in
theorem has_yes (h : MemIn lo hi L M w) (i : Nat) (hi' : i < M.n) (j : Nat) (hj : j < M.sz i) :
    Calls Try.prog 40 #[.pointer (some ⟨L.rb i, 0, none⟩), .int .i64 (j : Int)] w fun e w' => e = .returned (.bool true) ∧ w = w' := by
  have c0 := h.r0 hi'
  have hs := h.small i hi'
  clear h
  go_enter Try.func40, Try.ntmps40
  go_wp2
  go_ret
  exact ⟨rfl, rfl⟩

set_option maxHeartbeats 400000 in
theorem has_no (h : MemIn lo hi L M w) (i : Nat) (hi' : i < M.n) (j : Int) (hj : ¬ (0 ≤ j ∧ j < M.sz i)) :
    Calls Try.prog 40 #[.pointer (some ⟨L.rb i, 0, none⟩), .int .i64 j] w fun e w' => e = .returned (.bool false) ∧ w = w' := by
  have c0 := h.r0 hi'
  have hs := h.small i hi'
  clear h
  by_cases h0 : 0 ≤ j
  · have h1 : decide (j < (M.sz i : Int)) = false := by simp; omega
    clear hj
    go_enter Try.func40, Try.ntmps40
    go_wp2
    go_ret
    exact ⟨rfl, rfl⟩
  · have h1 : j < 0 := by omega
    clear hj h0
    go_enter Try.func40, Try.ntmps40
    go_wp2
    go_ret
    exact ⟨rfl, rfl⟩

theorem U_add (x y : BitVec 64) : IntKind.u64.wrap (U x + U y) = U (x + y) := by
  rw [IntKind.wrap_u64, U_toNat, U_toNat, U_toNat, BitVec.toNat_add]
  omega

set_option maxHeartbeats 400000 in
theorem behind_any (op at_ : Int) (was a b : BitVec 64) (w : World) :
    Calls Try.prog 53 #[.int .u64 (U was), .agg #[.int .i64 op, .int .i64 at_, .int .u64 (U a), .int .u64 (U b)]] w (Ret (.int .u64 (U (nextW op was a b))) w) := by
  by_cases h1 : op = 1
  · subst h1
    have e : nextW 1 was a b = a := by simp [nextW]
    rw [e]; clear e
    go_enter Try.func53, Try.ntmps53
    go_wp2
    go_ret
    exact Ret.mk (by repeat (first | exact ext_refl _ | apply ext_over | apply ext_alloc))
  · by_cases h2 : op = 2
    · subst h2
      clear h1
      by_cases h3 : was = a
      · subst h3
        have e : nextW 2 was was b = b := by simp [nextW]
        rw [e]; clear e
        go_enter Try.func53, Try.ntmps53
        go_wp2
        go_ret
        exact Ret.mk (by repeat (first | exact ext_refl _ | apply ext_over | apply ext_alloc))
      · have e : nextW 2 was a b = was := by simp [nextW, h3]
        rw [e]; clear e
        have q : (U was == U a) = false := by rw [beq_eq_false_iff_ne]; intro hh; exact h3 (U_inj hh)
        clear h3
        go_enter Try.func53, Try.ntmps53
        go_wp2
        go_ret
        exact Ret.mk (by repeat (first | exact ext_refl _ | apply ext_over | apply ext_alloc))
    · by_cases h3 : op = 3
      · subst h3
        clear h1 h2
        have e : nextW 3 was a b = was + a := by simp [nextW]
        rw [e]; clear e
        go_enter Try.func53, Try.ntmps53
        go_wp2
        go_ret
        exact Ret.int (by first | rfl | exact U_add _ _ | simp [U_add]) (by repeat (first | exact ext_refl _ | apply ext_over | apply ext_alloc))
      · have e : nextW op was a b = was := by simp [nextW, h1, h2, h3]
        rw [e]; clear e
        have q1 : (op == 1) = false := by simpa using h1
        have q2 : (op == 2) = false := by simpa using h2
        have q3 : (op == 3) = false := by simpa using h3
        clear h1 h2 h3
        go_enter Try.func53, Try.ntmps53
        go_wp2
        go_ret
        exact Ret.mk (by repeat (first | exact ext_refl _ | apply ext_over | apply ext_alloc))
end
end Go.Proofs.Ythepcnffadjeaaa
