/-
  PlanRises: the call's ways, walked. Conditions: those of each theorem.
-/
import Derived.Test.YtdbbbefkahmneaaPlanIs
namespace Go.Proofs.Ytdbbbefkahmneaa
open Go Go.RowKit

/-- Where a node's words are. -/
theorem Pl.node_at {p : Pl} (h : p.ok) {x : Int} (h0 : 0 ≤ x) (h1 : x < p.n) : p.stF x = p.nod x ∧ p.nxF x = p.nod x + 1 ∧ p.fdF x 0 = p.nod x + 2 ∧ p.fdF x 1 = p.nod x + 3 ∧ p.fdF x 2 = p.nod x + 4 ∧ (1 ≤ p.nod x ∧ p.nod x ≤ 5275777) := by
  refine ⟨?_, ?_, ?_, ?_, ?_, Pl.nod_in h h0 (by omega)⟩
  · unfold Pl.stF; rw [if_pos ⟨h, h0, h1⟩]
  · unfold Pl.nxF; rw [if_pos ⟨h, h0, h1⟩]
  · unfold Pl.fdF; rw [if_pos ⟨h, ⟨h0, h1⟩, by omega, by omega⟩]; omega
  · unfold Pl.fdF; rw [if_pos ⟨h, ⟨h0, h1⟩, by omega, by omega⟩]; omega
  · unfold Pl.fdF; rw [if_pos ⟨h, ⟨h0, h1⟩, by omega, by omega⟩]; omega
theorem Pl.nod_pred (p : Pl) (x : Int) : p.nod (x - 1) = p.nod x - 5 := by unfold Pl.nod; omega
/-- Where a thread's words are. -/
theorem Pl.thread_at {p : Pl} (h : p.ok) {x : Int} (h0 : 0 ≤ x) (h1 : x < p.t) : (p.hazF x 0 = p.haz x ∧ p.hazF x 1 = p.haz x + 1 ∧ p.hazF x 2 = p.haz x + 2 ∧ (1 ≤ p.haz x ∧ p.haz x ≤ 16497)) ∧
    p.cntF x = p.cnt x ∧ p.retF x 0 = p.cnt x + 1 ∧ p.retF x (p.r - 1) = p.cnt x + p.r ∧ (1 ≤ p.cnt x ∧ p.cnt x ≤ 32897) := by
  have hr : 1 ≤ p.r := by unfold Pl.ok at h; omega
  refine ⟨⟨?_, ?_, ?_, Pl.haz_in h h0 (by omega)⟩, ?_, ?_, ?_, Pl.cnt_in h h0 (by omega)⟩
  · unfold Pl.hazF; rw [if_pos ⟨h, ⟨h0, h1⟩, by omega, by omega⟩]; omega
  · unfold Pl.hazF; rw [if_pos ⟨h, ⟨h0, h1⟩, by omega, by omega⟩]
  · unfold Pl.hazF; rw [if_pos ⟨h, ⟨h0, h1⟩, by omega, by omega⟩]
  · unfold Pl.cntF; rw [if_pos ⟨h, h0, h1⟩]
  · unfold Pl.retF; rw [if_pos ⟨h, ⟨h0, h1⟩, by omega, by omega⟩]; omega
  · unfold Pl.retF; rw [if_pos ⟨h, ⟨h0, h1⟩, by omega, by omega⟩]; omega
theorem Pl.nod_zero (p : Pl) : p.nod 0 = p.cnt (p.t - 1) + p.r + 1 := by
  unfold Pl.nod Pl.cnt
  rw [Int.sub_mul]
  omega

def RiseRel (n : Int) (W : World) (i : Value) (wr : World) : Prop := ∃ k : Nat, (k : Int) ≤ n ∧ i = .int .i64 (k : Int) ∧ ∃ s, wr = over W s

set_option maxRecDepth 8000 in
set_option maxHeartbeats 2000000 in
theorem planRises_any (p : Pl) (w : World) : Calls Try.prog 7 #[plV p] w (Ret (.bool true) w) := by
  by_cases hf : p.few
  · have F := Lib.hid hf
    clear hf
    by_cases hk : p.ok
    · have K := Lib.hid hk
      have hn1 : 1 ≤ p.n := (by unfold Pl.ok at hk; omega)
      have hn2 : p.n ≤ 40 := (F.out hk).1
      have ht1 : 1 ≤ p.t := (by unfold Pl.ok at hk; omega)
      have ht2 : p.t ≤ 16 := (by unfold Pl.ok at hk; omega)
      clear hk
      go_enter Try.func7, Try.ntmps7
      go_wp2_with (first
        | (go_at_call 8; refine (awake_any _).mono ?_; rintro e w' hr'; obtain ⟨rfl, s, rfl⟩ := hr'.over; clear hr')
        | (go_at_call 9; refine (few_any p _ true (hid_yes F.out)).mono ?_; rintro e w' hr'; obtain ⟨rfl, s1, rfl⟩ := hr'.over; clear hr')
        | (go_at_call 10; refine (rformed_any p _ true (hid_yes K.out)).mono ?_; rintro e w' hr'; obtain ⟨rfl, s2, rfl⟩ := hr'.over; clear hr'))
      go_loopw [3] (fun i wr => RiseRel p.n (w.alloc (.cells #[.int .i64 p.n, .int .i64 p.t, .int .i64 p.r, .int .i64 p.d, .int .i64 p.b, .int .i64 p.g] 23)) i wr) (fun i _ => (p.n - intOf i).toNat)
      case atStart => exact ⟨0, by omega, rfl, _, rfl⟩
      case round =>
        obtain ⟨k, hk, rfl, s3, rfl⟩ := hrel
        by_cases hlt : (k : Int) < p.n
        · obtain ⟨a, ha⟩ : ∃ a, a = p.nod k := ⟨_, rfl⟩
          have hat := Pl.node_at K.out (x := (k : Int)) (by omega) hlt
          rw [← ha] at hat
          obtain ⟨e1, e2, e3, _, e4, hb⟩ := hat
          have HA := Lib.hid ha
          clear ha
          by_cases h0 : 0 < k
          · have e5 : p.stF ((k : Int) - 1) = a - 5 := (by rw [(Pl.node_at K.out (x := (k : Int) - 1) (by omega) (by omega)).1, Pl.nod_pred, ← HA.out])
            go_wp2_with (first | (go_at_call 21; refine (state_any p _ _).mono ?_; rintro e w' hr'; obtain ⟨rfl, t1, rfl⟩ := hr'.over; clear hr') | (go_at_call 25; refine (next_any p _ _).mono ?_; rintro e w' hr'; obtain ⟨rfl, t2, rfl⟩ := hr'.over; clear hr') | (go_at_call 19; refine (field_any p _ _ _).mono ?_; rintro e w' hr'; obtain ⟨rfl, t3, rfl⟩ := hr'.over; clear hr'))
            exact ⟨⟨k + 1, by omega, by go_num, _, rfl⟩, by simp [intOf]; omega⟩
          · have h00 : (k : Int) ≤ 0 := by omega
            go_wp2_with (first | (go_at_call 21; refine (state_any p _ _).mono ?_; rintro e w' hr'; obtain ⟨rfl, t1, rfl⟩ := hr'.over; clear hr') | (go_at_call 25; refine (next_any p _ _).mono ?_; rintro e w' hr'; obtain ⟨rfl, t2, rfl⟩ := hr'.over; clear hr') | (go_at_call 19; refine (field_any p _ _ _).mono ?_; rintro e w' hr'; obtain ⟨rfl, t3, rfl⟩ := hr'.over; clear hr'))
            exact ⟨⟨k + 1, by omega, by go_num, _, rfl⟩, by simp [intOf]; omega⟩
        · have hlt' : p.n ≤ (k : Int) := by omega
          have hr1 : 1 ≤ p.r := (by have := K.out; unfold Pl.ok at this; omega)
          have hr2 : p.r ≤ 1024 := (by have := K.out; unfold Pl.ok at this; omega)
          go_wp2
          clear hlt' hlt hk
          go_loopw [5] (fun i wr => RiseRel p.t (w.alloc (.cells #[.int .i64 p.n, .int .i64 p.t, .int .i64 p.r, .int .i64 p.d, .int .i64 p.b, .int .i64 p.g] 23)) i wr) (fun i _ => (p.t - intOf i).toNat)
          case atStart => exact ⟨0, by omega, rfl, _, rfl⟩
          case round =>
            obtain ⟨q, hq, rfl, s4, rfl⟩ := hrel
            by_cases hlt : (q : Int) < p.t
            · obtain ⟨a, ha⟩ : ∃ a, a = p.haz q := ⟨_, rfl⟩
              obtain ⟨b, hb⟩ : ∃ b, b = p.cnt q := ⟨_, rfl⟩
              have hat := Pl.thread_at K.out (x := (q : Int)) (by omega) hlt
              rw [← ha, ← hb] at hat
              obtain ⟨⟨e1, e2, _, ha'⟩, e3, e4, e5, hb'⟩ := hat
              clear ha hb
              go_wp2
              refine wp_region_over2 (by kernel_rfl) (by kernel_rfl) ?_
              repeat (go_big_quiet_step (first
                | (go_at_call 22; exact over_call (hazard_any p _ _ _))
                | (go_at_call 23; exact over_call (cnt_any p _ _))
                | (go_at_call 26; exact over_call (retired_any p _ _ _))))
              refine wpQuiet_nil ?_
              intro _ hw'
              obtain ⟨s5, hw''⟩ := hw'
              subst hw''
              go_wp2
              exact ⟨⟨q + 1, by omega, by go_num, _, rfl⟩, by simp [intOf]; omega⟩
            · have hlt' : p.t ≤ (q : Int) := by omega
              obtain ⟨b, hb⟩ : ∃ b, b = p.cnt (p.t - 1) := ⟨_, rfl⟩
              have e1 : p.cntF (p.t - 1) = b := (by rw [hb]; exact (Pl.thread_at K.out (by omega) (by omega)).2.1)
              have e2 : p.stF 0 = b + p.r + 1 := (by rw [(Pl.node_at K.out (x := 0) (by omega) (by omega)).1, Pl.nod_zero, hb])
              have hb' : 1 ≤ b ∧ b ≤ 32897 := (by rw [hb]; exact Pl.cnt_in K.out (by omega) (by omega))
              clear hb
              go_wp2
              refine wp_region_over2 (by kernel_rfl) (by kernel_rfl) ?_
              repeat (go_big_quiet_step (first
                | (go_at_call 21; exact over_call (state_any p _ _))
                | (go_at_call 23; exact over_call (cnt_any p _ _))))
              refine wpQuiet_nil ?_
              intro _ hw'
              obtain ⟨s5, hw''⟩ := hw'
              subst hw''
              go_wp2
              go_ret
              exact Ret.mk (by repeat (first | exact ext_refl _ | apply ext_over | apply ext_alloc))
    · have K := Lib.hid hk
      clear hk
      go_enter Try.func7, Try.ntmps7
      go_wp2_with (first
        | (go_at_call 8; refine (awake_any _).mono ?_; rintro e w' hr'; obtain ⟨rfl, s, rfl⟩ := hr'.over; clear hr')
        | (go_at_call 9; refine (few_any p _ true (hid_yes F.out)).mono ?_; rintro e w' hr'; obtain ⟨rfl, s1, rfl⟩ := hr'.over; clear hr')
        | (go_at_call 10; refine (rformed_any p _ false (hid_no K.out)).mono ?_; rintro e w' hr'; obtain ⟨rfl, s2, rfl⟩ := hr'.over; clear hr'))
      go_ret
      exact Ret.mk (by repeat (first | exact ext_refl _ | apply ext_over | apply ext_alloc))
  · have F := Lib.hid hf
    clear hf
    go_enter Try.func7, Try.ntmps7
    go_wp2_with (first
      | (go_at_call 8; refine (awake_any _).mono ?_; rintro e w' hr'; obtain ⟨rfl, s, rfl⟩ := hr'.over; clear hr')
      | (go_at_call 9; refine (few_any p _ false (hid_no F.out)).mono ?_; rintro e w' hr'; obtain ⟨rfl, s1, rfl⟩ := hr'.over; clear hr'))
    go_ret
    exact Ret.mk (by repeat (first | exact ext_refl _ | apply ext_over | apply ext_alloc))
end Go.Proofs.Ytdbbbefkahmneaa
