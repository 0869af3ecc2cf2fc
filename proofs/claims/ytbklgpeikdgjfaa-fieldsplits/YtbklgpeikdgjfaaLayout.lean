/-
  What the reference says of a layout: the call of Layout. Conditions: those of each theorem.
-/
import Derived.Test.YtbklgpeikdgjfaaRefs
import Derived.Test.YtbklgpeikdgjfaaFs
namespace Go.Proofs.Ytbklgpeikdgjfaa
open Go Go.RowKit

/-- The outer loop of Layout: the first k fields are a layout. -/
def LayRel (l : List (Int × Int)) (w : World) (i : Value) (wr : World) : Prop := ∃ k : Nat, k ≤ l.length ∧ LayTo l k ∧ i = .int .i64 k ∧ ∃ s, wr = over w s
/-- The inner one: the k-th meets none of the first m. -/
def LayIn (l : List (Int × Int)) (k : Nat) (w : World) (j : Value) (wr : World) : Prop := ∃ m : Nat, m ≤ k ∧ (∀ i, i < m → ¬ Meet (fA l i) (fB l i) (fA l k) (fB l k)) ∧ j = .int .i64 m ∧ ∃ s, wr = over w s

theorem bool_no {r : Bool} {p : Prop} (h : ¬ p) (hr : Hid (r = true ↔ p)) : false = r := by
  cases r
  · rfl
  · exact absurd (hr.out.1 rfl) h
theorem meet_succ {l : List (Int × Int)} {k m : Nat} (h : ∀ i, i < m → ¬ Meet (fA l i) (fB l i) (fA l k) (fB l k)) (hm : ¬ Meet (fA l m) (fB l m) (fA l k) (fB l k)) :
    ∀ i, i < m + 1 → ¬ Meet (fA l i) (fB l i) (fA l k) (fB l k) := fun i hi => by
  by_cases e : i = m
  · subst e; exact hm
  · exact h i (by omega)

set_option maxHeartbeats 1000000 in
theorem layout_any (l : List (Int × Int)) (v : Value) (w : World) (r : Bool) (hr : Hid (r = true ↔ Lay l)) (hl : l.length ≤ 64) (hF : Fs w v l) :
    Calls Try.prog 22 #[v] w (Ret (.bool r) w) := by
  obtain ⟨a0, cap, rfl, hc, hcell⟩ := hF
  have HC := Lib.hid hcell
  clear hcell
  go_enter Try.func22, Try.ntmps22
  go_wp2
  go_loopw [3] (fun i wr => LayRel l w i wr) (fun i _ => (l.length - intOf i).toNat)
  case atStart => exact ⟨0, by omega, LayTo.zero l, rfl, over_of (Below.refl _ _)⟩
  case round =>
    obtain ⟨k, hk, hto, rfl, s, rfl⟩ := hrel
    have HT := Lib.hid hto
    clear hto
    by_cases hlt : k < l.length
    · obtain ⟨b, off, rfl, hb, hcells⟩ := HC.out (by omega)
      obtain ⟨c1, c2⟩ := hcells k hlt
      have HS := Lib.hid hcells
      clear hcells HC
      by_cases hf : Fm (fA l k) (fB l k)
      · go_wp2_with (go_at_call 12; refine (rformed_yes _ _ _ hf).mono ?_; rintro e w' hr'; obtain ⟨rfl, s, rfl⟩ := hr'.over; clear hr')
        go_loopw [4] (fun j wr => LayIn l k w j wr) (fun j _ => (k - intOf j).toNat)
        case atStart => exact ⟨0, by omega, fun _ h => absurd h (Nat.not_lt_zero _), rfl, over_of (over_below _ _)⟩
        case round =>
          obtain ⟨m, hm, hno, rfl, s, rfl⟩ := hrel
          have HN := Lib.hid hno
          clear hno
          by_cases hmk : m < k
          · obtain ⟨d1, d2⟩ := HS.out m (by omega)
            have ⟨f1, f2, f3, f4⟩ := hf
            have ⟨g1, g2, g3, g4⟩ := (HT.out m hmk).1
            by_cases t1 : fA l m < fA l k + fB l k
            · by_cases t2 : fA l k < fA l m + fB l m
              · have E : Hid (false = r) := Lib.hid (bool_no (fun h => (h k hlt).2 m hmk ⟨t1, t2⟩) hr)
                go_wp2
                refine wp_region_over2 (by kernel_rfl) (by kernel_rfl) ?_
                repeat (go_big_quiet_step (fail))
                refine wpQuiet_nil ?_
                intro _ hw'
                obtain ⟨s', hw''⟩ := hw'
                subst hw''
                go_wp2
                go_ret
                exact Ret.bool E.out (by repeat (first | exact ext_refl _ | apply ext_over | apply ext_alloc))
              · have t3 : decide (fA l k < fA l m + fB l m) = false := by simpa using t2
                have E : Hid (∀ i, i < m + 1 → ¬ Meet (fA l i) (fB l i) (fA l k) (fB l k)) := Lib.hid (meet_succ HN.out (fun h => t2 h.2))
                clear t2 HN
                go_wp2
                refine wp_region_over2 (by kernel_rfl) (by kernel_rfl) ?_
                repeat (go_big_quiet_step (fail))
                refine wpQuiet_nil ?_
                intro _ hw'
                obtain ⟨s', hw''⟩ := hw'
                subst hw''
                go_wp2
                exact ⟨⟨m + 1, by omega, E.out, by go_num, over_of (over_below _ _)⟩, by simp [intOf]; omega⟩
            · have t3 : decide (fA l m < fA l k + fB l k) = false := by simpa using t1
              have E : Hid (∀ i, i < m + 1 → ¬ Meet (fA l i) (fB l i) (fA l k) (fB l k)) := Lib.hid (meet_succ HN.out (fun h => t1 h.1))
              clear t1 HN
              go_wp2
              refine wp_region_over2 (by kernel_rfl) (by kernel_rfl) ?_
              repeat (go_big_quiet_step (fail))
              refine wpQuiet_nil ?_
              intro _ hw'
              obtain ⟨s', hw''⟩ := hw'
              subst hw''
              go_wp2
              exact ⟨⟨m + 1, by omega, E.out, by go_num, over_of (over_below _ _)⟩, by simp [intOf]; omega⟩
          · obtain rfl : m = k := by omega
            have E : Hid (LayTo l (m + 1)) := Lib.hid (LayTo.succ HT.out hf HN.out)
            go_wp2
            exact ⟨⟨m + 1, by omega, E.out, by go_num, over_of (over_below _ _)⟩, by simp [intOf]; omega⟩
      · have E : Hid (false = r) := Lib.hid (bool_no (fun h => hf (h k hlt).1) hr)
        go_wp2_with (go_at_call 12; refine (rformed_no _ _ _ hf).mono ?_; rintro e w' hr'; obtain ⟨rfl, s, rfl⟩ := hr'.over; clear hr')
        go_ret
        exact Ret.bool E.out (by repeat (first | exact ext_refl _ | apply ext_over | apply ext_alloc))
    · obtain rfl : k = l.length := by omega
      have E : Hid (true = r) := Lib.hid (hr.out.2 HT.out).symm
      go_wp2
      go_ret
      exact Ret.bool E.out (by repeat (first | exact ext_refl _ | apply ext_over | apply ext_alloc))

end Go.Proofs.Ytbklgpeikdgjfaa
