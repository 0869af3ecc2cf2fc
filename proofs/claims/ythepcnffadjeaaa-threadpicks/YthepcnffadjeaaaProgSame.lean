/-
  What the call of the reference's Same comes to. Conditions: those of the theorem.
-/
import Derived.Test.YthepcnffadjeaaaUs
namespace Go.Proofs.Ythepcnffadjeaaa
open Go Go.RowKit

/-- The first k words are the same. -/
def SameTo (l m : List (BitVec 64)) (k : Nat) : Prop := ∀ i, i < k → uN l i = uN m i
theorem SameTo.succ {l m : List (BitVec 64)} {k : Nat} (h : SameTo l m k) (e : uN l k = uN m k) : SameTo l m (k + 1) := fun i hi => by
  by_cases c : i = k
  · subst c; exact e
  · exact h i (by omega)
theorem same_all {l m : List (BitVec 64)} (e : l.length = m.length) (h : SameTo l m l.length) : l = m := by
  apply List.ext_getElem e
  intro i h1 h2
  have := h i h1
  unfold uN at this
  rw [List.getD_eq_getElem?_getD, List.getD_eq_getElem?_getD, List.getElem?_eq_getElem h1, List.getElem?_eq_getElem h2] at this
  exact this
theorem bool_not {r : Bool} {p : Prop} (h : ¬ p) (hr : Hid (r = true ↔ p)) : false = r := by
  cases r
  · rfl
  · exact absurd (hr.out.1 rfl) h

def SameUs (l m : List (BitVec 64)) (w : World) (i : Value) (wr : World) : Prop := ∃ k : Nat, k ≤ l.length ∧ SameTo l m k ∧ i = .int .i64 k ∧ ∃ s, wr = over w s

set_option maxHeartbeats 400000 in
theorem same_any (l m : List (BitVec 64)) (lv mv : Value) (w : World) (r : Bool) (hr : Hid (r = true ↔ l = m)) (hl : l.length ≤ 70) (hL : Us w lv l) (hM : Us w mv m) :
    Calls Try.prog 20 #[lv, mv] w (Ret (.bool r) w) := by
  by_cases hlen : l.length = m.length
  · obtain ⟨a0, cap, rfl, hc, hcell⟩ := hL
    obtain ⟨a1, cap1, rfl, hc1, hcell1⟩ := hM
    rw [← hlen] at hc1 hcell1 ⊢
    have HL := Lib.hid hlen
    have HC := Lib.hid hcell
    have HC1 := Lib.hid hcell1
    clear hcell hcell1 hlen
    go_enter Try.func20, Try.ntmps20
    go_wp2
    go_loopw [5] (fun i wr => SameUs l m w i wr) (fun i _ => (l.length - intOf i).toNat)
    case atStart => exact ⟨0, by omega, fun _ h => absurd h (Nat.not_lt_zero _), rfl, over_of (Below.refl _ _)⟩
    case round =>
      obtain ⟨k, hk, hto, rfl, s, rfl⟩ := hrel
      have HT := Lib.hid hto
      clear hto
      by_cases hlt : k < l.length
      · obtain ⟨b, off, rfl, hb, hcells⟩ := HC.out (by omega)
        obtain ⟨b1, off1, rfl, hb1, hcells1⟩ := HC1.out (by omega)
        have c1 := hcells k hlt
        have c2 := hcells1 k hlt
        clear hcells hcells1 HC HC1
        by_cases t : uN l k = uN m k
        · have q1 : (U (uN l k) != U (uN m k)) = false := by rw [t]; simp
          have E : Hid (SameTo l m (k + 1)) := Lib.hid (HT.out.succ t)
          clear t HT
          go_wp2
          first | refine wp_region_over2 (by kernel_rfl) (by kernel_rfl) ?_ | refine wp_region_over (by kernel_rfl) (by kernel_rfl) ?_
          repeat (go_big_quiet_step (fail))
          refine wpQuiet_nil ?_
          intro _ hw'
          obtain ⟨s1, hw''⟩ := hw'
          subst hw''
          go_wp2
          exact ⟨⟨k + 1, by omega, E.out, by go_num, over_of (over_below _ _)⟩, by simp [intOf]; omega⟩
        · have q1 : (U (uN l k) != U (uN m k)) = true := by rw [bne_iff_ne]; exact fun e => t (U_inj e)
          have E : Hid (false = r) := Lib.hid (bool_not (fun e => t (by rw [e])) hr)
          clear t HT
          go_wp2
          first | refine wp_region_over2 (by kernel_rfl) (by kernel_rfl) ?_ | refine wp_region_over (by kernel_rfl) (by kernel_rfl) ?_
          repeat (go_big_quiet_step (fail))
          refine wpQuiet_nil ?_
          intro _ hw'
          obtain ⟨s1, hw''⟩ := hw'
          subst hw''
          go_wp2
          go_ret
          exact Ret.bool E.out (by repeat (first | exact ext_refl _ | apply ext_over | apply ext_alloc))
      · obtain rfl : k = l.length := by omega
        have E : Hid (true = r) := Lib.hid (hr.out.2 (same_all HL.out HT.out)).symm
        go_wp2
        go_ret
        exact Ret.bool E.out (by repeat (first | exact ext_refl _ | apply ext_over | apply ext_alloc))
  · obtain ⟨a0, cap, rfl, hc, hcell⟩ := hL
    obtain ⟨a1, cap1, rfl, hc1, hcell1⟩ := hM
    clear hcell hcell1
    have q1 : ((l.length : Int) != (m.length : Int)) = true := by rw [bne_iff_ne]; omega
    have q2 : (l.length != m.length) = true := by rw [bne_iff_ne]; omega
    have E : Hid (false = r) := Lib.hid (bool_not (fun e => hlen (by rw [e])) hr)
    clear hlen
    go_enter Try.func20, Try.ntmps20
    go_wp2
    go_ret
    exact Ret.bool E.out (by repeat (first | exact ext_refl _ | apply ext_over | apply ext_alloc))

end Go.Proofs.Ythepcnffadjeaaa
