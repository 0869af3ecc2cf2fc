/-
  What the call of New comes to. Conditions: those of each theorem.
-/
import Derived.Test.YthepcnffadjeaaaInts
import Derived.Test.YthepcnffadjeaaaMemM
import Derived.Test.YthepcnffadjeaaaMix
namespace Go.Proofs.Ythepcnffadjeaaa
open Go Go.RowKit

/-- The loop of fit: the first k sizes fit. -/
def FitRel (l : List Int) (left i : Value) : Prop := ∃ k : Nat, k ≤ l.length ∧ i = .int .i64 (k : Int) ∧ left = .int .i64 (16777216 - sumTo l k) ∧ FitTo' l k

set_option maxHeartbeats 400000 in
theorem fit_any (l : List Int) (v : Value) (w : World) (r : Bool) (hr : Hid (r = true ↔ FitTo' l l.length)) (hl : l.length ≤ 65) (hI : Is w v l) :
    Calls Try.prog 26 #[v] w (Ret (.bool r) w) := by
  have HI := Lib.hid hI
  obtain ⟨a0, cap, rfl, hc, hcell⟩ := hI
  clear hcell
  go_enter Try.func26, Try.ntmps26
  go_wp2
  go_loop [3, 8] (fun left i => FitRel l left i) (fun _ i => (l.length - intOf i).toNat)
  case atStart => exact ⟨0, Nat.zero_le _, rfl, rfl, FitTo'.zero l⟩
  case round =>
    obtain ⟨k, hk, rfl, rfl, hf⟩ := hrel
    have HF := Lib.hid hf
    have hsum := hf.sum
    clear hf
    by_cases hlt : k < l.length
    · obtain ⟨b, off, rfl, hb, hcells⟩ := HI.out.at (by omega)
      have c1 := hcells k hlt
      clear hcells
      by_cases h0 : 0 ≤ iN l k
      · by_cases h1 : iN l k ≤ 16777216 - sumTo l k
        · go_wp2
          exact ⟨⟨k + 1, by omega, by go_num, by simp only [sumTo]; go_num, HF.out.succ h0 h1⟩, by simp [intOf]; omega⟩
        · have h2 : 16777216 - sumTo l k < iN l k := by omega
          have E : Hid (false = r) := by
            refine Lib.hid ?_
            cases r with
            | false => rfl
            | true => exact absurd (hr.out.1 rfl k hlt).2 h1
          clear h1
          go_wp2
          go_ret
          exact Ret.bool E.out (ext_refl _)
      · have h2 : iN l k < 0 := by omega
        have E : Hid (false = r) := by
          refine Lib.hid ?_
          cases r with
          | false => rfl
          | true => exact absurd (hr.out.1 rfl k hlt).1 h0
        clear h0
        go_wp2
        go_ret
        exact Ret.bool E.out (ext_refl _)
    · obtain rfl : k = l.length := by omega
      have E : Hid (true = r) := Lib.hid (hr.out.2 HF.out).symm
      go_wp2
      go_ret
      exact Ret.bool E.out (ext_refl _)

/-- The memory that is made. -/
def M0 (l : List Int) (k : Nat) : MS := { n := k, sz := fun i => (iN l i).toNat, wd := fun _ _ => 0#64, ep := fun _ => 1#64, ct := 0 }
/-- What New comes to. -/
def RetNew (l : List Int) (w : World) (e : Ending) (w' : World) : Prop :=
  ∃ L : Lay, e = .returned (.tuple #[.pointer (some ⟨L.bm, 0, none⟩), .int .i64 0]) ∧ MemIn w.heap.size w'.heap.size L (M0 l l.length) w' ∧ Ext w w'

set_option maxHeartbeats 400000 in
theorem new_no (l : List Int) (v : Value) (w : World) (hn : ¬ SizesOk l) (hI : Is w v l) :
    Calls Try.prog 10 #[v] w (Ret (.tuple #[.pointer none, .int .i64 1]) w) := by
  have HI := Lib.hid hI
  obtain ⟨a0, cap, rfl, hc, hcell⟩ := hI
  clear hcell
  by_cases h65 : l.length ≤ 65
  · have HF := Lib.hid (fun h => hn ⟨h65, h⟩ : ¬ FitTo' l l.length)
    have h65' : decide (65 < (l.length : Int)) = false := by simp; omega
    clear hn
    go_enter Try.func10, Try.ntmps10
    go_wp2_with (go_at_call 26; refine (fit_any l _ _ false (hid_no HF.out) h65 HI.out).mono ?_; rintro e w' hr'; obtain ⟨rfl, s, rfl⟩ := hr'.over; clear hr')
    go_ret2
    exact Ret.mk (by repeat (first | exact ext_refl _ | apply ext_over))
  · have h65' : 65 < l.length := by omega
    clear hn h65
    go_enter Try.func10, Try.ntmps10
    go_wp2
    go_ret2
    exact Ret.mk (ext_refl _)
end Go.Proofs.Ythepcnffadjeaaa
