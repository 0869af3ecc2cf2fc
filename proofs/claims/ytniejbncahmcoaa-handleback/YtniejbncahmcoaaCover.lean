/-
  What the calls of cover and of Formed (of a layout) come to. Conditions: those of each theorem.
-/
import Derived.Test.YtniejbncahmcoaaFns
import Derived.Test.YtniejbncahmcoaaFs
namespace Go.Proofs.Ytniejbncahmcoaa
open Go Go.RowKit

/-- What cover answers. -/
def CovSpec (l : List (Int × Int)) (x : BitVec 64) (r : Bool) : Prop := (LayF l → x = covTo l l.length ∧ r = true) ∧ (¬ LayF l → x = 0#64 ∧ r = false)
/-- The loop of cover. -/
def CovRel (l : List (Int × Int)) (w : World) (h i : Value) (wr : World) : Prop := ∃ k : Nat, k ≤ l.length ∧ LayTo l k ∧ h = .int .u64 (U (covTo l k)) ∧ i = .int .i64 k ∧ ∃ s, wr = over w s

theorem Ret.two {x y : Value} {x' y' : Value} {w w' : World} (e1 : x' = x) (e2 : y' = y) (h : Below w.heap.size w w') : Ret (.tuple #[x, y]) w (.returned (.tuple #[x', y'])) w' := ⟨by rw [e1, e2], h⟩

set_option maxHeartbeats 1000000 in
theorem cover_any (l : List (Int × Int)) (v : Value) (w : World) (x : BitVec 64) (r : Bool) (hs : Hid (CovSpec l x r)) (hl : l.length ≤ 64) (hF : Fs w v l) :
    Calls Try.prog 21 #[v] w (Ret (.tuple #[.int .u64 (U x), .bool r]) w) := by
  obtain ⟨a0, cap, rfl, hc, hcell⟩ := hF
  have HC := Lib.hid hcell
  clear hcell
  go_enter Try.func21, Try.ntmps21
  go_wp2
  go_loopw [4, 9] (fun h i wr => CovRel l w h i wr) (fun _ i _ => (l.length - intOf i).toNat)
  case atStart => exact ⟨0, by omega, LayTo.zero l, by rw [covTo, U_0], rfl, over_of (Below.refl _ _)⟩
  case round =>
    obtain ⟨k, hk, hto, rfl, rfl, s, rfl⟩ := hrel
    have HT := Lib.hid hto
    clear hto
    by_cases hlt : k < l.length
    · obtain ⟨b, off, rfl, hb, hcells⟩ := HC.out (by omega)
      obtain ⟨c1, c2⟩ := hcells k hlt
      clear hcells HC
      by_cases hf : Fm (fA l k) (fB l k)
      · by_cases hm : covTo l k &&& maskN (fA l k) (fB l k) = 0#64
        · have hq := U_eq0 _ hm
          have E : Hid (LayTo l (k + 1)) := Lib.hid (LayTo.succ HT.out hf ((cov_meet l k HT.out hf).1 hm))
          clear hm HT
          go_wp2_with (first
            | (go_at_call 26; refine (formed_yes _ _ _ hf).mono ?_; rintro e w' hr'; obtain ⟨rfl, s, rfl⟩ := hr'.over; clear hr')
            | (go_at_call 27; refine (mask_yes _ _ _ hf).mono ?_; rintro e w' hr'; obtain ⟨rfl, s, rfl⟩ := hr'.over; clear hr'))
          exact ⟨⟨k + 1, by omega, E.out, rfl, by go_num, over_of (by repeat (first | exact ext_refl _ | apply ext_over | apply ext_alloc))⟩, by simp [intOf]; omega⟩
        · have hq := U_ne0 _ hm
          have E : Hid (Value.int .u64 0 = Value.int .u64 (U x) ∧ Value.bool false = Value.bool r) := by
            have hn : ¬ LayF l := fun h => hm ((cov_meet l k HT.out hf).2 (h k hlt).2)
            exact ⟨by rw [(hs.out.2 hn).1, U_0], by rw [(hs.out.2 hn).2]⟩
          clear hm HT
          go_wp2_with (first
            | (go_at_call 26; refine (formed_yes _ _ _ hf).mono ?_; rintro e w' hr'; obtain ⟨rfl, s, rfl⟩ := hr'.over; clear hr')
            | (go_at_call 27; refine (mask_yes _ _ _ hf).mono ?_; rintro e w' hr'; obtain ⟨rfl, s, rfl⟩ := hr'.over; clear hr'))
          go_ret2
          exact Ret.two E.out.1 E.out.2 (by repeat (first | exact ext_refl _ | apply ext_over | apply ext_alloc))
      · have E : Hid (Value.int .u64 0 = Value.int .u64 (U x) ∧ Value.bool false = Value.bool r) := by
          have hn : ¬ LayF l := fun h => hf (h k hlt).1
          exact ⟨by rw [(hs.out.2 hn).1, U_0], by rw [(hs.out.2 hn).2]⟩
        clear HT
        go_wp2_with (go_at_call 26; refine (formed_no _ _ _ hf).mono ?_; rintro e w' hr'; obtain ⟨rfl, s, rfl⟩ := hr'.over; clear hr')
        go_ret2
        exact Ret.two E.out.1 E.out.2 (by repeat (first | exact ext_refl _ | apply ext_over | apply ext_alloc))
    · obtain rfl : k = l.length := by omega
      have E : Hid (Value.int .u64 (U (covTo l l.length)) = Value.int .u64 (U x) ∧ Value.bool true = Value.bool r) := ⟨by rw [(hs.out.1 HT.out).1], by rw [(hs.out.1 HT.out).2]⟩
      clear HT
      go_wp2
      go_ret2
      exact Ret.two E.out.1 E.out.2 (by repeat (first | exact ext_refl _ | apply ext_over | apply ext_alloc))

theorem covSpec_of (l : List (Int × Int)) : ∃ x r, CovSpec l x r ∧ (r = true ↔ LayF l) := by
  by_cases h : LayF l
  · exact ⟨covTo l l.length, true, ⟨fun _ => ⟨rfl, rfl⟩, fun hn => absurd h hn⟩, by simp [h]⟩
  · exact ⟨0#64, false, ⟨fun hn => absurd hn h, fun _ => ⟨rfl, rfl⟩⟩, by simp [h]⟩

set_option maxHeartbeats 400000 in
theorem formedL_any (l : List (Int × Int)) (v : Value) (w : World) (r : Bool) (hr : Hid (r = true ↔ LayF l)) (hl : l.length ≤ 64) (hF : Fs w v l) :
    Calls Try.prog 23 #[v] w (Ret (.bool r) w) := by
  obtain ⟨x, r', hs, hr'⟩ := covSpec_of l
  obtain rfl : r = r' := by
    have h1 := hr.out
    rw [Bool.eq_iff_iff, h1, hr']
  have HS := Lib.hid hs
  clear hs hr' hr
  go_enter Try.func23, Try.ntmps23
  go_wp2_with (go_at_call 21; refine (cover_any l v _ x r HS hl hF).mono ?_; rintro e w' hr'; obtain ⟨rfl, s, rfl⟩ := hr'.over; clear hr')
  go_ret
  exact Ret.mk (by repeat (first | exact ext_refl _ | apply ext_over | apply ext_alloc))

end Go.Proofs.Ytniejbncahmcoaa
