/-
  What the call of Pack comes to. Conditions: those of each theorem.
-/
import Derived.Test.YtniejbncahmcoaaCover
namespace Go.Proofs.Ytniejbncahmcoaa
open Go Go.RowKit

/-- The loop of Pack. -/
def PackRel (l : List (Int × Int)) (v : List (BitVec 64)) (w : World) (x i : Value) (wr : World) : Prop :=
  ∃ k : Nat, k ≤ l.length ∧ FitTo l v k ∧ x = .int .u64 (U (packTo l v k)) ∧ i = .int .i64 k ∧ ∃ s, wr = over w s

set_option maxHeartbeats 1000000 in
theorem pack_any (l : List (Int × Int)) (v : List (BitVec 64)) (lv vv : Value) (w : World) (x : BitVec 64) (e : Int) (hs : Hid (PackSpec l v x e)) (hl : l.length ≤ 64) (hF : Fs w lv l) (hU : Us w vv v) :
    Calls Try.prog 19 #[lv, vv] w (Ret (.tuple #[.int .u64 (U x), .int .i64 e]) w) := by
  by_cases hlay : LayF l
  · by_cases hlen : l.length = v.length
    · have HY := Lib.hid hlay
      have HFs := Lib.hid hF
      obtain ⟨a0, cap, rfl, hc, hcell⟩ := hF
      obtain ⟨a1, cap1, rfl, hc1, hcell1⟩ := hU
      rw [← hlen] at hc1 hcell1 ⊢
      have HL := Lib.hid hlen
      have HC := Lib.hid hcell
      have HC1 := Lib.hid hcell1
      clear hcell hcell1 hlen hlay
      go_enter Try.func19, Try.ntmps19
      go_wp2_with (go_at_call 23; refine (formedL_any l _ _ true (by exact Lib.hid (by simp [HY.out])) hl HFs.out).mono ?_; rintro e w' hr'; obtain ⟨rfl, s, rfl⟩ := hr'.over; clear hr')
      go_loopw [6, 21] (fun u i wr => PackRel l v w u i wr) (fun _ i _ => (l.length - intOf i).toNat)
      case atStart => exact ⟨0, by omega, FitTo.zero l v, by rw [packTo, U_0], rfl, over_of (over_below _ _)⟩
      case round =>
        obtain ⟨k, hk, hto, rfl, rfl, s, rfl⟩ := hrel
        have HT := Lib.hid hto
        clear hto
        by_cases hlt : k < l.length
        · obtain ⟨b, off, rfl, hb, hcells⟩ := HC.out (by omega)
          obtain ⟨b1, off1, rfl, hb1, hcells1⟩ := HC1.out (by omega)
          obtain ⟨c1, c2⟩ := hcells k hlt
          have c3 := hcells1 k hlt
          clear hcells hcells1 HC HC1
          have hf : Fm (fA l k) (fB l k) := (HY.out k hlt).1
          by_cases t1 : U (mostN (fB l k)) < U (uN v k)
          · have E := hs.out.no (fun h => by have := h.2.2 k hlt; omega)
            clear HT
            go_wp2
            first | refine wp_region_over2 (by kernel_rfl) (by kernel_rfl) ?_ | refine wp_region_over (by kernel_rfl) (by kernel_rfl) ?_
            repeat (go_big_quiet_step ((go_at_call 24; exact over_call (most_yes _ _ _ hf))))
            refine wpQuiet_nil ?_
            intro _ hw'
            obtain ⟨s1, hw''⟩ := hw'
            subst hw''
            go_wp2
            go_ret2
            exact Ret.two E.out.1 E.out.2 (by repeat (first | exact ext_refl _ | apply ext_over | apply ext_alloc))
          · have t2 : decide (U (mostN (fB l k)) < U (uN v k)) = false := by simpa using t1
            have E : Hid (FitTo l v (k + 1)) := Lib.hid (FitTo.succ HT.out (by omega))
            clear HT t1
            go_wp2
            first | refine wp_region_over2 (by kernel_rfl) (by kernel_rfl) ?_ | refine wp_region_over (by kernel_rfl) (by kernel_rfl) ?_
            repeat (go_big_quiet_step ((go_at_call 24; exact over_call (most_yes _ _ _ hf))))
            refine wpQuiet_nil ?_
            intro _ hw'
            obtain ⟨s1, hw''⟩ := hw'
            subst hw''
            go_wp2
            first | refine wp_region_over2 (by kernel_rfl) (by kernel_rfl) ?_ | refine wp_region_over (by kernel_rfl) (by kernel_rfl) ?_
            repeat (go_big_quiet_step ((go_at_call 25; exact over_call (put_yes _ _ _ _ _ hf))))
            refine wpQuiet_nil ?_
            intro _ hw'
            obtain ⟨s2, hw''⟩ := hw'
            subst hw''
            go_wp2
            exact ⟨⟨k + 1, by omega, E.out, rfl, by go_num, over_of (by repeat (first | exact ext_refl _ | apply ext_over | apply ext_alloc))⟩, by simp [intOf]; omega⟩
        · obtain rfl : k = l.length := by omega
          have E := hs.out.yes ⟨HY.out, HL.out, HT.out⟩
          clear HT
          go_wp2
          go_ret2
          exact Ret.two E.out.1 E.out.2 (by repeat (first | exact ext_refl _ | apply ext_over | apply ext_alloc))
    · have E := hs.out.no (fun h => hlen h.2.1)
      have HY := Lib.hid hlay
      have HFs := Lib.hid hF
      obtain ⟨a0, cap, rfl, hc, hcell⟩ := hF
      obtain ⟨a1, cap1, rfl, hc1, hcell1⟩ := hU
      clear hcell hcell1
      have q1 : ((v.length : Int) != (l.length : Int)) = true := by rw [bne_iff_ne]; omega
      have q2 : (v.length != l.length) = true := by rw [bne_iff_ne]; omega
      clear hlen hlay
      go_enter Try.func19, Try.ntmps19
      go_wp2_with (go_at_call 23; refine (formedL_any l _ _ true (by exact Lib.hid (by simp [HY.out])) hl HFs.out).mono ?_; rintro e w' hr'; obtain ⟨rfl, s, rfl⟩ := hr'.over; clear hr')
      go_ret2
      exact Ret.two E.out.1 E.out.2 (by repeat (first | exact ext_refl _ | apply ext_over | apply ext_alloc))
  · have E := hs.out.no (fun h => hlay h.1)
    have HY := Lib.hid hlay
    have HFs := Lib.hid hF
    clear hlay hF hU
    go_enter Try.func19, Try.ntmps19
    go_wp2_with (go_at_call 23; refine (formedL_any l _ _ false (by exact Lib.hid (by simp [HY.out])) hl HFs.out).mono ?_; rintro e w' hr'; obtain ⟨rfl, s, rfl⟩ := hr'.over; clear hr')
    go_ret2
    exact Ret.two E.out.1 E.out.2 (by repeat (first | exact ext_refl _ | apply ext_over | apply ext_alloc))

end Go.Proofs.Ytniejbncahmcoaa
