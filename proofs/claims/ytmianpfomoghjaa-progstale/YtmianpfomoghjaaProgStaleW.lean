/-
  ProgStale: the call's ways, walked. Conditions: those of each theorem.
-/
import Derived.Test.YtmianpfomoghjaaProgLaw
namespace Go.Proofs.Ytmianpfomoghjaa
open Go Go.RowKit

def StaleRel (lo hi : Nat) (L : Lay) (w : World) (i : Value) (wr : World) : Prop := ∃ k : Nat, k ≤ 8 ∧ i = .int .i64 (k : Int) ∧ MemIn lo hi L (M0 [8] 1) wr ∧ Ext w wr

set_option maxHeartbeats 2000000 in
theorem progStale_good (l : List Acc) (a0 : Option Addr) (cap : Nat) (rg : Int) (E : BitVec 64) (w : World) (hl : l.length ≤ 30) (HR : Hid (rg = 0)) (HE : Hid (U E = 1)) :
    Calls Try.prog 8 #[.slice a0 l.length cap, .int .i64 rg, .int .u64 (U E)] w (Ret (.bool true) w) := by
  have q0 : decide (30 < (l.length : Int)) = false := by simp; omega
  have HG : Hid (Good (M0 [8] 1) rg E) := by
    rw [HR.out]
    refine Lib.hid ⟨by decide, by decide, ?_⟩
    show (1#64) = E
    exact U_inj (by rw [HE.out, U_1])
  go_enter Try.func8, Try.ntmps8
  go_wp2_with (first
    | (go_at_call 9; refine (awake_any _).mono ?_; rintro e w' hr'; obtain ⟨rfl, s, rfl⟩ := hr'.over; clear hr')
    | (go_at_call 10; refine (new_law [8] _ _ (over_below w s) rfl rfl ok8).mono ?_; rintro e X ⟨lo, hi, L, rfl, hM, hX, hlo⟩; have HM : Hid (MemIn lo hi L (M0 [8] 1) X) := Lib.hid hM; have HX := Lib.hid hX; clear hM hX)
    | (go_at_call 31; refine (good_int (HM.out.alloc _) rg E HG.out).mono ?_; rintro e w' hr'; obtain ⟨rfl, s1, rfl⟩ := hr'.over; clear hr'; have hr := HR.out; have he := HE.out))
  go_ret
  exact Ret.mk (by repeat (first | exact HX.out | apply ext_over | apply ext_alloc))

set_option maxHeartbeats 2000000 in
theorem progStale_stale (l : List Acc) (a0 : Option Addr) (cap : Nat) (rg : Int) (E : BitVec 64) (w : World) (hl : l.length ≤ 30) (hg : Hid (¬ Good (M0 [8] 1) rg E)) (hA : Hid (AsB (fun _ => False) w (.slice a0 l.length cap) l)) :
    Calls Try.prog 8 #[.slice a0 l.length cap, .int .i64 rg, .int .u64 (U E)] w (Ret (.bool true) w) := by
  have q0 : decide (30 < (l.length : Int)) = false := by simp; omega
  go_enter Try.func8, Try.ntmps8
  go_wp2_with (first
    | (go_at_call 9; refine (awake_any _).mono ?_; rintro e w' hr'; obtain ⟨rfl, s, rfl⟩ := hr'.over; clear hr')
    | (go_at_call 10; refine (new_law [8] _ _ (over_below w s) rfl rfl ok8).mono ?_; rintro e X ⟨lo, hi, L, rfl, hM, hX, hlo⟩; have HM : Hid (MemIn lo hi L (M0 [8] 1) X) := Lib.hid hM; have HX := Lib.hid hX; clear hM hX)
    | (go_at_call 31; refine (good_no (HM.out.alloc _) rg E hg.out).mono ?_; rintro e w' hr'; obtain ⟨rfl, s1, rfl⟩ := hr'.over; clear hr'))
  have HM1 := Lib.hid ((HM.out.alloc (.cells #[.int .i64 rg, .int .u64 (U E)] 37)).over s1)
  have HX1 := Lib.hid (ext_over s1 (ext_alloc (.cells #[.int .i64 rg, .int .u64 (U E)] 37) HX.out))
  have hcb := HM.out.top
  have k0 : (over (X.alloc (.cells #[.int .i64 rg, .int .u64 (U E)] 37)) s1).cell? ⟨X.heap.size, 0, none⟩ = some (.int .i64 rg) := ext_cell (over_below _ s1) (cell_at (heap_at X _ _ rfl) rfl)
  have k1 : (over (X.alloc (.cells #[.int .i64 rg, .int .u64 (U E)] 37)) s1).cell? ⟨X.heap.size, 1, none⟩ = some (.int .u64 (U E)) := ext_cell (over_below _ s1) (cell_at (heap_at X _ _ rfl) rfl)
  have kl := cell_lt k0
  generalize over (X.alloc (.cells #[.int .i64 rg, .int .u64 (U E)] 37)) s1 = Y at HM1 HX1 k0 k1 kl ⊢
  clear HM HX
  refine wp_region_mix (fun w' => ∃ s, w' = off lo hi Y s) [(0, [0, 2, 3]), (1, [1]), (1, [4]), (0, [5, 6, 7, 8, 9, 10, 11])] (by kernel_rfl) (by kernel_rfl) (off_of (.of_ext (ext_drew (ext_refl Y)))) ?_
  simp only [pieces, pickL, List.map_cons, List.map_nil, List.getD_cons_zero, List.getD_cons_succ]
  refine mix_reads ?_
  repeat (go_big_quiet_step (fail))
  refine wpQuiet_nil (mix_acts ?_)
  go_wp2_with (go_at_call 14; refine (list_any (fun k => lo ≤ k ∧ k < hi) l _ _ (hA.out.ext (ext_drew HX1.out)) (by omega) (fun k hk => by have := HM1.out.top; simp; omega)).mono ?_; rintro e w1 ⟨v1, rfl, hx, hp⟩; have HP := Lib.hid hp; have HX2 := Lib.hid (ext_trans (ext_drew (ext_refl Y)) hx); clear hp hx)
  refine mixQ_mk (off_of (.of_ext HX2.out)) (mix_acts ?_)
  have HM2 := Lib.hid (HM1.out.ext HX2.out)
  go_wp2_with (go_at_call 13; refine (run_any (fun k => lo ≤ k ∧ k < hi) l [] v1 rg E 40 w1 HP.out.h HM2.out (by simp; omega) (fun k h1 h2 => ⟨h1, h2⟩) (fun k hk => by have := HM2.out.top; omega)).mono ?_; rintro e w2 ⟨rv, rfl, hm, hf, hu, _⟩; rw [run_none hg.out] at hm; have HM3 := Lib.hid hm; have HF3 := Lib.hid ((Fr.of_ext HX2.out).trans hf); clear hm hf hu; rw [run_none hg.out])
  refine mixQ_mk (off_of HF3.out) (mix_reads ?_)
  repeat (go_big_quiet_step (fail))
  refine wpQuiet_nil (mix_end ?_)
  have HX4 := Lib.hid (HF3.out.below HX1.out hlo)
  have hem : ∃ b, b = l.isEmpty ∧ Hid ((b = true) ↔ l.length = 0) := ⟨_, rfl, by cases l <;> simp [Lib.hid]⟩
  obtain ⟨b, eb, hem⟩ := hem
  rw [← eb]
  clear eb HP HX2 HM2 HF3 HM1 HX1 k0 k1 kl
  go_wp2
  go_loopw [13] (fun i wr => StaleRel lo hi L w i wr) (fun i _ => (8 - intOf i).toNat)
  case atStart => exact ⟨0, Nat.zero_le _, rfl, HM3.out, HX4.out⟩
  case round =>
    clear HM3 HX4
    obtain ⟨k, hk, rfl, hM, hx⟩ := hrel
    have HM := Lib.hid hM
    have HX := Lib.hid hx
    clear hM hx
    by_cases hlt : k < 8
    · go_wp2_with (go_at_call 18; refine (peek_int HM.out 0 (k : Int) 0 (by decide) (by decide) (by omega) (by show (k : Int) < 8; omega) (Lib.hid U_0)).mono ?_; rintro e w' hr'; obtain ⟨rfl, s2, rfl⟩ := hr'.over; clear hr')
      exact ⟨⟨k + 1, by omega, by go_num, HM.out.over s2, ext_over s2 HX.out⟩, by simp [intOf]; omega⟩
    · obtain rfl : k = 8 := by omega
      have h8 : ¬ (((8 : Nat) : Int) < 8) := by decide
      by_cases h0 : l.length = 0
      · have hb : b = true := hem.out.2 h0
        go_wp2_with (go_at_call 16; refine (count_at HM.out 0 (Lib.hid rfl)).mono ?_; rintro e w' hr'; obtain ⟨rfl, s2, rfl⟩ := hr'.over; clear hr')
        go_ret
        exact Ret.mk (ext_over _ HX.out)
      · have hb : b = false := by
          cases b
          · rfl
          · exact absurd (hem.out.1 rfl) h0
        have hq : (((l.length : Nat) : Int) == 0) = false := beq_eq_false_iff_ne.2 (by omega)
        go_wp2_with (go_at_call 16; refine (count_at HM.out 0 (Lib.hid rfl)).mono ?_; rintro e w' hr'; obtain ⟨rfl, s2, rfl⟩ := hr'.over; clear hr')
        go_ret
        exact Ret.mk (ext_over _ HX.out)

set_option maxHeartbeats 1000000 in
theorem progStale_great (n : Nat) (a0 : Option Addr) (cap : Nat) (rg e : Int) (w : World) (h : 30 < n) :
    Calls Try.prog 8 #[.slice a0 n cap, .int .i64 rg, .int .u64 e] w (Ret (.bool true) w) := by
  have q0 : decide (30 < (n : Int)) = true := by simp; omega
  go_enter Try.func8, Try.ntmps8
  go_wp2_with (go_at_call 9; refine (awake_any _).mono ?_; rintro e w' hr'; obtain ⟨rfl, s, rfl⟩ := hr'.over; clear hr')
  go_ret
  exact Ret.mk (by repeat (first | exact ext_refl _ | apply ext_over))

theorem progStale_any (f : Nat → Acc) (n : Nat) (v : Value) (rg : Int) (E : BitVec 64) (w : World) (hf : As w v n f) : Calls Try.prog 8 #[v, .int .i64 rg, .int .u64 (U E)] w (Ret (.bool true) w) := by
  have hA := asB_of hf
  obtain ⟨a0, cap, rfl, _⟩ := id hf
  by_cases hl : n ≤ 30
  · have e1 : ((List.range n).map f).length = n := by simp
    by_cases hg : Good (M0 [8] 1) rg E
    · have := progStale_good ((List.range n).map f) a0 cap rg E w (by omega) (Lib.hid ?_) (Lib.hid ?_)
      · rwa [e1] at this
      · have h1 := hg.1
        have h2 : rg < ((M0 [8] 1).n : Int) := hg.2.1
        have h3 : ((M0 [8] 1).n : Int) = 1 := rfl
        omega
      · have h1 : (1#64) = E := hg.2.2
        rw [← h1, U_1]
    · have := progStale_stale ((List.range n).map f) a0 cap rg E w (by omega) (Lib.hid hg) (Lib.hid (by rw [e1]; exact hA))
      rwa [e1] at this
  · exact progStale_great n a0 cap rg (U E) w (by omega)

end Go.Proofs.Ytmianpfomoghjaa
