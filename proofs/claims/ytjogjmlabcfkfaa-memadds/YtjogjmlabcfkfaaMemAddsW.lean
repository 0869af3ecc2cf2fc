/-
  MemAdds: the call's ways, walked. Conditions: those of each theorem.
-/
import Derived.Test.YtjogjmlabcfkfaaMemAwake
import Derived.Test.YtjogjmlabcfkfaaUs
namespace Go.Proofs.Ytjogjmlabcfkfaa
open Go Go.RowKit

/-- The sum of the first n. -/
def sumF (f : Nat → BitVec 64) : Nat → BitVec 64
  | 0 => 0#64
  | n + 1 => sumF f n + f n
theorem sumF_first (f : Nat → BitVec 64) : ∀ n, sumF f (n + 1) = f 0 + sumF (fun i => f (i + 1)) n
  | 0 => by simp [sumF]
  | n + 1 => by
    rw [sumF, sumF_first f n]
    simp only [sumF]
    rw [BitVec.add_assoc]
theorem sumF_congr {f g : Nat → BitVec 64} : ∀ {n : Nat}, (∀ i, i < n → f i = g i) → sumF f n = sumF g n
  | 0, _ => rfl
  | n + 1, h => by rw [sumF, sumF, sumF_congr (n := n) fun i hi => h i (by omega), h n (by omega)]
theorem sumF_back (f : Nat → BitVec 64) : ∀ n, sumF (fun i => f (n - 1 - i)) n = sumF f n
  | 0 => rfl
  | n + 1 => by
    rw [sumF_first, sumF, BitVec.add_comm]
    congr 1
    rw [← sumF_back f n]
    exact sumF_congr fun i hi => by rw [show n + 1 - 1 - (i + 1) = n - 1 - i by omega]

/-- What the memory is in the loop. -/
structure AddsM (l : List (BitVec 64)) (k : Nat) (M : MS) : Prop where
  n : M.n = 2
  s0 : M.sz 0 = 1
  s1 : M.sz 1 = 1
  e0 : M.ep 0 = 1#64
  e1 : M.ep 1 = 1#64
  w0 : M.wd 0 0 = sumF (uN l) k
  w1 : M.wd 1 0 = sumF (fun i => uN l (l.length - 1 - i)) k
theorem AddsM.zero (l : List (BitVec 64)) : AddsM l 0 (M0 [1, 1] 2) := ⟨rfl, rfl, rfl, rfl, rfl, rfl, rfl⟩
/-- Behind the first access, and behind both. -/
theorem AddsM.ok0 {l : List (BitVec 64)} {k : Nat} {M : MS} (h : AddsM l k M) : DoOk M 0 1#64 3 0 :=
  ⟨⟨by decide, by rw [h.n]; decide, h.e0⟩, by decide, by show (0 : Int) < (M.sz 0 : Int); rw [h.s0]; decide, by decide, by decide⟩
theorem AddsM.ok1 {l : List (BitVec 64)} {k : Nat} {M : MS} (h : AddsM l k M) (x : BitVec 64) : DoOk (M.done 0 3 0 x 0#64) 1 1#64 3 0 :=
  ⟨⟨by decide, by show (1 : Int) < (M.n : Int); rw [h.n]; decide, h.e1⟩, by decide, by show (0 : Int) < (M.sz 1 : Int); rw [h.s1]; decide, by decide, by decide⟩
theorem AddsM.succ {l : List (BitVec 64)} {k : Nat} {M : MS} (h : AddsM l k M) : AddsM l (k + 1) ((M.done 0 3 0 (uN l k) 0#64).done 1 3 0 (uN l (l.length - 1 - k)) 0#64) := by
  refine ⟨h.n, h.s0, h.s1, h.e0, h.e1, ?_, ?_⟩
  · show M.wd 0 0 + uN l k = _
    rw [h.w0]; rfl
  · show M.wd 1 0 + uN l (l.length - 1 - k) = _
    rw [h.w1]; rfl

theorem ok11 : SizesOk [1, 1] := ⟨by decide, fun i hi => by
  have : i = 0 ∨ i = 1 := by simp at hi; omega
  rcases this with rfl | rfl <;> decide⟩

/-- The loop. -/
def AddsRel (l : List (BitVec 64)) (lo hi : Nat) (L : Lay) (w : World) (sum i : Value) (wr : World) : Prop :=
  ∃ (k : Nat) (M : MS), k ≤ l.length ∧ i = .int .i64 (k : Int) ∧ sum = .int .u64 (U (sumF (uN l) k)) ∧ AddsM l k M ∧ MemIn lo hi L M wr ∧ Ext w wr

set_option maxHeartbeats 1000000 in
theorem memAdds_small (l : List (BitVec 64)) (a0 : Option Addr) (cap : Nat) (w : World) (hl : l.length ≤ 40) (hU : Hid (Us w (.slice a0 l.length cap) l)) :
    Calls Try.prog 6 #[.slice a0 l.length cap] w (Ret (.bool true) w) := by
  have q0 : decide (40 < (l.length : Int)) = false := by simp; omega
  go_enter Try.func6, Try.ntmps6
  go_wp2_with (first
    | (go_at_call 9; refine (awake_any _).mono ?_; rintro e w' hr'; obtain ⟨rfl, s, rfl⟩ := hr'.over; clear hr')
    | (go_at_call 11; refine (new_law [1, 1] _ _ (over_below w s) rfl rfl ok11).mono ?_; rintro e X ⟨lo, hi, L, rfl, hM, hX, hlo⟩; have HM := Lib.hid hM; have HX := Lib.hid hX; clear hM hX))
  go_loopw [5, 6] (fun sum i wr => AddsRel l lo hi L w sum i wr) (fun _ i _ => (l.length - intOf i).toNat)
  case atStart => exact ⟨0, _, Nat.zero_le _, rfl, by rw [show sumF (uN l) 0 = 0#64 from rfl, U_0], AddsM.zero l, HM.out, HX.out⟩
  case round =>
    obtain ⟨k, M, hk, rfl, rfl, hA, hM, hx⟩ := hrel
    have HA := Lib.hid hA
    have HM := Lib.hid hM
    have HX := Lib.hid hx
    clear hA hM hx
    by_cases hlt : k < l.length
    · obtain ⟨b, o, rfl, hb, hcells⟩ := hU.out.at (by omega)
      have C0 := Lib.hid (hcells k hlt)
      have C1 := Lib.hid (hcells (l.length - 1 - k) (by omega))
      have hbl : b < lo := Nat.lt_of_lt_of_le hb hlo
      have hbw : b < wr.heap.size := Nat.lt_of_lt_of_le hb HX.out.size
      have c0 := ext_cell HX.out C0.out
      clear hcells
      go_wp2
      refine wp_region_mix (fun w' => ∃ s, w' = off lo hi wr s) [(0, [0, 1, 3, 4, 5, 6, 7]), (1, [2]), (1, [8]), (0, [9, 10, 11, 12, 13])] (by kernel_rfl) (by kernel_rfl) (off_of (Fr.refl _ _ wr).drew) ?_
      simp only [pieces, pickL, List.map_cons, List.map_nil, List.getD_cons_zero, List.getD_cons_succ]
      refine mix_reads ?_
      repeat (go_big_quiet_step (fail))
      refine wpQuiet_nil (mix_acts ?_)
      go_wp2_with (go_at_call 20; refine (cap_int HM.out.drew 0 1#64 (by decide) (by rw [HA.out.n]; decide) (Lib.hid HA.out.e0)).mono ?_; rintro e w' ⟨rfl, hw'⟩; have HX1 := Lib.hid (ext_trans (ext_drew (ext_refl wr)) hw'); clear hw')
      refine mixQ_mk (off_of (.of_ext HX1.out)) (mix_acts ?_)
      go_wp2_with (go_at_call 17; refine (do_int (HM.out.ext HX1.out) 0 3 0 _ _ 0 (U (sumF (uN l) k)) 1#64 (uN l k) 0#64 _ rfl rfl U_0.symm HA.out.ok0 (Lib.hid (by rw [← HA.out.w0]; rfl)) (Lib.hid rfl)).mono ?_; rintro e Y ⟨rfl, hM, hF⟩; have HM2 := Lib.hid hM; have HF2 := Lib.hid ((Fr.of_ext HX1.out).trans hF); clear hM hF)
      refine mixQ_mk (off_of HF2.out) (mix_reads ?_)
      repeat (go_big_quiet_step (fail))
      refine wpQuiet_nil (mix_end ?_)
      have HY := Lib.hid (Fr.below HF2.out HX.out hlo)
      have c0' := ext_cell HY.out C0.out
      go_wp2
      obtain ⟨q, hq⟩ : ∃ q, q = l.length - 1 - k := ⟨_, rfl⟩
      have c1 := ext_cell HY.out C1.out
      rw [← hq] at c1
      have HQ := Lib.hid hq
      have e1 : (l.length : Int) - 1 - (k : Int) = (q : Int) := by omega
      have e2 : q < l.length := by omega
      have hby : b < Y.heap.size := Nat.lt_of_lt_of_le hb HY.out.size
      clear hq
      refine wp_region_mix (fun w' => ∃ s, w' = off lo hi Y s) [(0, [0, 1, 3, 4, 5, 6, 7, 8, 9, 10, 11]), (1, [2]), (1, [12])] (by kernel_rfl) (by kernel_rfl) (off_of (Fr.refl _ _ Y).drew) ?_
      simp only [pieces, pickL, List.map_cons, List.map_nil, List.getD_cons_zero, List.getD_cons_succ]
      refine mix_reads ?_
      repeat (go_big_quiet_step (fail))
      refine wpQuiet_nil (mix_acts ?_)
      go_wp2_with (go_at_call 20; refine (cap_int HM2.out.drew 1 1#64 (by decide) (by show (1 : Int) < (M.n : Int); rw [HA.out.n]; decide) (Lib.hid HA.out.e1)).mono ?_; rintro e w' ⟨rfl, hw'⟩; have HX3 := Lib.hid (ext_trans (ext_drew (ext_refl Y)) hw'); clear hw')
      refine mixQ_mk (off_of (.of_ext HX3.out)) (mix_acts ?_)
      go_wp2_with (go_at_call 17; refine (do_int (HM2.out.ext HX3.out) 1 3 0 _ _ 0 _ 1#64 (uN l q) 0#64 _ rfl rfl U_0.symm (HA.out.ok1 _) (Lib.hid rfl) (Lib.hid rfl)).mono ?_; rintro e Z ⟨rfl, hM, hF⟩; have HM4 := Lib.hid hM; have HF4 := Lib.hid ((Fr.of_ext HX3.out).trans hF); clear hM hF)
      refine mixQ_mk (off_of HF4.out) (mix_end ?_)
      have HZ := Lib.hid (Fr.below HF4.out HY.out hlo)
      go_wp2
      exact ⟨⟨k + 1, _, by omega, by go_num, rfl, HA.out.succ, by rw [← HQ.out]; exact HM4.out, HZ.out⟩, by simp [intOf]; omega⟩
    · obtain rfl : k = l.length := by omega
      have hw1 : Hid (U (M.wd (1 : Int).toNat (0 : Int).toNat) = U (sumF (uN l) l.length)) := by
        refine Lib.hid ?_
        show U (M.wd 1 0) = _
        rw [HA.out.w1, sumF_back]
      have hw0 : Hid (U (M.wd (0 : Int).toNat (0 : Int).toNat) = U (sumF (uN l) l.length)) := by
        refine Lib.hid ?_
        show U (M.wd 0 0) = _
        rw [HA.out.w0]
      go_wp2_with fail
      refine (peek_int HM.out 0 0 _ (by decide) (by rw [HA.out.n]; decide) (by decide) (by show (0 : Int) < (M.sz 0 : Int); rw [HA.out.s0]; decide) hw0).mono ?_
      rintro e w' hr'
      obtain ⟨rfl, s1, rfl⟩ := hr'.over
      clear hr'
      go_wp2_with fail
      refine (peek_int (HM.out.over s1) 1 0 _ (by decide) (by rw [HA.out.n]; decide) (by decide) (by show (0 : Int) < (M.sz 1 : Int); rw [HA.out.s1]; decide) hw1).mono ?_
      rintro e w' hr'
      obtain ⟨rfl, s2, rfl⟩ := hr'.over
      clear hr'
      go_wp2
      go_ret
      exact Ret.mk (ext_over _ (by first | exact ext_over _ HX.out | exact HX.out))

set_option maxHeartbeats 400000 in
theorem memAdds_great (n : Nat) (a0 : Option Addr) (cap : Nat) (w : World) (h : 40 < n) :
    Calls Try.prog 6 #[.slice a0 n cap] w (Ret (.bool true) w) := by
  go_enter Try.func6, Try.ntmps6
  go_wp2_with (go_at_call 9; refine (awake_any _).mono ?_; rintro e w' hr'; obtain ⟨rfl, s, rfl⟩ := hr'.over; clear hr')
  go_ret
  exact Ret.mk (by repeat (first | exact ext_refl _ | apply ext_over | apply ext_alloc))

theorem memAdds_any (l : List (BitVec 64)) (v : Value) (w : World) (hU : Us w v l) : Calls Try.prog 6 #[v] w (Ret (.bool true) w) := by
  have hU' := hU
  obtain ⟨a0, cap, rfl, _⟩ := hU'
  by_cases h : l.length ≤ 40
  · exact memAdds_small l a0 cap w h (Lib.hid hU)
  · exact memAdds_great l.length a0 cap w (by omega)
end Go.Proofs.Ytjogjmlabcfkfaa
