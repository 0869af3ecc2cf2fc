/-
  ThreadFull: the call's ways, walked. Conditions: those of each theorem.
-/
import Derived.Test.YthepcnffadjeaaaThreadLaw
namespace Go.Proofs.Ythepcnffadjeaaa
open Go Go.RowKit

/-- The worker behind k Gives of two accesses. -/
def fullS (n k : Nat) : WS := ⟨n, List.replicate k [accZ, accZ], false, [], []⟩
theorem fullS_give (n k : Nat) : (fullS n k).give [accZ, accZ] = fullS n (k + 1) := by
  unfold fullS WS.give
  simp only [WS.mk.injEq, and_true, true_and]
  rw [List.replicate_succ']
def FullRel (D : Nat → Prop) (lo hi : Nat) (L : Lay) (q n : Nat) (w : World) (i : Value) (wr : World) : Prop :=
  ∃ k : Nat, k ≤ n ∧ i = .int .i64 (k : Int) ∧ LawIn D lo hi L q (M0 [1] 1) (fullS n k) w wr
theorem full_pick (n : Nat) : ∃ M t, pickF 0 1#64 (M0 [1] 1) (fullS (n + 1) (n + 1)) = (M, ⟨n + 1, List.replicate n [accZ, accZ], true, [accZ], t⟩, 1, []) := by
  rw [pickF_begin (l := [accZ, accZ]) (q := List.replicate n [accZ, accZ]) rfl (by simp [fullS, List.replicate_succ])]
  exact ⟨_, _, goF_step (S := (fullS (n + 1) (n + 1)).begin [accZ, accZ] (List.replicate n [accZ, accZ])) rfl ⟨⟨by decide, by decide, rfl⟩, by decide, by decide, by decide, by decide⟩⟩

set_option maxRecDepth 8000 in
set_option maxHeartbeats 2000000 in
theorem threadFull_any (a : Nat) (w : World) (ha : a ≤ 255) : Calls Try.prog 7 #[.int .u8 (a : Int)] w (Ret (.bool true) w) := by
  obtain ⟨n, hn⟩ : ∃ n, n = a + 1 := ⟨_, rfl⟩
  have HN := Lib.hid hn
  clear hn
  go_enter Try.func7, Try.ntmps7
  go_wp2_with fail
  refine (awake_any _).mono ?_
  rintro e w' hr'
  obtain ⟨rfl, s, rfl⟩ := hr'.over
  clear hr'
  go_wp2_with fail
  refine (new_law [1] _ _ (over_below w s) rfl rfl ok1).mono ?_
  rintro e X ⟨lo, hi, L, rfl, hM, hX, hlo⟩
  have HM : Hid (MemIn lo hi L (M0 [1] 1) X) := Lib.hid hM
  have HX := Lib.hid hX
  obtain ⟨q, hq⟩ : ∃ q, X.heap.size = q := ⟨_, rfl⟩
  have htop : hi ≤ q := by rw [← hq]; exact hM.top
  have HQ := Lib.hid hq
  clear hM hX hq
  go_wp2_with fail
  refine (lawLists (PkD lo hi (q + 2) q) HM.out HX.out hlo q HQ.out _ n (by rw [HN.out]; omega) (by rw [HN.out]; omega) (by rw [HN.out]; omega) (fun _ h => h) (fun k hk => by unfold PkD at hk; omega)).mono ?_
  rintro e X2 ⟨rfl, hL, _⟩
  have HL := Lib.hid hL
  clear hL HM HX HQ
  have e1 : (1 : Int) + (a : Int) = (n : Int) := by rw [HN.out]; omega
  have e2 : (a : Int) + 1 = (n : Int) := by rw [HN.out]; omega
  have hn1 : 1 ≤ n := by rw [HN.out]; omega
  have hn2 : n ≤ 256 := by rw [HN.out]; omega
  go_wp2
  try simp only [e1]
  try simp only [e2]
  clear e1 e2
  go_loopw [8] (fun i wr => FullRel (PkD lo hi (q + 2) q) lo hi L q n w i wr) (fun i _ => ((n : Int) - intOf i).toNat)
  case atStart => exact ⟨0, Nat.zero_le _, rfl, HL.out⟩
  case round =>
    clear HL
    obtain ⟨k, hk, rfl, hL⟩ := hrel
    have HL := Lib.hid hL
    clear hL
    by_cases hlt : k < n
    · have q0 : decide ((k : Int) < (n : Int)) = true := by simp; omega
      go_wp2_with fail
      refine (lawGive_room (HL.out.grow (ext_alloc _ (ext_refl _))) [accZ, accZ] _ (asB_lit _ _ _ _ _ (by simp [A4, accZ, U_0]) rfl) (by decide) (by simp [fullS]; omega)).mono ?_
      rintro e Y ⟨rfl, hL, _⟩
      have HL2 := Lib.hid hL
      clear hL HL
      go_wp2
      exact ⟨⟨k + 1, by omega, by go_num, by rw [← fullS_give]; exact HL2.out⟩, by simp [intOf]; omega⟩
    · obtain rfl : n = k := by omega
      have q0 : decide ((n : Int) < (n : Int)) = false := by simp
      clear hlt hk
      go_wp2_with fail
      refine (lawGive_full HL.out [] _ (asB_nil _) (by decide) (by simp [fullS])).mono ?_
      rintro e Y ⟨rfl, hL, _⟩
      have HL2 := Lib.hid hL
      clear hL HL
      go_wp2_with fail
      refine (lawWaits HL2.out (n : Int) (by simp [fullS])).mono ?_
      rintro e Y2 ⟨rfl, rfl⟩
      go_wp2_with fail
      refine (cap_int HL2.out.mem 0 1#64 (by decide) (by decide) (Lib.hid rfl)).mono ?_
      rintro e w' hr'
      obtain ⟨rfl, s2, rfl⟩ := hr'.over
      clear hr'
      obtain ⟨M2, t2, hp⟩ := full_pick a
      rw [← HN.out] at hp
      have HPK := Lib.hid hp
      clear hp
      go_wp2_with fail
      refine (lawPick (HL2.out.over s2) 0 1#64 _ HPK).mono ?_
      rintro e Y3 ⟨ra, cap, rfl, _, hL, _⟩
      have HL3 := Lib.hid hL
      clear hL HL2
      simp only at HL3 ⊢
      go_wp2_with fail
      refine (lawBusy HL3.out true rfl).mono ?_
      rintro e Y4 ⟨rfl, rfl⟩
      go_wp2_with fail
      refine (lawWaits HL3.out ((n : Int) - 1) (by have := HN.out; simp; omega)).mono ?_
      rintro e Y5 ⟨rfl, rfl⟩
      go_wp2_with fail
      refine (lawGive_room HL3.out [] _ (asB_nil _) (by decide) (by have := HN.out; simp; omega)).mono ?_
      rintro e Y6 ⟨rfl, hL, _⟩
      have HL4 := Lib.hid hL
      clear hL HL3
      go_wp2_with fail
      refine (lawGive_full HL4.out [] _ (asB_nil _) (by decide) (by have := HN.out; simp [WS.give]; omega)).mono ?_
      rintro e Y7 ⟨rfl, hL, _⟩
      have HL5 := Lib.hid hL.ext
      clear hL HL4
      go_wp2
      go_ret
      exact Ret.mk HL5.out

end Go.Proofs.Ythepcnffadjeaaa
