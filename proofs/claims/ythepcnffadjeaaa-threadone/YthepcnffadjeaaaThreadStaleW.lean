/-
  ThreadStale: the call's ways, walked. Conditions: those of each theorem.
-/
import Derived.Test.YthepcnffadjeaaaThreadLaw
import Derived.Test.YthepcnffadjeaaaThreadLs
namespace Go.Proofs.Ythepcnffadjeaaa
open Go Go.RowKit

/-- A worker that isn't busy, with lists that wait. -/
def waitS (ls : List (List Acc)) : WS := ⟨20, ls, false, [], []⟩
theorem waitS_give (ls : List (List Acc)) (k : Nat) (hk : k < ls.length) : (waitS (ls.take k)).give (lN ls k) = waitS (ls.take (k + 1)) := by
  unfold waitS WS.give
  simp only
  rw [lss_put ls k hk]
/-- The Gives of a law: k are done, all of these lists are short. -/
def GiveRel (D : Nat → Prop) (lo hi : Nat) (L : Lay) (q : Nat) (M : MS) (ls : List (List Acc)) (w : World) (i : Value) (wr : World) : Prop :=
  ∃ k : Nat, k ≤ ls.length ∧ i = .int .i64 (k : Int) ∧ LawIn D lo hi L q M (waitS (ls.take k)) w wr
def StaleRel (D : Nat → Prop) (lo hi : Nat) (L : Lay) (q : Nat) (M : MS) (ls : List (List Acc)) (w : World) (i : Value) (wr : World) : Prop :=
  ∃ k : Nat, k ≤ ls.length ∧ i = .int .i64 (k : Int) ∧ LawIn D lo hi L q M (waitS (ls.drop k)) w wr
theorem U_9 : U 9#64 = 9 := U_of _ _ (by decide)
theorem stale_pick (l : List Acc) (ls : List (List Acc)) : pickF 0 9#64 (M0 [8] 1) (waitS (l :: ls)) = (M0 [8] 1, waitS ls, if l = [] then 2 else 3, []) := by
  rw [pickF_begin (l := l) (q := ls) rfl rfl]
  cases l with
  | nil => exact goF_nil rfl
  | cons a l =>
    exact goF_no (a := a) (l := l) rfl fun hd => by
      have h1 : (1#64 : BitVec 64) = 9#64 := hd.1.2.2
      exact absurd h1 (by decide)
theorem ls_len {u : Value} {l : List Acc} {D : Nat → Prop} {w : World} (h : AsB D w u l) : ∃ a cap, u = .slice a l.length cap := by
  obtain ⟨a, cap, e, _⟩ := h
  exact ⟨a, cap, e⟩

set_option maxRecDepth 8000 in
set_option maxHeartbeats 4000000 in
theorem threadStale_small (ls : List (List Acc)) (a0 : Option Addr) (cap : Nat) (w : World) (hl : ls.length ≤ 20) (hA : Hid (Lss w (.slice a0 ls.length cap) ls)) : Calls Try.prog 5 #[.slice a0 ls.length cap] w (Ret (.bool true) w) := by
  have q0 : decide (20 < (ls.length : Int)) = false := by simp; omega
  go_enter Try.func5, Try.ntmps5
  go_wp2_with fail
  refine (awake_any _).mono ?_
  rintro e w' hr'
  obtain ⟨rfl, s, rfl⟩ := hr'.over
  clear hr'
  go_wp2_with fail
  refine (new_law [8] _ _ (over_below w s) rfl rfl ok8).mono ?_
  rintro e X ⟨lo, hi, L, rfl, hM, hX, hlo⟩
  have HM : Hid (MemIn lo hi L (M0 [8] 1) X) := Lib.hid hM
  have HX := Lib.hid hX
  obtain ⟨q, hq⟩ : ∃ q, X.heap.size = q := ⟨_, rfl⟩
  have htop : hi ≤ q := by rw [← hq]; exact hM.top
  have HQ := Lib.hid hq
  clear hM hX hq
  go_wp2_with fail
  refine (lawLists (PkD lo hi (q + 2) q) HM.out HX.out hlo q HQ.out 20 20 rfl (by decide) (by decide) (fun _ h => h) (fun k hk => by unfold PkD at hk; omega)).mono ?_
  rintro e X2 ⟨rfl, hL, _⟩
  have HL := Lib.hid hL
  clear hL HM HX HQ
  go_wp2
  go_loopw [7] (fun i wr => GiveRel (PkD lo hi (q + 2) q) lo hi L q (M0 [8] 1) ls w i wr) (fun i _ => ((ls.length : Int) - intOf i).toNat)
  case atStart => exact ⟨0, Nat.zero_le _, rfl, HL.out⟩
  case round =>
    clear HL
    obtain ⟨k, hk, rfl, hL⟩ := hrel
    have HL := Lib.hid hL
    clear hL
    by_cases hlt : k < ls.length
    · have q1 : decide ((k : Int) < (ls.length : Int)) = true := by simp; omega
      obtain ⟨b, o, rfl, hb, hcells⟩ := hA.out.at (by omega)
      obtain ⟨u, hc, hu⟩ := hcells k hlt
      obtain ⟨ua, ucap, rfl⟩ := ls_len hu
      have HU := Lib.hid hu
      have c0 := ext_cell HL.out.ext hc
      have lb := cell_lt c0
      clear hc hcells hu
      by_cases hlong : 10 < (lN ls k).length
      · have q2 : decide (10 < ((lN ls k).length : Int)) = true := by simp; omega
        go_wp2
        go_ret
        exact Ret.mk HL.out.ext
      · have q2 : decide (10 < ((lN ls k).length : Int)) = false := by simp; omega
        go_wp2_with fail
        refine (lawGive_room HL.out (lN ls k) _ (HU.out.ext HL.out.ext) (by omega) (by simp [waitS]; omega)).mono ?_
        rintro e Y ⟨rfl, hL, _⟩
        rw [waitS_give ls k hlt] at hL
        have HL2 := Lib.hid hL
        clear hL HL
        go_wp2
        exact ⟨⟨k + 1, by omega, by go_num, HL2.out⟩, by simp [intOf]; omega⟩
    · obtain rfl : k = ls.length := by omega
      have q1 : decide ((ls.length : Int) < (ls.length : Int)) = false := by simp
      clear hlt hk
      rw [List.take_length] at HL
      go_wp2
      go_loopw [8] (fun i wr => StaleRel (PkD lo hi (q + 2) q) lo hi L q (M0 [8] 1) ls w i wr) (fun i _ => ((ls.length : Int) - intOf i).toNat)
      case atStart => exact ⟨0, Nat.zero_le _, rfl, HL.out⟩
      case round =>
        clear HL
        obtain ⟨k, hk, rfl, hL⟩ := hrel
        by_cases hlt : k < ls.length
        · have q1 : decide ((k : Int) < (ls.length : Int)) = true := by simp; omega
          rw [lss_take ls k hlt] at hL
          have HL := Lib.hid hL
          clear hL
          obtain ⟨b, o, rfl, hb, hcells⟩ := hA.out.at (by omega)
          obtain ⟨u, hc, hu⟩ := hcells k hlt
          obtain ⟨ua, ucap, rfl⟩ := ls_len hu
          have c0 := ext_cell HL.out.ext hc
          have lb := cell_lt c0
          clear hc hcells hu
          have HPK := Lib.hid (stale_pick (lN ls k) (ls.drop (k + 1)))
          have hw1 : (((ls.drop (k + 1)).length : Nat) : Int) = (ls.length : Int) - 1 - (k : Int) := by rw [List.length_drop]; omega
          have HW1 := Lib.hid hw1
          clear hw1
          by_cases hnil : lN ls k = []
          · rw [hnil] at HPK c0
            simp only [if_true, List.length_nil] at HPK c0
            go_wp2_with fail
            refine (lawPick_at HL.out 0 9 9#64 U_9.symm _ (by rw [hnil]; exact HPK)).mono ?_
            rintro e Y ⟨ra, cp, rfl, _, hL, _⟩
            have HL2 := Lib.hid hL
            clear hL HL HPK
            simp only [List.length_nil] at HL2 ⊢
            go_wp2_with fail
            refine (lawBusy (HL2.out.grow (ext_alloc _ (ext_refl _))) false rfl).mono ?_
            rintro e Y1 ⟨rfl, rfl⟩
            go_wp2_with fail
            refine (lawWaits (HL2.out.grow (ext_alloc _ (ext_refl _))) _ HW1.out).mono ?_
            rintro e Y1 ⟨rfl, rfl⟩
            go_wp2
            exact ⟨⟨k + 1, by omega, by go_num, HL2.out.grow (ext_alloc _ (ext_refl _))⟩, by simp [intOf]; omega⟩
          · have hpos : ¬ (((lN ls k).length : Int) = 0) := by
              have : (lN ls k).length ≠ 0 := fun h => hnil (List.eq_nil_of_length_eq_zero h)
              omega
            rw [if_neg hnil] at HPK
            go_wp2_with fail
            refine (lawPick_at HL.out 0 9 9#64 U_9.symm _ HPK).mono ?_
            rintro e Y ⟨ra, cp, rfl, _, hL, _⟩
            have HL2 := Lib.hid hL
            clear hL HL HPK
            simp only [List.length_nil] at HL2 ⊢
            go_wp2_with fail
            refine (lawBusy (HL2.out.grow (ext_alloc _ (ext_refl _))) false rfl).mono ?_
            rintro e Y1 ⟨rfl, rfl⟩
            go_wp2_with fail
            refine (lawWaits (HL2.out.grow (ext_alloc _ (ext_refl _))) _ HW1.out).mono ?_
            rintro e Y1 ⟨rfl, rfl⟩
            go_wp2
            exact ⟨⟨k + 1, by omega, by go_num, HL2.out.grow (ext_alloc _ (ext_refl _))⟩, by simp [intOf]; omega⟩
        · obtain rfl : k = ls.length := by omega
          have q1 : decide ((ls.length : Int) < (ls.length : Int)) = false := by simp
          clear hlt hk
          rw [List.drop_length] at hL
          have HL := Lib.hid hL
          clear hL
          go_wp2_with fail
          refine (count_at HL.out.mem 0 (Lib.hid rfl)).mono ?_
          rintro e w' hr'
          obtain ⟨rfl, s2, rfl⟩ := hr'.over
          clear hr'
          go_wp2_with fail
          refine (cap_int (HL.out.over s2).mem 0 1#64 (by decide) (by decide) (Lib.hid rfl)).mono ?_
          rintro e w' hr'
          obtain ⟨rfl, s3, rfl⟩ := hr'.over
          clear hr'
          go_wp2_with fail
          refine (lawPick (by first | exact (HL.out.over s2).over s3 | exact HL.out.over _) 0 1#64 _ (Lib.hid (pickF_idle rfl rfl))).mono ?_
          rintro e Y ⟨ra, cp, rfl, _, hL, _⟩
          have HL2 := Lib.hid hL.ext
          clear hL HL
          simp only
          go_wp2
          go_ret
          exact Ret.mk HL2.out

set_option maxHeartbeats 1000000 in
theorem threadStale_great (n : Nat) (a0 : Option Addr) (cap : Nat) (w : World) (h : 20 < n) : Calls Try.prog 5 #[.slice a0 n cap] w (Ret (.bool true) w) := by
  have q0 : decide (20 < (n : Int)) = true := by simp; omega
  go_enter Try.func5, Try.ntmps5
  go_wp2_with (go_at_call 8; refine (awake_any _).mono ?_; rintro e w' hr'; obtain ⟨rfl, s, rfl⟩ := hr'.over; clear hr')
  go_ret
  exact Ret.mk (by repeat (first | exact ext_refl _ | apply ext_over))
theorem threadStale_any (ls : List (List Acc)) (v : Value) (w : World) (h : Lss w v ls) : Calls Try.prog 5 #[v] w (Ret (.bool true) w) := by
  have h' := h
  obtain ⟨a0, cap, rfl, _⟩ := h
  by_cases hl : ls.length ≤ 20
  · exact threadStale_small ls a0 cap w hl (Lib.hid h')
  · exact threadStale_great ls.length a0 cap w (by omega)

end Go.Proofs.Ythepcnffadjeaaa
