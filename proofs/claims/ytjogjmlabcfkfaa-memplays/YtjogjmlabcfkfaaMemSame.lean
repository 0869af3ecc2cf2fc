/-
  What the law's few and same come to. Conditions: those of each theorem.
-/
import Derived.Test.YtjogjmlabcfkfaaMemRNewW
import Derived.Test.YtjogjmlabcfkfaaMemUse
namespace Go.Proofs.Ytjogjmlabcfkfaa
open Go Go.RowKit

/-- The sum of what isn't below 0. -/
def maxTo (l : List Int) : Nat → Int
  | 0 => 0
  | k + 1 => maxTo l k + max (iN l k) 0
def FewOk (l : List Int) : Prop := (∀ i, i < l.length → i < 66 → iN l i ≤ 200) ∧ l.length ≤ 66 ∧ maxTo l (min l.length 66) ≤ 600
def FewRel (l : List Int) (n i : Value) : Prop := ∃ k : Nat, k ≤ l.length ∧ k ≤ 66 ∧ i = .int .i64 (k : Int) ∧ n = .int .i64 (maxTo l k) ∧ 0 ≤ maxTo l k ∧ maxTo l k ≤ 200 * k ∧ ∀ i, i < k → iN l i ≤ 200

theorem all_succ {l : List Int} {k : Nat} (ha : ∀ i, i < k → iN l i ≤ 200) (h : iN l k ≤ 200) : ∀ i, i < k + 1 → iN l i ≤ 200 := fun i hi => by
  by_cases e : i = k
  · subst e; exact h
  · exact ha i (by omega)

set_option maxHeartbeats 1000000 in
theorem few_any (l : List Int) (v : Value) (w : World) (r : Bool) (hr : Hid (r = true ↔ FewOk l)) (hI : Is w v l) (hb : Hid (∀ i, i < l.length → -9223372036854775808 ≤ iN l i ∧ iN l i ≤ 9223372036854775807)) :
    Calls Try.prog 10 #[v] w (Ret (.bool r) w) := by
  have HI := Lib.hid hI
  obtain ⟨a0, cap, rfl, hc, hcell⟩ := hI
  clear hcell
  go_enter Try.func10, Try.ntmps10
  go_wp2
  go_loop [3, 4] (fun n i => FewRel l n i) (fun _ i => (l.length - intOf i).toNat)
  case atStart => exact ⟨0, Nat.zero_le _, Nat.zero_le _, rfl, rfl, Int.le_refl _, Int.le_refl _, fun i hi => absurd hi (Nat.not_lt_zero _)⟩
  case round =>
    obtain ⟨k, hk, hk66, rfl, rfl, hn0, hn1, ha⟩ := hrel
    have HA := Lib.hid ha
    clear ha
    by_cases hlt : k < l.length ∧ k < 66
    · obtain ⟨hlt, h66⟩ := hlt
      obtain ⟨b, o, rfl, hbb, hcells⟩ := HI.out.at (by omega)
      have c1 := hcells k hlt
      have hbk := hb.out k hlt
      clear hcells
      by_cases h2 : iN l k ≤ 200
      · have q1 : decide (200 < iN l k) = false := by simp; omega
        by_cases h0 : 0 ≤ iN l k
        · have HM : Hid (maxTo l (k + 1) = maxTo l k + iN l k) := Lib.hid (by rw [maxTo, Int.max_eq_left h0])
          go_wp2
          exact ⟨⟨k + 1, by omega, by omega, by go_num, by rw [HM.out], by rw [HM.out]; omega, by rw [HM.out]; omega, all_succ HA.out h2⟩, by simp [intOf]; omega⟩
        · have HM : Hid (maxTo l (k + 1) = maxTo l k) := Lib.hid (by rw [maxTo, Int.max_eq_right (by omega), Int.add_zero])
          have h0' : iN l k < 0 := by omega
          go_wp2
          exact ⟨⟨k + 1, by omega, by omega, by go_num, by rw [HM.out], by rw [HM.out]; omega, by rw [HM.out]; omega, all_succ HA.out h2⟩, by simp [intOf]; omega⟩
      · have q1 : decide (200 < iN l k) = true := by simp; omega
        have E : Hid (false = r) := by
          refine Lib.hid ?_
          cases r with
          | false => rfl
          | true => exact absurd ((hr.out.1 rfl).1 k hlt h66) h2
        go_wp2
        go_ret
        exact Ret.bool E.out (ext_refl _)
    · by_cases h1 : k < l.length
      · have h66 : ¬ k < 66 := fun h => hlt ⟨h1, h⟩
        have E : Hid (false = r) := by
          refine Lib.hid ?_
          cases r with
          | false => rfl
          | true => exact absurd (hr.out.1 rfl).2.1 (by omega)
        have q1 : decide ((k : Int) < 66) = false := by simp; omega
        have q2 : decide ((l.length : Int) ≤ 66) = false := by simp; omega
        clear hlt
        go_wp2
        go_ret
        exact Ret.bool E.out (ext_refl _)
      · obtain rfl : k = l.length := by omega
        have q2 : decide ((l.length : Int) ≤ 66) = true := by simp; omega
        by_cases h6 : maxTo l l.length ≤ 600
        · have E : Hid (true = r) := Lib.hid ((hr.out.2 ⟨fun i hi _ => HA.out i hi, by omega, by rw [Nat.min_eq_left hk66]; exact h6⟩).symm)
          have q3 : decide (maxTo l l.length ≤ 600) = true := by simpa using h6
          clear hlt
          go_wp2
          go_ret
          exact Ret.bool E.out (ext_refl _)
        · have E : Hid (false = r) := by
            refine Lib.hid ?_
            cases r with
            | false => rfl
            | true => exact absurd (by have := (hr.out.1 rfl).2.2; rw [Nat.min_eq_left hk66] at this; exact this) h6
          have q3 : decide (maxTo l l.length ≤ 600) = false := by simpa using h6
          clear hlt
          go_wp2
          go_ret
          exact Ret.bool E.out (ext_refl _)

section
variable {lo hi : Nat} {b0 : Nat → Prop} {L : Lay} {R : RL} {M : MS} {w : World}
/-- The loops of same: nothing has turned. -/
def SameRel (lo hi : Nat) (b0 : Nat → Prop) (L : Lay) (R : RL) (M : MS) (s : Nat) (a c : Int) (w : World) (i : Value) (wr : World) : Prop :=
  ∃ k : Int, a ≤ k ∧ k ≤ c ∧ i = .int .i64 k ∧ MemIn lo hi L M wr ∧ RefIn b0 R M wr ∧ wr.cell? ⟨s, 0, none⟩ = some (.slice R.wa M.n R.wc) ∧ wr.cell? ⟨s, 1, none⟩ = some (.slice R.ea M.n R.ec) ∧ wr.cell? ⟨s, 2, none⟩ = some (.int .i64 M.ct) ∧ Ext w wr

set_option maxHeartbeats 2000000 in
theorem same_yes (hM : MemIn lo hi L M w) (hR : RefIn b0 R M w) :
    Calls Try.prog 19 #[.pointer (some ⟨L.bm, 0, none⟩), refV R M] w (Ret (.bool true) w) := by
  have HM := Lib.hid hM
  have HR := Lib.hid hR
  have h65 := hM.few
  have ht : w.heap.size < w.heap.size + 1 := Nat.lt_succ_self _
  clear hM hR
  unfold refV
  go_enter Try.func19, Try.ntmps19
  go_wp2
  refine wp_region_over (by kernel_rfl) (by kernel_rfl) ?_
  repeat (go_big_quiet_step ((first | (go_at_call 28; exact over_call (regions_any ((HM.out.alloc _).over _))) | (go_at_call 22; exact over_call (count_any ((HM.out.alloc _).over _))))))
  refine wpQuiet_nil ?_
  intro _ hw'
  obtain ⟨s, hw''⟩ := hw'
  subst hw''
  have H0 : Hid (SameRel lo hi b0 L R M w.heap.size 0 M.n w (.int .i64 0) (over (w.alloc (.cells #[.slice R.wa M.n R.wc, .slice R.ea M.n R.ec, .int .i64 M.ct] 33)) s)) :=
    Lib.hid ⟨0, by omega, by omega, rfl, (HM.out.alloc _).over s, (HR.out.alloc _).over s, ext_cell (over_below _ s) (by simp [go_sem]), ext_cell (over_below _ s) (by simp [go_sem]), ext_cell (over_below _ s) (by simp [go_sem]), ext_over s (ext_alloc _ (ext_refl w))⟩
  clear HM HR
  generalize over (w.alloc (.cells #[.slice R.wa M.n R.wc, .slice R.ea M.n R.ec, .int .i64 M.ct] 33)) s = X at H0 ⊢
  obtain ⟨_, _, _, _, hM, hR, k0, k1, k2, hX⟩ := H0.out
  have HM := Lib.hid hM
  have HR := Lib.hid hR
  have HX := Lib.hid hX
  clear hM hR hX
  go_wp2
  go_loopw [5] (fun i wr => SameRel lo hi b0 L R M w.heap.size 0 M.n w i wr) (fun i _ => (M.n - intOf i).toNat)
  case atStart => exact H0.out
  case round =>
    clear H0 HM HR HX k0 k1 k2
    obtain ⟨ki, hk0, hk1, rfl, hM, hR, k0, k1, k2, hx⟩ := hrel
    have HM := Lib.hid hM
    have HR := Lib.hid hR
    have HX := Lib.hid hx
    obtain ⟨r, rfl⟩ := Int.eq_ofNat_of_zero_le hk0
    clear hM hR hx
    by_cases hlt : r < M.n
    · have q0 : decide ((r : Int) < (M.n : Int)) = true := by simp; omega
      have q0' : decide (r < M.n) = true := by simp; omega
      have e0 := (HR.out.wA (by omega)).1
      rw [e0] at k0
      have x0 := HR.out.wR r hlt
      have x1 := (HR.out.wA (by omega)).2.2
      have hs := HR.out.small r hlt
      have K0 := Lib.hid k0
      have K1 := Lib.hid k1
      have K2 := Lib.hid k2
      have l0 := cell_lt k0
      have g1 : (0 : Int) ≤ (r : Int) := by omega
      have g2 : (r : Int) < (M.n : Int) := by omega
      have HE := Lib.hid e0
      have E1 : Hid (∀ Y, RefIn b0 R M Y → Calls Try.prog 25 #[.agg #[.slice (some ⟨R.bw, 0, none⟩) M.n R.wc, .slice R.ea M.n R.ec, .int .i64 M.ct], .int .i64 (r : Int)] Y (Ret (.agg #[.int .i64 (r : Int), .int .u64 (U (M.ep r))]) Y)) := Lib.hid fun Y hY => (by have := rcap_yes hY r hlt; unfold refV at this; rw [HE.out] at this; exact this)
      clear e0
      go_wp2
      refine wp_region_over (by kernel_rfl) (by kernel_rfl) ?_
      repeat (go_big_quiet_step ((first | (go_at_call 29; exact over_call (size_yes (HM.out.over _) r hlt)) | (go_at_call 20; exact over_call (cap_yes (HM.out.over _) r hlt)) | (go_at_call 25; exact over_call (E1.out _ (HR.out.over _))))))
      refine wpQuiet_nil ?_
      intro _ hw'
      obtain ⟨s1, hw''⟩ := hw'
      subst hw''
      have H1 : Hid (SameRel lo hi b0 L R M w.heap.size (-1) (M.sz r + 1) w (.int .i64 (-1)) (over wr s1)) :=
        Lib.hid ⟨-1, by omega, by omega, rfl, HM.out.over s1, HR.out.over s1, ext_cell (over_below _ s1) (by rw [HE.out]; exact K0.out), ext_cell (over_below _ s1) K1.out, ext_cell (over_below _ s1) K2.out, ext_over s1 HX.out⟩
      clear HM HR HX x0 x1 k0 k1 k2 l0 K0 K1 K2 E1
      generalize over wr s1 = X1 at H1 ⊢
      go_wp2
      go_loopw [6] (fun i wr => SameRel lo hi b0 L R M w.heap.size (-1) (M.sz r + 1) w i wr) (fun i _ => (M.sz r + 1 - intOf i).toNat)
      case atStart => exact H1.out
      case round =>
        clear H1
        obtain ⟨j, hj0, hj1, rfl, hM, hR, k0, k1, k2, hx⟩ := hrel
        have HM := Lib.hid hM
        have HR := Lib.hid hR
        have HX := Lib.hid hx
        clear hM hR hx
        have K0 := Lib.hid k0
        have K1 := Lib.hid k1
        have K2 := Lib.hid k2
        rw [HE.out] at k0
        have x0 := HR.out.wR r hlt
        have x1 := (HR.out.wA (by omega)).2.2
        have l0 := cell_lt k0
        by_cases hle : j ≤ M.sz r
        · by_cases hin : 0 ≤ j ∧ j < M.sz r
          · obtain ⟨p, rfl⟩ := Int.eq_ofNat_of_zero_le hin.1
            have hp : p < M.sz r := by omega
            have E2 : Hid (∀ Y, RefIn b0 R M Y → Calls Try.prog 30 #[.agg #[.slice (some ⟨R.bw, 0, none⟩) M.n R.wc, .slice R.ea M.n R.ec, .int .i64 M.ct], .int .i64 (r : Int), .int .i64 (p : Int)] Y (Ret (.int .u64 (U (M.wd r p))) Y)) := Lib.hid fun Y hY => (by have := rpeek_yes hY r p hlt hp; unfold refV at this; rw [HE.out] at this; exact this)
            clear hin
            go_wp2
            refine wp_region_over (by kernel_rfl) (by kernel_rfl) ?_
            repeat (go_big_quiet_step ((first | (go_at_call 21; exact over_call (peek_yes (HM.out.over _) r p hlt hp)) | (go_at_call 30; exact over_call (E2.out _ (HR.out.over _))))))
            refine wpQuiet_nil ?_
            intro _ hw'
            obtain ⟨s2, hw''⟩ := hw'
            subst hw''
            go_wp2
            exact ⟨⟨(p : Int) + 1, by omega, by omega, rfl, HM.out.over s2, HR.out.over s2, ext_cell (over_below _ s2) K0.out, ext_cell (over_below _ s2) K1.out, ext_cell (over_below _ s2) K2.out, ext_over s2 HX.out⟩, by simp [intOf]; omega⟩
          · have HN := Lib.hid hin
            have HP : Hid (¬ (0 ≤ (r : Int) ∧ (r : Int) < M.n ∧ 0 ≤ j ∧ j < M.sz ((r : Nat) : Int).toNat)) := Lib.hid fun hh => HN.out ⟨hh.2.2.1, by rw [show ((r : Nat) : Int).toNat = r by omega] at hh; exact hh.2.2.2⟩
            have E2 : Hid (∀ Y, RefIn b0 R M Y → Calls Try.prog 30 #[.agg #[.slice (some ⟨R.bw, 0, none⟩) M.n R.wc, .slice R.ea M.n R.ec, .int .i64 M.ct], .int .i64 (r : Int), .int .i64 j] Y (Ret (.int .u64 0) Y)) := Lib.hid fun Y hY => (by have := rpeek_no hY r j hlt HN.out; unfold refV at this; rw [HE.out] at this; exact this)
            clear hin
            go_wp2
            refine wp_region_over (by kernel_rfl) (by kernel_rfl) ?_
            repeat (go_big_quiet_step ((first | (go_at_call 21; exact over_call (peek_no (HM.out.over _) (r : Int) j HP.out)) | (go_at_call 30; exact over_call (E2.out _ (HR.out.over _))))))
            refine wpQuiet_nil ?_
            intro _ hw'
            obtain ⟨s2, hw''⟩ := hw'
            subst hw''
            go_wp2
            exact ⟨⟨j + 1, by omega, by omega, rfl, HM.out.over s2, HR.out.over s2, ext_cell (over_below _ s2) K0.out, ext_cell (over_below _ s2) K1.out, ext_cell (over_below _ s2) K2.out, ext_over s2 HX.out⟩, by simp [intOf]; omega⟩
        · have hle' : ¬ (j ≤ (M.sz r : Int)) := hle
          go_wp2
          exact ⟨⟨(r : Int) + 1, by omega, by omega, rfl, HM.out, HR.out, K0.out, K1.out, K2.out, HX.out⟩, by simp [intOf]; omega⟩
    · have hlt' : decide ((r : Int) < (M.n : Int)) = false := by simp; omega
      have hlt'' : decide (r < M.n) = false := by simp; omega
      have l0 := cell_lt k0
      have N1 : Hid (¬ (0 ≤ (-1 : Int) ∧ (-1 : Int) < M.n)) := Lib.hid (by omega)
      have N2 : Hid (¬ (0 ≤ (M.n : Int) ∧ (M.n : Int) < M.n)) := Lib.hid (by omega)
      have N3 : Hid (¬ (0 ≤ (M.n : Int) ∧ (M.n : Int) < M.n ∧ 0 ≤ (0 : Int) ∧ (0 : Int) < M.sz ((M.n : Nat) : Int).toNat)) := Lib.hid (by omega)
      go_wp2_with fail
      refine (size_no HM.out (-1) N1.out).mono ?_
      rintro e w' hr'
      obtain ⟨rfl, s1, rfl⟩ := hr'.over
      clear hr'
      go_wp2_with fail
      refine (size_no (HM.out.over s1) (M.n : Int) N2.out).mono ?_
      rintro e w' hr'
      obtain ⟨rfl, s2, rfl⟩ := hr'.over
      clear hr'
      go_wp2_with fail
      refine (cap_no (by first | exact HM.out.over _ | exact (HM.out.over _).over _) (-1) N1.out).mono ?_
      rintro e w' hr'
      obtain ⟨rfl, s3, rfl⟩ := hr'.over
      clear hr'
      go_wp2_with fail
      refine (peek_no (by first | exact HM.out.over _ | exact (HM.out.over _).over _ | exact ((HM.out.over _).over _).over _) (M.n : Int) 0 N3.out).mono ?_
      rintro e w' hr'
      obtain ⟨rfl, s4, rfl⟩ := hr'.over
      clear hr'
      go_wp2
      go_ret
      exact Ret.mk (by repeat (first | exact HX.out | apply ext_over))
end
end Go.Proofs.Ytjogjmlabcfkfaa
