/-
  StateBack: the call's ways, walked. Conditions: those of each theorem.
-/
import Derived.Test.YtegcdiepedgodaaState3
namespace Go.Proofs.Ytegcdiepedgodaa
open Go Go.RowKit

/-- What the law's x is behind k turns. -/
def xC (k : Nat) (m : Int) : Array Value := if (k : Int) ≤ m then #[.int .i64 (k : Int), .int .i64 0, .int .i64 0] else #[.int .i64 m, .int .i64 3, .int .i64 0]
theorem xC_le {k : Nat} {m : Int} (h : (k : Int) ≤ m) : xC k m = #[.int .i64 (k : Int), .int .i64 0, .int .i64 0] := if_pos h
theorem xC_gt {k : Nat} {m : Int} (h : ¬ (k : Int) ≤ m) : xC k m = #[.int .i64 m, .int .i64 3, .int .i64 0] := if_neg h
/-- In the midst of the loop. -/
def BackRel (n m : Int) (bx : Nat) (w : World) (i : Value) (wr : World) : Prop := ∃ k : Nat, (k : Int) ≤ n % 40 ∧ (k : Int) ≤ m + 1 ∧ i = .int .i64 (k : Int) ∧ Made w bx (xC k m) 23 wr ∧ Ext w wr
theorem freed_lt (g mo k most : Int) (h : g < most) (hg : 0 ≤ g) (hg2 : g < 256) (w : World) : Calls Try.prog 16 #[.agg #[.int .i64 g, .int .i64 mo, .int .i64 k], .int .i64 most] w (Ret (.agg #[.int .i64 (g + 1), .int .i64 0, .int .i64 0]) w) := by
  have e : St.freed ⟨g, mo, k⟩ most = ⟨g + 1, 0, 0⟩ := by
    unfold St.freed
    rw [if_neg (by dsimp only; omega)]
    have e : wrap64 (g + 1) = g + 1 := by unfold wrap64; omega
    dsimp only
    rw [e]
  have := freed_any ⟨g, mo, k⟩ most w
  rw [e] at this
  exact this
theorem freed_ge (g mo k most : Int) (h : most ≤ g) (w : World) : Calls Try.prog 16 #[.agg #[.int .i64 g, .int .i64 mo, .int .i64 k], .int .i64 most] w (Ret (.agg #[.int .i64 g, .int .i64 3, .int .i64 0]) w) := by
  have e : St.freed ⟨g, mo, k⟩ most = ⟨g, 3, 0⟩ := by
    unfold St.freed
    rw [if_pos (by dsimp only; omega)]
  have := freed_any ⟨g, mo, k⟩ most w
  rw [e] at this
  exact this

set_option maxRecDepth 8000 in
set_option maxHeartbeats 2000000 in
theorem back_no (s : St) (n m : Int) (h1 : fm3 s.g s.m s.k = false) (w : World) : Calls Try.prog 5 #[stV s, .int .u8 n, .int .u8 m] w (Ret (.bool true) w) := by
  go_enter Try.func5, Try.ntmps5
  go_wp2_with (first
    | (go_at_call 7; refine (awake_any _).mono ?_; rintro e w' hr; obtain ⟨rfl, s0, rfl⟩ := hr.over; clear hr)
    | (go_at_call 11; refine (rformed3 _ _ _ _).mono ?_; rintro e w' hr; obtain ⟨rfl, s1, rfl⟩ := hr.over; clear hr))
  go_ret
  exact Ret.mk (by repeat (first | exact ext_refl _ | apply ext_over | apply ext_alloc | (refine ext_set _ ?_ ?_; exact Nat.le_refl _)))

set_option maxRecDepth 8000 in
set_option maxHeartbeats 2000000 in
theorem back_yes (s : St) (n m : Int) (n0 : 0 ≤ n) (n1 : n < 256) (m0 : 0 ≤ m) (m1 : m < 256) (h1 : fm3 s.g s.m s.k = true) (HO : Hid (∀ y, Calls Try.prog 8 #[.int .u64 (wd3 s.g s.m s.k)] y (Ret (.tuple #[stV s, .bool true]) y))) (w : World) : Calls Try.prog 5 #[stV s, .int .u8 n, .int .u8 m] w (Ret (.bool true) w) := by
  have hg := gdSt
  have hq : ∀ y, (binOp .neq 23 (stV s) (stV s)).run Try.prog y = .ok (.bool false) y := fun y => by rw [neSt, decide_eq_true rfl]; rfl
  go_enter Try.func5, Try.ntmps5
  go_wp2_with (first
    | (go_at_call 7; refine (awake_any _).mono ?_; rintro e w' hr; obtain ⟨rfl, s0, rfl⟩ := hr.over; clear hr)
    | (go_at_call 11; refine (rformed3 _ _ _ _).mono ?_; rintro e w' hr; obtain ⟨rfl, s1, rfl⟩ := hr.over; clear hr)
    | (go_at_call 12; refine (word3 _ _ _ _).mono ?_; rintro e w' hr; obtain ⟨rfl, s2, rfl⟩ := hr.over; clear hr)
    | (go_at_call 8; refine (HO.out _).mono ?_; rintro e w' hr; obtain ⟨rfl, s3, rfl⟩ := hr.over; clear hr))
  have X0 := Lib.hid (ext_over (((s0.comp s1).comp s2).comp s3) (ext_alloc (.cells #[.int .i64 s.g, .int .i64 s.m, .int .i64 s.k] 23) (ext_refl w)))
  have X2 := Lib.hid (ext_alloc (.cells #[.int .i64 0, .int .i64 0, .int .i64 0] 23) (ext_alloc (.cells #[.int .i64 s.g, .int .i64 s.m, .int .i64 s.k] 23) X0.out))
  have B2 : Hid (Made w ((over (w.alloc (.cells #[.int .i64 s.g, .int .i64 s.m, .int .i64 s.k] 23)) (((s0.comp s1).comp s2).comp s3)).heap.size + 1) #[.int .i64 0, .int .i64 0, .int .i64 0] 23 (((over (w.alloc (.cells #[.int .i64 s.g, .int .i64 s.m, .int .i64 s.k] 23)) (((s0.comp s1).comp s2).comp s3)).alloc (.cells #[.int .i64 s.g, .int .i64 s.m, .int .i64 s.k] 23)).alloc (.cells #[.int .i64 0, .int .i64 0, .int .i64 0] 23))) := Lib.hid ⟨hp_at _ _ _ (by simp), Nat.le_succ_of_le X0.out.size⟩
  generalize (((over (w.alloc (.cells #[.int .i64 s.g, .int .i64 s.m, .int .i64 s.k] 23)) (((s0.comp s1).comp s2).comp s3)).alloc (.cells #[.int .i64 s.g, .int .i64 s.m, .int .i64 s.k] 23)).alloc (.cells #[.int .i64 0, .int .i64 0, .int .i64 0] 23)) = Y at X2 B2 ⊢
  clear X0
  generalize (over (w.alloc (.cells #[.int .i64 s.g, .int .i64 s.m, .int .i64 s.k] 23)) (((s0.comp s1).comp s2).comp s3)).heap.size + 1 = bx at B2 ⊢
  go_loopw [10] (fun i wr => BackRel n m bx w i wr) (fun i _ => (n % 40 - intOf i).toNat)
  case atStart => exact ⟨0, by omega, by omega, rfl, (by rw [xC_le (by omega)]; exact B2.out), X2.out⟩
  case round =>
    clear B2 X2
    obtain ⟨k, hk, hk2, rfl, hM, hE⟩ := hrel
    have HE := Lib.hid hE
    clear hE
    by_cases hlt : (k : Int) < n % 40
    · by_cases c1 : (k : Int) < m
      · rw [xC_le (by omega)] at hM
        have HM := Lib.hid hM
        clear hM
        have lx := hp_lt HM.out.1
        have fx : ∀ o, wr.frozen? ⟨bx, o, none⟩ = false := fun _ => free_at HM.out.1
        have x0 := cell_at (o := 0) HM.out.1 rfl
        have x1 := cell_at (o := 1) HM.out.1 rfl
        have x2 := cell_at (o := 2) HM.out.1 rfl
        simp only [List.getElem_toArray, List.getElem_cons_zero, List.getElem_cons_succ] at x0 x1 x2
        have f1 : fm3 ((k : Int) + 1) 0 0 = true := fm3_yes (by unfold St.ok; dsimp only; omega)
        go_wp2_with (first
            | (go_at_call 14; refine (live3 _ _ _ _ _).mono ?_; rintro e w' hr; obtain ⟨rfl, s4, rfl⟩ := hr.over; clear hr)
            | (go_at_call 15; refine (retire3 _ _ _ _).mono ?_; rintro e w' hr; obtain ⟨rfl, s5, rfl⟩ := hr.over; clear hr)
            | (go_at_call 16; refine (freed_lt _ _ _ _ c1 (by omega) (by omega) _).mono ?_; rintro e w' hr; obtain ⟨rfl, s6, rfl⟩ := hr.over; clear hr)
            | (go_at_call 10; refine (formed3 _ _ _ _).mono ?_; rintro e w' hr; obtain ⟨rfl, s7, rfl⟩ := hr.over; clear hr))
        refine ⟨⟨k + 1, by omega, by omega, by go_num, ?_, by repeat (first | exact HE.out | apply ext_over | apply ext_alloc | (refine ext_set _ HM.out.2 ?_))⟩, by simp [intOf]; omega⟩
        rw [xC_le (by omega)]
        exact (((((HM.out.over _).alloc _).over _).set 0 _).set 1 _).set 2 _
      · by_cases c2 : (k : Int) ≤ m
        · rw [xC_le c2] at hM
          have HM := Lib.hid hM
          clear hM
          have lx := hp_lt HM.out.1
          have fx : ∀ o, wr.frozen? ⟨bx, o, none⟩ = false := fun _ => free_at HM.out.1
          have x0 := cell_at (o := 0) HM.out.1 rfl
          have x1 := cell_at (o := 1) HM.out.1 rfl
          have x2 := cell_at (o := 2) HM.out.1 rfl
          simp only [List.getElem_toArray, List.getElem_cons_zero, List.getElem_cons_succ] at x0 x1 x2
          have c3 : decide ((k : Int) < m) = false := decide_eq_false c1
          have c4 : m ≤ (k : Int) := (by omega)
          have HK : Hid (m = (k : Int)) := Lib.hid (by omega)
          clear c1
          have f1 : fm3 (k : Int) 3 0 = true := fm3_yes (by unfold St.ok; dsimp only; omega)
          go_wp2_with (first
              | (go_at_call 14; refine (live3 _ _ _ _ _).mono ?_; rintro e w' hr; obtain ⟨rfl, s4, rfl⟩ := hr.over; clear hr)
              | (go_at_call 15; refine (retire3 _ _ _ _).mono ?_; rintro e w' hr; obtain ⟨rfl, s5, rfl⟩ := hr.over; clear hr)
              | (go_at_call 16; refine (freed_ge _ _ _ _ c4 _).mono ?_; rintro e w' hr; obtain ⟨rfl, s6, rfl⟩ := hr.over; clear hr)
              | (go_at_call 10; refine (formed3 _ _ _ _).mono ?_; rintro e w' hr; obtain ⟨rfl, s7, rfl⟩ := hr.over; clear hr))
          refine ⟨⟨k + 1, by omega, by omega, by go_num, ?_, by repeat (first | exact HE.out | apply ext_over | apply ext_alloc | (refine ext_set _ HM.out.2 ?_))⟩, by simp [intOf]; omega⟩
          rw [xC_gt (by omega), HK.out]
          exact (((((HM.out.over _).alloc _).over _).set 0 _).set 1 _).set 2 _
        · rw [xC_gt c2] at hM
          have HM := Lib.hid hM
          clear hM
          have lx := hp_lt HM.out.1
          have fx : ∀ o, wr.frozen? ⟨bx, o, none⟩ = false := fun _ => free_at HM.out.1
          have x0 := cell_at (o := 0) HM.out.1 rfl
          have x1 := cell_at (o := 1) HM.out.1 rfl
          have x2 := cell_at (o := 2) HM.out.1 rfl
          simp only [List.getElem_toArray, List.getElem_cons_zero, List.getElem_cons_succ] at x0 x1 x2
          have hq3 : ∀ y, (binOp .eql 23 (.agg #[.int .i64 m, .int .i64 3, .int .i64 0]) (.agg #[.int .i64 m, .int .i64 3, .int .i64 0])).run Try.prog y = .ok (.bool true) y := fun y => (by have := eqSt ⟨m, 3, 0⟩ ⟨m, 3, 0⟩ y; rw [decide_eq_true rfl] at this; exact this)
          go_wp2
          refine wp_region_over (by kernel_rfl) (by kernel_rfl) ?_
          repeat (go_big_quiet_step ((go_at_call 16; exact over_call (freed_ge _ _ _ _ (Int.le_refl _) _))))
          refine wpQuiet_nil ?_
          intro _ hw'
          obtain ⟨s8, hw''⟩ := hw'
          subst hw''
          go_wp2
          go_ret
          exact Ret.mk (ext_over _ HE.out)
    · have hge : n % 40 ≤ (k : Int) := (by omega)
      have hd : decide ((k : Int) < n % 40) = false := decide_eq_false hlt
      clear hlt
      by_cases c2 : (k : Int) ≤ m
      · rw [xC_le c2] at hM
        have HM := Lib.hid hM
        clear hM
        have lx := hp_lt HM.out.1
        have fx : ∀ o, wr.frozen? ⟨bx, o, none⟩ = false := fun _ => free_at HM.out.1
        have x0 := cell_at (o := 0) HM.out.1 rfl
        have x1 := cell_at (o := 1) HM.out.1 rfl
        have x2 := cell_at (o := 2) HM.out.1 rfl
        simp only [List.getElem_toArray, List.getElem_cons_zero, List.getElem_cons_succ] at x0 x1 x2
        have d1 : (k : Int) ≤ n := (by omega)
        go_wp2
        go_ret
        exact Ret.mk (by repeat (first | exact HE.out | apply ext_over | apply ext_alloc | (refine ext_set _ HM.out.2 ?_)))
      · rw [xC_gt c2] at hM
        have HM := Lib.hid hM
        clear hM
        have lx := hp_lt HM.out.1
        have fx : ∀ o, wr.frozen? ⟨bx, o, none⟩ = false := fun _ => free_at HM.out.1
        have x0 := cell_at (o := 0) HM.out.1 rfl
        have x1 := cell_at (o := 1) HM.out.1 rfl
        have x2 := cell_at (o := 2) HM.out.1 rfl
        simp only [List.getElem_toArray, List.getElem_cons_zero, List.getElem_cons_succ] at x0 x1 x2
        have d1 : m ≤ n := (by omega)
        go_wp2
        go_ret
        exact Ret.mk (by repeat (first | exact HE.out | apply ext_over | apply ext_alloc | (refine ext_set _ HM.out.2 ?_)))

theorem stateBack_any (s : St) (n m : Int) (w : World) (hn : 0 ≤ n ∧ n ≤ 255) (hm : 0 ≤ m ∧ m ≤ 255) : Calls Try.prog 5 #[stV s, .int .u8 n, .int .u8 m] w (Ret (.bool true) w) := by
  by_cases h : s.ok
  · refine back_yes s n m hn.1 (by omega) hm.1 (by omega) (fm3_yes h) (Lib.hid fun y => ?_) w
    have := of_any s.word y
    rw [(isW_word s h).2, decide_eq_true (isW_word s h).1] at this
    rw [wd3_is]
    exact this
  · exact back_no s n m (fm3_no h) w

end Go.Proofs.Ytegcdiepedgodaa
