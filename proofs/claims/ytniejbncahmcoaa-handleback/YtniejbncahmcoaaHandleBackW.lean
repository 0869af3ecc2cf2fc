/-
  HandleBack: the call's ways, walked. Conditions: those of each theorem.
-/
import Derived.Test.YtniejbncahmcoaaHandleMn
namespace Go.Proofs.Ytniejbncahmcoaa
open Go Go.RowKit

theorem rhformed_yes (s : Hn) (h : Hid s.ok) (w : World) : Calls Try.prog 11 #[hnV s] w (Ret (.bool true) w) := rhformed_any s w true (hid_yes h.out)
theorem rhformed_no (s : Hn) (h : Hid (¬ s.ok)) (w : World) : Calls Try.prog 11 #[hnV s] w (Ret (.bool false) w) := rhformed_any s w false (hid_no h.out)

set_option maxRecDepth 8000 in
set_option maxHeartbeats 1000000 in
theorem hback_no (s : Hn) (b : Int) (H : Hid (¬ s.ok)) (w : World) : Calls Try.prog 5 #[hnV s, .int .u8 b] w (Ret (.bool true) w) := by
  go_enter Try.func5, Try.ntmps5
  go_wp2_with (first
    | (go_at_call 7; refine (hawake_any _).mono ?_; rintro e w' hr; obtain ⟨rfl, s0, rfl⟩ := hr.over; clear hr)
    | (go_at_call 11; refine (rhformed_no _ H _).mono ?_; rintro e w' hr; obtain ⟨rfl, s1, rfl⟩ := hr.over; clear hr))
  go_ret
  exact Ret.mk (by repeat (first | exact ext_refl _ | apply ext_over | apply ext_alloc | (refine ext_set _ ?_ ?_; exact Nat.le_refl _)))

theorem hof_zero (w : World) : Calls Try.prog 8 #[.int .u64 0] w (Ret (.tuple #[hnV ⟨0, 0, 0⟩, .bool false]) w) := U_0 ▸ hof_is 0#64 ⟨0, 0, 0⟩ false ⟨ofH_no _ isH_zero, decide_eq_false isH_zero⟩ w

set_option maxRecDepth 8000 in
set_option maxHeartbeats 1000000 in
theorem hback_in (s : Hn) (b : Int) (b0 : 0 ≤ b) (b1 : b < 256) (c : b % 64 < 56) (H : Hid s.ok) (f : Hn) (H2 : Hid (ofH (s.word ^^^ 1#64 <<< (b % 64).toNat) = f ∧ decide (isH (s.word ^^^ 1#64 <<< (b % 64).toNat)) = true)) (q2 : ∀ y, (binOp .neq 23 (hnV f) (hnV s)).run Try.prog y = .ok (.bool true) y) (H1 : Hid (ofH s.word = s ∧ decide (isH s.word) = true)) (q1 : ∀ y, (binOp .eql 23 (hnV s) (hnV s)).run Try.prog y = .ok (.bool true) y) (w : World) : Calls Try.prog 5 #[hnV s, .int .u8 b] w (Ret (.bool true) w) := by
  have hg := gdHn
  go_enter Try.func5, Try.ntmps5
  go_wp2_with (first
    | (go_at_call 7; refine (hawake_any _).mono ?_; rintro e w' hr; obtain ⟨rfl, s0, rfl⟩ := hr.over; clear hr)
    | (go_at_call 11; refine (rhformed_yes _ H _).mono ?_; rintro e w' hr; obtain ⟨rfl, s1, rfl⟩ := hr.over; clear hr)
    | (go_at_call 12; refine (hword_any s _).mono ?_; rintro e w' hr; obtain ⟨rfl, s2, rfl⟩ := hr.over; clear hr)
    | (go_at_call 8; refine Hid.out ?_))
  refine Lib.hid ?_
  refine (hof_is _ s true H1 _).mono ?_
  rintro e w' hr
  obtain ⟨rfl, s3, rfl⟩ := hr.over
  clear hr
  go_wp2_with (first
    | (go_at_call 12; refine (hword_any s _).mono ?_; rintro e w' hr; obtain ⟨rfl, s4, rfl⟩ := hr.over; clear hr)
    | (go_at_call 8; refine Hid.out ?_))
  have X0 := Lib.hid (ext_over (((s0.comp s1).comp s2).comp s3) (ext_alloc (.cells #[.int .i64 s.i, .int .i64 s.g, .int .i64 s.t] 23) (ext_refl w)))
  have X1 := Lib.hid (ext_over s4 (ext_alloc (.cells #[.int .i64 s.i, .int .i64 s.g, .int .i64 s.t] 23) X0.out))
  have B0 := Lib.hid ((((Made.mk #[.int .i64 s.i, .int .i64 s.g, .int .i64 s.t] 23 (ext_refl w)).over (((s0.comp s1).comp s2).comp s3)).alloc (.cells #[.int .i64 s.i, .int .i64 s.g, .int .i64 s.t] 23)).over s4)
  have B1 := Lib.hid ((Made.mk #[.int .i64 s.i, .int .i64 s.g, .int .i64 s.t] 23 X0.out).over s4)
  generalize (over ((over (w.alloc (.cells #[.int .i64 s.i, .int .i64 s.g, .int .i64 s.t] 23)) (((s0.comp s1).comp s2).comp s3)).alloc (.cells #[.int .i64 s.i, .int .i64 s.g, .int .i64 s.t] 23)) s4) = Y at X1 B0 B1 ⊢
  clear X0
  generalize (over (w.alloc (.cells #[.int .i64 s.i, .int .i64 s.g, .int .i64 s.t] 23)) (((s0.comp s1).comp s2).comp s3)).heap.size = ba at B1 ⊢
  generalize w.heap.size = bh at B0 ⊢
  refine Lib.hid ?_
  refine (hof_is _ f true H2 _).mono ?_
  rintro e w' hr
  obtain ⟨rfl, s5, rfl⟩ := hr.over
  clear hr
  go_wp2_with (go_at_call 8; refine Hid.out ?_)
  have X2 := Lib.hid (ext_alloc (.cells #[.int .i64 f.i, .int .i64 f.g, .int .i64 f.t] 23) (ext_over s5 X1.out))
  have B2 := Lib.hid (Made.mk #[.int .i64 f.i, .int .i64 f.g, .int .i64 f.t] 23 (ext_over s5 X1.out))
  have C0 := Lib.hid ((B0.out.over s5).alloc (.cells #[.int .i64 f.i, .int .i64 f.g, .int .i64 f.t] 23))
  have C1 := Lib.hid ((B1.out.over s5).alloc (.cells #[.int .i64 f.i, .int .i64 f.g, .int .i64 f.t] 23))
  generalize ((over Y s5).alloc (.cells #[.int .i64 f.i, .int .i64 f.g, .int .i64 f.t] 23)) = Z at X2 B2 C0 C1 ⊢
  generalize (over Y s5).heap.size = bb at B2 ⊢
  clear X1 B0 B1
  have hh0 := cell_at (o := 0) C0.out.1 rfl
  have hh1 := cell_at (o := 1) C0.out.1 rfl
  have hh2 := cell_at (o := 2) C0.out.1 rfl
  have lh := hp_lt C0.out.1
  have aa0 := cell_at (o := 0) C1.out.1 rfl
  have aa1 := cell_at (o := 1) C1.out.1 rfl
  have aa2 := cell_at (o := 2) C1.out.1 rfl
  have la := hp_lt C1.out.1
  have bb0 := cell_at (o := 0) B2.out.1 rfl
  have bb1 := cell_at (o := 1) B2.out.1 rfl
  have bb2 := cell_at (o := 2) B2.out.1 rfl
  have lb := hp_lt B2.out.1
  simp only [List.getElem_toArray, List.getElem_cons_zero, List.getElem_cons_succ] at hh0 hh1 hh2 aa0 aa1 aa2 bb0 bb1 bb2
  refine Lib.hid ?_
  refine (hof_zero _).mono ?_
  rintro e w' hr
  obtain ⟨rfl, s6, rfl⟩ := hr.over
  clear hr
  go_wp2
  go_ret
  exact Ret.mk (ext_alloc _ (ext_over _ X2.out))

set_option maxRecDepth 8000 in
set_option maxHeartbeats 1000000 in
theorem hback_out (s : Hn) (b : Int) (b0 : 0 ≤ b) (b1 : b < 256) (c : 56 ≤ b % 64) (H : Hid s.ok) (f : Hn) (H2 : Hid (ofH (s.word ^^^ 1#64 <<< (b % 64).toNat) = f ∧ decide (isH (s.word ^^^ 1#64 <<< (b % 64).toNat)) = false)) (H1 : Hid (ofH s.word = s ∧ decide (isH s.word) = true)) (q1 : ∀ y, (binOp .eql 23 (hnV s) (hnV s)).run Try.prog y = .ok (.bool true) y) (w : World) : Calls Try.prog 5 #[hnV s, .int .u8 b] w (Ret (.bool true) w) := by
  have hg := gdHn
  go_enter Try.func5, Try.ntmps5
  go_wp2_with (first
    | (go_at_call 7; refine (hawake_any _).mono ?_; rintro e w' hr; obtain ⟨rfl, s0, rfl⟩ := hr.over; clear hr)
    | (go_at_call 11; refine (rhformed_yes _ H _).mono ?_; rintro e w' hr; obtain ⟨rfl, s1, rfl⟩ := hr.over; clear hr)
    | (go_at_call 12; refine (hword_any s _).mono ?_; rintro e w' hr; obtain ⟨rfl, s2, rfl⟩ := hr.over; clear hr)
    | (go_at_call 8; refine Hid.out ?_))
  refine Lib.hid ?_
  refine (hof_is _ s true H1 _).mono ?_
  rintro e w' hr
  obtain ⟨rfl, s3, rfl⟩ := hr.over
  clear hr
  go_wp2_with (first
    | (go_at_call 12; refine (hword_any s _).mono ?_; rintro e w' hr; obtain ⟨rfl, s4, rfl⟩ := hr.over; clear hr)
    | (go_at_call 8; refine Hid.out ?_))
  have X0 := Lib.hid (ext_over (((s0.comp s1).comp s2).comp s3) (ext_alloc (.cells #[.int .i64 s.i, .int .i64 s.g, .int .i64 s.t] 23) (ext_refl w)))
  have X1 := Lib.hid (ext_over s4 (ext_alloc (.cells #[.int .i64 s.i, .int .i64 s.g, .int .i64 s.t] 23) X0.out))
  have B0 := Lib.hid ((((Made.mk #[.int .i64 s.i, .int .i64 s.g, .int .i64 s.t] 23 (ext_refl w)).over (((s0.comp s1).comp s2).comp s3)).alloc (.cells #[.int .i64 s.i, .int .i64 s.g, .int .i64 s.t] 23)).over s4)
  have B1 := Lib.hid ((Made.mk #[.int .i64 s.i, .int .i64 s.g, .int .i64 s.t] 23 X0.out).over s4)
  generalize (over ((over (w.alloc (.cells #[.int .i64 s.i, .int .i64 s.g, .int .i64 s.t] 23)) (((s0.comp s1).comp s2).comp s3)).alloc (.cells #[.int .i64 s.i, .int .i64 s.g, .int .i64 s.t] 23)) s4) = Y at X1 B0 B1 ⊢
  clear X0
  generalize (over (w.alloc (.cells #[.int .i64 s.i, .int .i64 s.g, .int .i64 s.t] 23)) (((s0.comp s1).comp s2).comp s3)).heap.size = ba at B1 ⊢
  generalize w.heap.size = bh at B0 ⊢
  refine Lib.hid ?_
  refine (hof_is _ f false H2 _).mono ?_
  rintro e w' hr
  obtain ⟨rfl, s5, rfl⟩ := hr.over
  clear hr
  go_wp2_with (go_at_call 8; refine Hid.out ?_)
  have X2 := Lib.hid (ext_alloc (.cells #[.int .i64 f.i, .int .i64 f.g, .int .i64 f.t] 23) (ext_over s5 X1.out))
  have B2 := Lib.hid (Made.mk #[.int .i64 f.i, .int .i64 f.g, .int .i64 f.t] 23 (ext_over s5 X1.out))
  have C0 := Lib.hid ((B0.out.over s5).alloc (.cells #[.int .i64 f.i, .int .i64 f.g, .int .i64 f.t] 23))
  have C1 := Lib.hid ((B1.out.over s5).alloc (.cells #[.int .i64 f.i, .int .i64 f.g, .int .i64 f.t] 23))
  generalize ((over Y s5).alloc (.cells #[.int .i64 f.i, .int .i64 f.g, .int .i64 f.t] 23)) = Z at X2 B2 C0 C1 ⊢
  generalize (over Y s5).heap.size = bb at B2 ⊢
  clear X1 B0 B1
  have hh0 := cell_at (o := 0) C0.out.1 rfl
  have hh1 := cell_at (o := 1) C0.out.1 rfl
  have hh2 := cell_at (o := 2) C0.out.1 rfl
  have lh := hp_lt C0.out.1
  have aa0 := cell_at (o := 0) C1.out.1 rfl
  have aa1 := cell_at (o := 1) C1.out.1 rfl
  have aa2 := cell_at (o := 2) C1.out.1 rfl
  have la := hp_lt C1.out.1
  have bb0 := cell_at (o := 0) B2.out.1 rfl
  have bb1 := cell_at (o := 1) B2.out.1 rfl
  have bb2 := cell_at (o := 2) B2.out.1 rfl
  have lb := hp_lt B2.out.1
  simp only [List.getElem_toArray, List.getElem_cons_zero, List.getElem_cons_succ] at hh0 hh1 hh2 aa0 aa1 aa2 bb0 bb1 bb2
  refine Lib.hid ?_
  refine (hof_zero _).mono ?_
  rintro e w' hr
  obtain ⟨rfl, s6, rfl⟩ := hr.over
  clear hr
  go_wp2
  go_ret
  exact Ret.mk (ext_alloc _ (ext_over _ X2.out))

theorem handleBack_any (s : Hn) (b : Int) (w : World) (hb : 0 ≤ b ∧ b ≤ 255) : Calls Try.prog 5 #[hnV s, .int .u8 b] w (Ret (.bool true) w) := by
  by_cases h : s.ok
  · have e := isH_word s h
    have H1 : Hid (ofH s.word = s ∧ decide (isH s.word) = true) := Lib.hid ⟨e.2, decide_eq_true e.1⟩
    have q1 : ∀ y, (binOp .eql 23 (hnV s) (hnV s)).run Try.prog y = .ok (.bool true) y := fun y => by rw [eqHn, decide_eq_true rfl]
    have k : (b % 64).toNat < 64 := by omega
    have e2 := isH_turn s.word e.1 (b % 64).toNat k
    by_cases c : b % 64 < 56
    · have c2 : (b % 64).toNat < 56 := by omega
      refine hback_in s b hb.1 (by omega) c (Lib.hid h) _ (Lib.hid ⟨rfl, decide_eq_true (e2.2 c2)⟩) (fun y => ?_) H1 q1 w
      rw [neHn, decide_eq_false (ofH_turn s h _ c2)]
      rfl
    · exact hback_out s b hb.1 (by omega) (by omega) (Lib.hid h) _ (Lib.hid ⟨rfl, decide_eq_false fun x => c (by have := e2.1 x; omega)⟩) H1 q1 w
  · exact hback_no s b (Lib.hid h) w

end Go.Proofs.Ytniejbncahmcoaa
