/-
  Equality of two states; what the reference's calls of layer 7, and awake, come to. Conditions: those of each theorem.
-/
import Derived.Test.YtegcdiepedgodaaStateOf
import Derived.Laws.StructEq
namespace Go.Proofs.Ytegcdiepedgodaa
open Go Go.RowKit

theorem equalSt (x y : St) (w : World) (d : Nat) : (Op.equalIn (d + 1 + 1) 23 (stV x) (stV y)).run Try.prog w = .ok (decide (x = y)) w := by
  have h1 : Try.prog.underlying 23 = some (.struct (Try.prog.fieldsOf 23)) := by kernel_rfl
  have h2 : Try.prog.stoodInHeld 23 = false := by kernel_rfl
  rw [run_equalIn_struct w _ _ _ _ h1 h2]
  have h3 : ((Try.prog.fieldsOf 23).toList.map fun f => (f.offset, f.type, decide (f.name = "_"))) = [(0, 3, false), (1, 3, false), (2, 3, false)] := by kernel_rfl
  generalize (Try.prog.fieldsOf 23).toList = fs at h3 ⊢
  match fs, h3 with
  | [], h3 => simp at h3
  | [_], h3 => simp at h3
  | [_, _], h3 => simp at h3
  | _ :: _ :: _ :: _ :: _, h3 => simp at h3
  | [f0, f1, f2], h3 =>
    simp only [List.map_cons, List.map_nil, List.cons.injEq, Prod.mk.injEq, and_true, decide_eq_false_iff_not] at h3
    obtain ⟨⟨o0, t0, n0⟩, ⟨o1, t1, n1⟩, o2, t2, n2⟩ := h3
    simp only [Op.eqFields, o0, o1, o2, t0, t1, t2]
    have p0 : ∀ (a b c : Int) w, (part 3 #[.int .i64 a, .int .i64 b, .int .i64 c] 0).run Try.prog w = .ok (.int .i64 a) w := fun a b c w => by simp [part, go_sem]
    have p1 : ∀ (a b c : Int) w, (part 3 #[.int .i64 a, .int .i64 b, .int .i64 c] 1).run Try.prog w = .ok (.int .i64 b) w := fun a b c w => by simp [part, go_sem]
    have p2 : ∀ (a b c : Int) w, (part 3 #[.int .i64 a, .int .i64 b, .int .i64 c] 2).run Try.prog w = .ok (.int .i64 c) w := fun a b c w => by simp [part, go_sem]
    have q0 : ∀ a b w, (Op.equalIn (d + 1) 3 (.int .i64 a) (.int .i64 b)).run Try.prog w = .ok (a == b) w := fun a b w => run_equalIn_int w d _ _ _ _ _ Try.underlying3
    obtain ⟨a, b, c⟩ := x
    obtain ⟨a', b', c'⟩ := y
    dsimp only
    by_cases ha : a = a' <;> by_cases hb : b = b' <;> by_cases hc : c = c' <;> simp [n0, n1, n2, p0, p1, p2, q0, ha, hb, hc, St.mk.injEq]
theorem eqSt (x y : St) (w : World) : (binOp .eql 23 (stV x) (stV y)).run Try.prog w = .ok (.bool (decide (x = y))) w := by
  rw [run_eql_struct, equalSt x y w 9998]
  rfl
theorem gdSt (op : BinOp) (x y : Operand) (xs ys : Array Value) (w : World) : (eqGuard op 23 x y (.agg xs) (.agg ys)).run Try.prog w = .ok () w := run_eqGuard_agg w op _ x y xs ys (by kernel_rfl)


theorem neSt (x y : St) (w : World) : (binOp .neq 23 (stV x) (stV y)).run Try.prog w = .ok (.bool (!decide (x = y))) w := by
  rw [run_neq_struct, equalSt x y w 9998]
  rfl

set_option maxHeartbeats 1000000 in
theorem rsformed_any (s : St) (w : World) (r : Bool) (hr : Hid (r = true ↔ s.ok)) : Calls Try.prog 11 #[stV s] w (Ret (.bool r) w) := by
  go_enter Try.func11, Try.ntmps11
  go_wp2
  all_goals go_ret
  all_goals refine Ret.bool ?_ (by repeat (first | exact ext_refl _ | apply ext_over | apply ext_alloc | (refine ext_set _ ?_ ?_; exact Nat.le_refl _)))
  all_goals (have h := hr.out; unfold St.ok at h; cases r <;> simp only [Bool.false_eq_true, false_iff, true_iff] at h ⊢ <;> first | omega | (simp only [decide_eq_true_eq]; omega) | (simp only [decide_eq_false_iff_not]; omega))
  --@end
  
set_option maxHeartbeats 1000000 in
theorem rword_any (s : St) (w : World) : Calls Try.prog 13 #[stV s] w (Ret (.int .u64 (U s.word)) w) := by
  by_cases h : s.ok
  · rw [U_word s h]
    have F := Lib.hid h
    obtain ⟨h1, h2, h3, h4, h5, h6⟩ := h
    go_enter Try.func13, Try.ntmps13
    go_wp2_with (go_at_call 11; refine (rsformed_any _ _ true (hid_yes F.out)).mono ?_; rintro e w' hr; obtain ⟨rfl, s0, rfl⟩ := hr.over; clear hr)
    go_ret
    exact Ret.int (by unfold St.num; omega) (by repeat (first | exact ext_refl _ | apply ext_over | apply ext_alloc | (refine ext_set _ ?_ ?_; exact Nat.le_refl _)))
  · rw [word_no s h, U_0]
    have F := Lib.hid h
    clear h
    go_enter Try.func13, Try.ntmps13
    go_wp2_with (go_at_call 11; refine (rsformed_any _ _ false (hid_no F.out)).mono ?_; rintro e w' hr; obtain ⟨rfl, s0, rfl⟩ := hr.over; clear hr)
    go_ret
    exact Ret.mk (by repeat (first | exact ext_refl _ | apply ext_over | apply ext_alloc | (refine ext_set _ ?_ ?_; exact Nat.le_refl _)))

theorem word51 : U (St.word ⟨5, 1, 0⟩) = 1073741829 := by rw [U_word _ (by decide)]; rfl
theorem word51_is (w : World) : Calls Try.prog 12 #[.agg #[.int .i64 5, .int .i64 1, .int .i64 0]] w (Ret (.int .u64 1073741829) w) := word51 ▸ word_any ⟨5, 1, 0⟩ w
theorem formed51_is (w : World) : Calls Try.prog 10 #[.agg #[.int .i64 5, .int .i64 1, .int .i64 0]] w (Ret (.bool true) w) := sformed_yes ⟨5, 1, 0⟩ (by decide) w
set_option maxHeartbeats 1000000 in
theorem awake_any (w : World) : Calls Try.prog 7 #[] w (Ret (.bool true) w) := by
  go_enter Try.func7, Try.ntmps7
  go_wp2_with (first
    | (go_at_call 10; refine (formed51_is _).mono ?_; rintro e w' hr; obtain ⟨rfl, s0, rfl⟩ := hr.over; clear hr)
    | (go_at_call 12; refine (word51_is _).mono ?_; rintro e w' hr; obtain ⟨rfl, s1, rfl⟩ := hr.over; clear hr))
  go_ret
  exact Ret.mk (by repeat (first | exact ext_refl _ | apply ext_over | apply ext_alloc | (refine ext_set _ ?_ ?_; exact Nat.le_refl _)))
end Go.Proofs.Ytegcdiepedgodaa
