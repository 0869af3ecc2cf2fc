/-
  Equality of two handles; what the reference's calls of layer 8 (but Mine), and awake, come to. Conditions: those of each theorem.
-/
import Derived.Test.YtniejbncahmcoaaHandleOf
import Derived.Laws.StructEq
namespace Go.Proofs.Ytniejbncahmcoaa
open Go Go.RowKit

theorem equalHn (x y : Hn) (w : World) (d : Nat) : (Op.equalIn (d + 1 + 1) 23 (hnV x) (hnV y)).run Try.prog w = .ok (decide (x = y)) w := by
  have h1 : Try.prog.underlying 23 = some (.struct (Try.prog.fieldsOf 23)) := by kernel_rfl
  have h2 : Try.prog.stoodInHeld 23 = false := by kernel_rfl
  rw [run_equalIn_struct w _ _ _ _ h1 h2]
  have h3 : ((Try.prog.fieldsOf 23).toList.map fun f => (f.offset, f.type, decide (f.name = "_"))) = [(0, 3, false), (1, 3, false), (2, 3, false)] := by kernel_rfl
  generalize (Try.prog.fieldsOf 23).toList = fs at h3 ⊢
  match fs, h3 with
  | [], h3 => simp at h3
  | [_], h3 => simp at h3
  | [_, _], h3 => simp at h3
  | _ :: _ :: _ :: _ :: _, h3 => simp at h3
  | [f0, f1, f2], h3 =>
    simp only [List.map_cons, List.map_nil, List.cons.injEq, Prod.mk.injEq, and_true, decide_eq_false_iff_not] at h3
    obtain ⟨⟨o0, t0, n0⟩, ⟨o1, t1, n1⟩, o2, t2, n2⟩ := h3
    simp only [Op.eqFields, o0, o1, o2, t0, t1, t2]
    have p0 : ∀ (a b c : Int) w, (part 3 #[.int .i64 a, .int .i64 b, .int .i64 c] 0).run Try.prog w = .ok (.int .i64 a) w := fun a b c w => by simp [part, go_sem]
    have p1 : ∀ (a b c : Int) w, (part 3 #[.int .i64 a, .int .i64 b, .int .i64 c] 1).run Try.prog w = .ok (.int .i64 b) w := fun a b c w => by simp [part, go_sem]
    have p2 : ∀ (a b c : Int) w, (part 3 #[.int .i64 a, .int .i64 b, .int .i64 c] 2).run Try.prog w = .ok (.int .i64 c) w := fun a b c w => by simp [part, go_sem]
    have q0 : ∀ a b w, (Op.equalIn (d + 1) 3 (.int .i64 a) (.int .i64 b)).run Try.prog w = .ok (a == b) w := fun a b w => run_equalIn_int w d _ _ _ _ _ Try.underlying3
    obtain ⟨a, b, c⟩ := x
    obtain ⟨a', b', c'⟩ := y
    dsimp only
    by_cases ha : a = a' <;> by_cases hb : b = b' <;> by_cases hc : c = c' <;> simp [n0, n1, n2, p0, p1, p2, q0, ha, hb, hc, Hn.mk.injEq]
theorem eqHn (x y : Hn) (w : World) : (binOp .eql 23 (hnV x) (hnV y)).run Try.prog w = .ok (.bool (decide (x = y))) w := by
  rw [run_eql_struct, equalHn x y w 9998]
  rfl
theorem gdHn (op : BinOp) (x y : Operand) (xs ys : Array Value) (w : World) : (eqGuard op 23 x y (.agg xs) (.agg ys)).run Try.prog w = .ok () w := run_eqGuard_agg w op _ x y xs ys (by kernel_rfl)


theorem neHn (x y : Hn) (w : World) : (binOp .neq 23 (hnV x) (hnV y)).run Try.prog w = .ok (.bool (!decide (x = y))) w := by
  rw [run_neq_struct, equalHn x y w 9998]
  rfl

set_option maxHeartbeats 1000000 in
theorem rhformed_any (h : Hn) (w : World) (r : Bool) (hr : Hid (r = true ↔ h.ok)) : Calls Try.prog 11 #[hnV h] w (Ret (.bool r) w) := by
  go_enter Try.func11, Try.ntmps11
  go_wp2
  all_goals go_ret
  all_goals refine Ret.bool ?_ (by repeat (first | exact ext_refl _ | apply ext_over | apply ext_alloc | (refine ext_set _ ?_ ?_; exact Nat.le_refl _)))
  all_goals (have h := hr.out; unfold Hn.ok at h; cases r <;> simp only [Bool.false_eq_true, false_iff, true_iff] at h ⊢ <;> first | omega | (simp only [decide_eq_true_eq]; omega) | (simp only [decide_eq_false_iff_not]; omega))
  
set_option maxHeartbeats 1000000 in
theorem rhword_any (h : Hn) (w : World) : Calls Try.prog 13 #[hnV h] w (Ret (.int .u64 (U h.word)) w) := by
  by_cases k : h.ok
  · rw [hU_word h k]
    have F := Lib.hid k
    obtain ⟨h1, h2, h3, h4, h5, h6⟩ := k
    go_enter Try.func13, Try.ntmps13
    go_wp2_with (go_at_call 11; refine (rhformed_any _ _ true (hid_yes F.out)).mono ?_; rintro e w' hr; obtain ⟨rfl, s0, rfl⟩ := hr.over; clear hr)
    go_ret
    exact Ret.int (by unfold Hn.num; omega) (by repeat (first | exact ext_refl _ | apply ext_over | apply ext_alloc | (refine ext_set _ ?_ ?_; exact Nat.le_refl _)))
  · rw [hword_no h k, U_0]
    have F := Lib.hid k
    clear k
    go_enter Try.func13, Try.ntmps13
    go_wp2_with (go_at_call 11; refine (rhformed_any _ _ false (hid_no F.out)).mono ?_; rintro e w' hr; obtain ⟨rfl, s0, rfl⟩ := hr.over; clear hr)
    go_ret
    exact Ret.mk (by repeat (first | exact ext_refl _ | apply ext_over | apply ext_alloc | (refine ext_set _ ?_ ?_; exact Nat.le_refl _)))

theorem rhword_is (h : Hn) (w : World) (r : Int) (k : Hid (U h.word = r)) : Calls Try.prog 13 #[hnV h] w (Ret (.int .u64 r) w) := by
  rw [← k.out]
  exact rhword_any h w

set_option maxRecDepth 8000 in
set_option maxHeartbeats 1000000 in
theorem rhof_yes (X : Int) (h0 : 0 ≤ X) (h1 : X < 18446744073709551616) (s : Hn) (a1 : X % 1048576 = s.i) (a2 : X / 1048576 % 1073741824 = s.g) (a3 : X / 1125899906842624 % 64 = s.t) (hw : Hid (U s.word = X)) (w : World) : Calls Try.prog 9 #[.int .u64 X] w (Ret (.tuple #[hnV s, .bool true]) w) := by
  go_enter Try.func9, Try.ntmps9
  go_wp2_with (go_at_call 13; refine Hid.out ?_)
  rw [a1, a2, a3]
  have HX := Lib.hid (ext_alloc (.cells #[.int .i64 s.i, .int .i64 s.g, .int .i64 s.t] 23) (ext_alloc (.cells #[.int .i64 0, .int .i64 0, .int .i64 0] 23) (ext_refl w)))
  have HR := Lib.hid ((Made.mk #[.int .i64 0, .int .i64 0, .int .i64 0] 23 (ext_refl w)).alloc (.cells #[.int .i64 s.i, .int .i64 s.g, .int .i64 s.t] 23))
  have HQ : Hid (Made w (w.heap.size + 1) #[.int .i64 s.i, .int .i64 s.g, .int .i64 s.t] 23 ((w.alloc (.cells #[.int .i64 0, .int .i64 0, .int .i64 0] 23)).alloc (.cells #[.int .i64 s.i, .int .i64 s.g, .int .i64 s.t] 23))) := Lib.hid ⟨hp_at _ _ _ (by simp), Nat.le_succ _⟩
  generalize (w.alloc (.cells #[.int .i64 0, .int .i64 0, .int .i64 0] 23)).alloc (.cells #[.int .i64 s.i, .int .i64 s.g, .int .i64 s.t] 23) = Y at HX HR HQ ⊢
  have hne : w.heap.size ≠ w.heap.size + 1 := (by omega)
  generalize w.heap.size + 1 = bS at HQ hne ⊢
  generalize w.heap.size = bR at HR hne ⊢
  have hne2 := Ne.symm hne
  have lR := hp_lt HR.out.1
  have lS := hp_lt HQ.out.1
  have fR : ∀ o, Y.frozen? ⟨bR, o, none⟩ = false := fun _ => free_at HR.out.1
  have r0 := cell_at (o := 0) HR.out.1 rfl
  have r1 := cell_at (o := 1) HR.out.1 rfl
  have r2 := cell_at (o := 2) HR.out.1 rfl
  have q0 := cell_at (o := 0) HQ.out.1 rfl
  have q1 := cell_at (o := 1) HQ.out.1 rfl
  have q2 := cell_at (o := 2) HQ.out.1 rfl
  simp only [List.getElem_toArray, List.getElem_cons_zero, List.getElem_cons_succ] at r0 r1 r2 q0 q1 q2
  clear a1 a2 a3
  refine Lib.hid ?_
  refine (rhword_is s _ X (hw)).mono ?_
  rintro e w' hr
  obtain ⟨rfl, s2, rfl⟩ := hr.over
  clear hr
  go_wp2
  have HE9 := Lib.hid (ext_set (p := ⟨bR, 2, none⟩) (.int .i64 s.t) HR.out.2 (ext_set (p := ⟨bR, 1, none⟩) (.int .i64 s.g) HR.out.2 (ext_set (p := ⟨bR, 0, none⟩) (.int .i64 s.i) HR.out.2 (ext_over s2 HX.out))))
  have HR9 : Hid (Made w bR #[.int .i64 s.i, .int .i64 s.g, .int .i64 s.t] 23 ((((over Y s2).setCell ⟨bR, 0, none⟩ (.int .i64 s.i)).setCell ⟨bR, 1, none⟩ (.int .i64 s.g)).setCell ⟨bR, 2, none⟩ (.int .i64 s.t))) := Lib.hid ((((HR.out.over s2).set 0 (.int .i64 s.i)).set 1 (.int .i64 s.g)).set 2 (.int .i64 s.t))
  generalize ((((over Y s2).setCell ⟨bR, 0, none⟩ (.int .i64 s.i)).setCell ⟨bR, 1, none⟩ (.int .i64 s.g)).setCell ⟨bR, 2, none⟩ (.int .i64 s.t)) = Z9 at HE9 HR9 ⊢
  have z0 := cell_at (o := 0) HR9.out.1 rfl
  have z1 := cell_at (o := 1) HR9.out.1 rfl
  have z2 := cell_at (o := 2) HR9.out.1 rfl
  simp only [List.getElem_toArray, List.getElem_cons_zero, List.getElem_cons_succ] at z0 z1 z2
  exact bodyPost_ret (v := .tuple #[hnV s, .bool true]) (by simp [results, Try.results9, go_sem, z0, z1, z2]) rfl (Ret.mk HE9.out)

set_option maxRecDepth 8000 in
set_option maxHeartbeats 1000000 in
theorem rhof_odd (X : Int) (h0 : 0 ≤ X) (h1 : X < 18446744073709551616) (s : Hn) (a1 : X % 1048576 = s.i) (a2 : X / 1048576 % 1073741824 = s.g) (a3 : X / 1125899906842624 % 64 = s.t) (y : Int) (hw : Hid (U s.word = y)) (hy : (y != X) = true) (w : World) : Calls Try.prog 9 #[.int .u64 X] w (Ret (.tuple #[hnV ⟨0, 0, 0⟩, .bool false]) w) := by
  go_enter Try.func9, Try.ntmps9
  go_wp2_with (go_at_call 13; refine Hid.out ?_)
  rw [a1, a2, a3]
  have HX := Lib.hid (ext_alloc (.cells #[.int .i64 s.i, .int .i64 s.g, .int .i64 s.t] 23) (ext_alloc (.cells #[.int .i64 0, .int .i64 0, .int .i64 0] 23) (ext_refl w)))
  have HR := Lib.hid ((Made.mk #[.int .i64 0, .int .i64 0, .int .i64 0] 23 (ext_refl w)).alloc (.cells #[.int .i64 s.i, .int .i64 s.g, .int .i64 s.t] 23))
  have HQ : Hid (Made w (w.heap.size + 1) #[.int .i64 s.i, .int .i64 s.g, .int .i64 s.t] 23 ((w.alloc (.cells #[.int .i64 0, .int .i64 0, .int .i64 0] 23)).alloc (.cells #[.int .i64 s.i, .int .i64 s.g, .int .i64 s.t] 23))) := Lib.hid ⟨hp_at _ _ _ (by simp), Nat.le_succ _⟩
  generalize (w.alloc (.cells #[.int .i64 0, .int .i64 0, .int .i64 0] 23)).alloc (.cells #[.int .i64 s.i, .int .i64 s.g, .int .i64 s.t] 23) = Y at HX HR HQ ⊢
  have hne : w.heap.size ≠ w.heap.size + 1 := (by omega)
  generalize w.heap.size + 1 = bS at HQ hne ⊢
  generalize w.heap.size = bR at HR hne ⊢
  have hne2 := Ne.symm hne
  have lR := hp_lt HR.out.1
  have lS := hp_lt HQ.out.1
  have fR : ∀ o, Y.frozen? ⟨bR, o, none⟩ = false := fun _ => free_at HR.out.1
  have r0 := cell_at (o := 0) HR.out.1 rfl
  have r1 := cell_at (o := 1) HR.out.1 rfl
  have r2 := cell_at (o := 2) HR.out.1 rfl
  have q0 := cell_at (o := 0) HQ.out.1 rfl
  have q1 := cell_at (o := 1) HQ.out.1 rfl
  have q2 := cell_at (o := 2) HQ.out.1 rfl
  simp only [List.getElem_toArray, List.getElem_cons_zero, List.getElem_cons_succ] at r0 r1 r2 q0 q1 q2
  clear a1 a2 a3
  refine Lib.hid ?_
  refine (rhword_is s _ y (hw)).mono ?_
  rintro e w' hr
  obtain ⟨rfl, s2, rfl⟩ := hr.over
  clear hr
  go_wp2
  have HE9 := Lib.hid (ext_set (p := ⟨bR, 2, none⟩) (.int .i64 0) HR.out.2 (ext_set (p := ⟨bR, 1, none⟩) (.int .i64 0) HR.out.2 (ext_set (p := ⟨bR, 0, none⟩) (.int .i64 0) HR.out.2 (ext_over s2 HX.out))))
  have HR9 : Hid (Made w bR #[.int .i64 0, .int .i64 0, .int .i64 0] 23 ((((over Y s2).setCell ⟨bR, 0, none⟩ (.int .i64 0)).setCell ⟨bR, 1, none⟩ (.int .i64 0)).setCell ⟨bR, 2, none⟩ (.int .i64 0))) := Lib.hid ((((HR.out.over s2).set 0 (.int .i64 0)).set 1 (.int .i64 0)).set 2 (.int .i64 0))
  generalize ((((over Y s2).setCell ⟨bR, 0, none⟩ (.int .i64 0)).setCell ⟨bR, 1, none⟩ (.int .i64 0)).setCell ⟨bR, 2, none⟩ (.int .i64 0)) = Z9 at HE9 HR9 ⊢
  have z0 := cell_at (o := 0) HR9.out.1 rfl
  have z1 := cell_at (o := 1) HR9.out.1 rfl
  have z2 := cell_at (o := 2) HR9.out.1 rfl
  simp only [List.getElem_toArray, List.getElem_cons_zero, List.getElem_cons_succ] at z0 z1 z2
  exact bodyPost_ret (v := .tuple #[hnV ⟨0, 0, 0⟩, .bool false]) (by simp [results, Try.results9, go_sem, z0, z1, z2]) rfl (Ret.mk HE9.out)

theorem rhof_any (x : BitVec 64) (w : World) : Calls Try.prog 9 #[.int .u64 (U x)] w (Ret (.tuple #[hnV (ofH x), .bool (decide (isH x))]) w) := by
  have h0 := U_nonneg x
  have h1 := U_lt x
  have k := hU_word _ (hnN_ok x)
  by_cases h : isH x
  · rw [ofH_yes x h, decide_eq_true h]
    exact rhof_yes (U x) h0 h1 (hnN x) rfl rfl rfl (Lib.hid (k.trans ((isH_num x).1 h))) w
  · rw [ofH_no x h, decide_eq_false h]
    exact rhof_odd (U x) h0 h1 (hnN x) rfl rfl rfl _ (Lib.hid rfl) (bne_iff_ne.2 fun e => h ((isH_num x).2 (k.symm.trans e))) w

theorem hword31 : U (Hn.word ⟨3, 1, 0⟩) = 12105675798372941827 := by rw [hU_word _ (by decide)]; rfl
theorem hword31_is (w : World) : Calls Try.prog 12 #[.agg #[.int .i64 3, .int .i64 1, .int .i64 0]] w (Ret (.int .u64 12105675798372941827) w) := hword31 ▸ hword_any ⟨3, 1, 0⟩ w
theorem hformed31_is (w : World) : Calls Try.prog 10 #[.agg #[.int .i64 3, .int .i64 1, .int .i64 0]] w (Ret (.bool true) w) := hformed_yes ⟨3, 1, 0⟩ (by decide) w
set_option maxHeartbeats 1000000 in
theorem hawake_any (w : World) : Calls Try.prog 7 #[] w (Ret (.bool true) w) := by
  go_enter Try.func7, Try.ntmps7
  go_wp2_with (first
    | (go_at_call 10; refine (hformed31_is _).mono ?_; rintro e w' hr; obtain ⟨rfl, s0, rfl⟩ := hr.over; clear hr)
    | (go_at_call 12; refine (hword31_is _).mono ?_; rintro e w' hr; obtain ⟨rfl, s1, rfl⟩ := hr.over; clear hr))
  go_ret
  exact Ret.mk (by repeat (first | exact ext_refl _ | apply ext_over | apply ext_alloc | (refine ext_set _ ?_ ?_; exact Nat.le_refl _)))
end Go.Proofs.Ytniejbncahmcoaa
