/-
  What the reference's Place comes to. Conditions: those of each theorem.
-/
import Derived.Test.YtdbbbefkahmneaaPlanLoc
import Derived.Test.YtdbbbefkahmneaaPlanAllW
import Derived.Laws.StructEq
namespace Go.Proofs.Ytdbbbefkahmneaa
open Go Go.RowKit

theorem equalT3 (x y : T3) (w : World) (d : Nat) : (Op.equalIn (d + 1 + 1) 25 (wdV x) (wdV y)).run Try.prog w = .ok (decide (x = y)) w := by
  have h1 : Try.prog.underlying 25 = some (.struct (Try.prog.fieldsOf 25)) := by kernel_rfl
  have h2 : Try.prog.stoodInHeld 25 = false := by kernel_rfl
  rw [run_equalIn_struct w _ _ _ _ h1 h2]
  have h3 : ((Try.prog.fieldsOf 25).toList.map fun f => (f.offset, f.type, decide (f.name = "_"))) = [(0, 3, false), (1, 3, false), (2, 3, false)] := by kernel_rfl
  generalize (Try.prog.fieldsOf 25).toList = fs at h3 ⊢
  match fs, h3 with
  | [], h3 => simp at h3
  | [_], h3 => simp at h3
  | [_, _], h3 => simp at h3
  | _ :: _ :: _ :: _ :: _, h3 => simp at h3
  | [f0, f1, f2], h3 =>
    simp only [List.map_cons, List.map_nil, List.cons.injEq, Prod.mk.injEq, and_true, decide_eq_false_iff_not] at h3
    obtain ⟨⟨o0, t0, n0⟩, ⟨o1, t1, n1⟩, o2, t2, n2⟩ := h3
    simp only [Op.eqFields, o0, o1, o2, t0, t1, t2]
    have p0 : ∀ (a b c : Int) w, (part 3 #[.int .i64 a, .int .i64 b, .int .i64 c] 0).run Try.prog w = .ok (.int .i64 a) w := fun a b c w => by simp [part, go_sem]
    have p1 : ∀ (a b c : Int) w, (part 3 #[.int .i64 a, .int .i64 b, .int .i64 c] 1).run Try.prog w = .ok (.int .i64 b) w := fun a b c w => by simp [part, go_sem]
    have p2 : ∀ (a b c : Int) w, (part 3 #[.int .i64 a, .int .i64 b, .int .i64 c] 2).run Try.prog w = .ok (.int .i64 c) w := fun a b c w => by simp [part, go_sem]
    have q0 : ∀ a b w, (Op.equalIn (d + 1) 3 (.int .i64 a) (.int .i64 b)).run Try.prog w = .ok (a == b) w := fun a b w => run_equalIn_int w d _ _ _ _ _ Try.underlying3
    obtain ⟨a, b, c⟩ := x
    obtain ⟨a', b', c'⟩ := y
    dsimp only
    by_cases ha : a = a' <;> by_cases hb : b = b' <;> by_cases hc : c = c' <;> simp [n0, n1, n2, p0, p1, p2, q0, ha, hb, hc, T3.mk.injEq]
theorem eqT3 (x y : T3) (w : World) : (binOp .eql 25 (wdV x) (wdV y)).run Try.prog w = .ok (.bool (decide (x = y))) w := by
  rw [run_eql_struct, equalT3 x y w 9998]
  rfl
theorem gdT3 (op : BinOp) (x y : Operand) (xs ys : Array Value) (w : World) : (eqGuard op 25 x y (.agg xs) (.agg ys)).run Try.prog w = .ok () w := run_eqGuard_agg w op _ x y xs ys (by kernel_rfl)

/-- In the midst of Place's loop. -/
def PlRel (l : List T3) (x : T3) (W : World) (i : Value) (wr : World) : Prop := ∃ k : Nat, k ≤ l.length ∧ i = .int .i64 (k : Int) ∧ (∀ j, j < k → tN l j ≠ x) ∧ ∃ s, wr = over W s

set_option maxRecDepth 8000 in
set_option maxHeartbeats 2000000 in
theorem at_any (l : List T3) (x : T3) (v : Value) (w : World) (r : Int) (hr : Hid (AtSpec l x r)) (hT : Ts w v l) (hl : (l.length : Int) ≤ 10000000) : Calls Try.prog 18 #[v, wdV x] w (Ret (.int .i64 r) w) := by
  have HT := Lib.hid hT
  obtain ⟨a0, cap, rfl, hc, hcell⟩ := hT
  clear hcell
  go_enter Try.func18, Try.ntmps18
  have hg := gdT3
  go_wp2
  have HX : Hid (Ext w (w.alloc (.cells #[.int .i64 x.a, .int .i64 x.b, .int .i64 x.c] 25))) := Lib.hid (ext_alloc _ (ext_refl w))
  obtain ⟨bx, hbx⟩ : ∃ bx, bx = w.heap.size := ⟨_, rfl⟩
  have HB : Hid ((w.alloc (.cells #[.int .i64 x.a, .int .i64 x.b, .int .i64 x.c] 25)).heap[bx]? = some (.cells #[.int .i64 x.a, .int .i64 x.b, .int .i64 x.c] 25 (0, 0))) := Lib.hid (hp_at _ _ _ hbx)
  rw [← hbx]
  clear hbx
  generalize w.alloc (.cells #[.int .i64 x.a, .int .i64 x.b, .int .i64 x.c] 25) = W at HX HB ⊢
  have x0 := cell_at (o := 0) HB.out rfl
  have x1 := cell_at (o := 1) HB.out rfl
  have x2 := cell_at (o := 2) HB.out rfl
  have xl := hp_lt HB.out
  go_loopw [5] (fun i wr => PlRel l x W i wr) (fun i _ => ((l.length : Int) - intOf i).toNat)
  case atStart => exact ⟨0, Nat.zero_le _, rfl, fun _ h => absurd h (Nat.not_lt_zero _), _, over_self _⟩
  case round =>
    obtain ⟨k, hk, rfl, hno, s, rfl⟩ := hrel
    have HN := Lib.hid hno
    clear hno
    by_cases hlt : k < l.length
    · obtain ⟨b, off, rfl, hb, hcs⟩ := (HT.out.ext HX.out).at (by omega)
      obtain ⟨c0, c1, c2⟩ := hcs k hlt
      clear hcs
      have hq := eqT3 (tN l k) x
      unfold wdV at hq
      by_cases he : tN l k = x
      · have E : Hid ((k : Int) = r) := by
          refine Lib.hid ?_
          rcases hr.out with ⟨i, hi, ei, rfl, hmin⟩ | ⟨_, hnone⟩
          · rcases Nat.lt_trichotomy k i with h | h | h
            · exact absurd he (hmin k h)
            · rw [h]
            · exact absurd ei (HN.out i h)
          · exact absurd he (hnone k hlt)
        rw [decide_eq_true he] at hq
        clear he
        go_wp2
        refine wp_region_over2 (by kernel_rfl) (by kernel_rfl) ?_
        repeat (go_big_quiet_step (fail))
        refine wpQuiet_nil ?_
        intro _ hw'
        obtain ⟨s4, hw''⟩ := hw'
        subst hw''
        go_wp2
        go_ret
        exact Ret.int E.out (ext_over _ HX.out)
      · rw [decide_eq_false he] at hq
        have HE := Lib.hid he
        clear he
        go_wp2
        refine wp_region_over2 (by kernel_rfl) (by kernel_rfl) ?_
        repeat (go_big_quiet_step (fail))
        refine wpQuiet_nil ?_
        intro _ hw'
        obtain ⟨s4, hw''⟩ := hw'
        subst hw''
        go_wp2
        refine ⟨⟨k + 1, by omega, by go_num, fun j hj => ?_, _, rfl⟩, by simp [intOf]; omega⟩
        by_cases e : j = k
        · rw [e]; exact HE.out
        · exact HN.out j (by omega)
    · obtain rfl : k = l.length := by omega
      have E : Hid (-1 = r) := by
        refine Lib.hid ?_
        rcases hr.out with ⟨i, hi, ei, rfl, hmin⟩ | ⟨e, _⟩
        · exact absurd ei (HN.out i hi)
        · exact e.symm
      go_wp2
      go_ret
      exact Ret.int E.out (ext_over _ HX.out)
end Go.Proofs.Ytdbbbefkahmneaa
