/-
  What New, Put, Take, Len and Size of a box of list of accesses come to: contracts over the translation. Conditions: those of each theorem.
-/
import Derived.Test.YthepcnffadjeaaaInboxB
namespace Go.Proofs.Ythepcnffadjeaaa
open Go Go.RowKit Go.Conc

section
variable {p c n : Nat} {q : List Value} {w : World}

theorem bytes_acc : ∃ i, Try.prog.info? 40 = some i ∧ i.bytes = 24 := by
  have h : (Try.prog.info? 40).map (·.bytes) = some 24 := by kernel_rfl
  obtain ⟨i, hi, hb⟩ := Option.map_eq_some_iff.1 h
  exact ⟨i, hi, hb⟩
theorem mk_acc (w : World) (n : Nat) (hn : n ≤ 4096) : (Instr.makeChan 102 (.int .i64 (n : Int))).run Try.prog w = .ok (.chan (some w.heap.size)) (w.alloc (.chan n #[] false 0 0 false)) := by
  obtain ⟨i, hi, hb⟩ := bytes_acc
  exact run_makeChan (P := Try.prog) (w := w) Try.underlying102 hi .i64 n (by omega) (by rw [hb]; omega)

set_option maxRecDepth 100000 in
theorem put_acc_room (h : BoxAt p c n q w) (hq : q.length < n) (v : Value) :
    Calls Try.prog 31 #[.pointer (some ⟨p, 0, none⟩), v] w (RetQ p c n (q ++ [v]) (.int .i64 0) w) := by
  obtain ⟨s, r, hc⟩ := h.chan
  have hcell := h.cell
  refine calls_of_loneTo (fun cs => ?_) (fun w' hR => by cases hR.e)
  have e : Frame.enter Try.prog 31 #[.pointer (some ⟨p, 0, none⟩), v] .normal = (base 31).at ⟨#[.pointer (some ⟨p, 0, none⟩), v, undef, undef, undef, undef, undef, undef, undef, undef, undef, undef, undef], []⟩ [.code (Try.f31.body.getD .skip)] := by
    simp [Frame.enter, Frame.at, Try.func31, base, Try.f31]
  rw [e]
  refine LoneTo.goes (n := 19) ?_
  simp only [Try.f31, Option.getD_some]
  s_c stepG_seq
  s_reg
  s_op
  s_c stepG_region_end
  s_c stepG_seq
  s_c stepG_seq
  s_reg
  s_op
  s_op
  s_op
  s_op
  s_c stepG_region_end
  s_reg
  s_op
  s_c stepG_region_end
  s_c stepG_seq
  s_reg
  s_stop
  refine LoneTo.step (step_lone_select_send_room (c := c) (cap := n) (buf := q.toArray) (s := s) (r := r) (tm := false) (stepG_comm (cases := #[scase c v (.slice none 0 0)]) (blocking := false) (shape := .select) (w' := w) rfl rfl (by decide) (by simp [go_sem, execOp, scase, Act.eval])) hc (by simpa using hq)) ?_
  rw [Frame.finish_at]
  walk_nrm
  refine LoneTo.goes (n := 10) ?_
  s_op
  s_op
  s_c stepG_region_end
  s_c stepG_block
  s_cond true
  s_c stepG_seq
  s_reg
  s_op
  s_c stepG_region_end
  s_c stepG_ret'
  s_stop
  refine LoneTo.done ⟨.returned (.int .i64 0), _, rfl, ⟨rfl, h.set (q ++ [v]) (s + 1) r, fr_setChan w c n _ (s + 1) r, size_setChan _ _ _ _ _ _ _ _⟩, rfl, rfl, rfl, rfl, _, Try.func31, by simp [results, Try.f31, Frame.at]⟩

set_option maxRecDepth 100000 in
theorem put_acc_full (h : BoxAt p c n q w) (hq : n ≤ q.length) (v : Value) :
    Calls Try.prog 31 #[.pointer (some ⟨p, 0, none⟩), v] w (fun e w' => e = .returned (.int .i64 8) ∧ w = w') := by
  obtain ⟨s, r, hc⟩ := h.chan
  have hcell := h.cell
  refine calls_of_loneTo (fun cs => ?_) (fun w' hR => by cases hR.1)
  have e : Frame.enter Try.prog 31 #[.pointer (some ⟨p, 0, none⟩), v] .normal = (base 31).at ⟨#[.pointer (some ⟨p, 0, none⟩), v, undef, undef, undef, undef, undef, undef, undef, undef, undef, undef, undef], []⟩ [.code (Try.f31.body.getD .skip)] := by
    simp [Frame.enter, Frame.at, Try.func31, base, Try.f31]
  rw [e]
  refine LoneTo.goes (n := 19) ?_
  simp only [Try.f31, Option.getD_some]
  s_c stepG_seq
  s_reg
  s_op
  s_c stepG_region_end
  s_c stepG_seq
  s_c stepG_seq
  s_reg
  s_op
  s_op
  s_op
  s_op
  s_c stepG_region_end
  s_reg
  s_op
  s_c stepG_region_end
  s_c stepG_seq
  s_reg
  s_stop
  refine LoneTo.step (step_lone_select_send_full (c := c) (cap := n) (buf := q.toArray) (s := s) (r := r) (tm := false) (stepG_comm (cases := #[scase c v (.slice none 0 0)]) (blocking := false) (shape := .select) (w' := w) rfl rfl (by decide) (by simp [go_sem, execOp, scase, Act.eval])) hc (by simpa using hq)) ?_
  rw [Frame.finish_at]
  walk_nrm
  refine LoneTo.goes (n := 10) ?_
  s_op
  s_op
  s_c stepG_region_end
  s_c stepG_block
  s_cond false
  s_c stepG_seq
  s_reg
  s_op
  s_c stepG_region_end
  s_c stepG_ret'
  s_stop
  refine LoneTo.done ⟨.returned (.int .i64 8), _, rfl, ⟨rfl, rfl⟩, rfl, rfl, rfl, rfl, _, Try.func31, by simp [results, Try.f31, Frame.at]⟩

set_option maxRecDepth 100000 in
theorem take_acc_some (v : Value) (h : BoxAt p c n (v :: q) w) :
    Calls Try.prog 44 #[.pointer (some ⟨p, 0, none⟩)] w (RetQ p c n q (.tuple #[v, .bool true]) w) := by
  obtain ⟨s, r, hc⟩ := h.chan
  have hcell := h.cell
  refine calls_of_loneTo (fun cs => ?_) (fun w' hR => by cases hR.e)
  have e : Frame.enter Try.prog 44 #[.pointer (some ⟨p, 0, none⟩)] .normal = (base 44).at ⟨#[.pointer (some ⟨p, 0, none⟩), undef, undef, undef, undef, undef, undef, undef, undef, undef, undef, undef, undef, undef, undef, undef], []⟩ [.code (Try.f44.body.getD .skip)] := by
    simp [Frame.enter, Frame.at, Try.func44, base, Try.f44]
  rw [e]
  refine LoneTo.goes (n := 19) ?_
  simp only [Try.f44, Option.getD_some]
  s_c stepG_seq
  s_reg
  s_op
  s_op
  s_c stepG_region_end
  s_c stepG_seq
  s_reg
  s_op
  s_op
  s_op
  s_op
  s_c stepG_region_end
  s_c stepG_seq
  s_reg
  s_stop
  refine LoneTo.step (step_lone_select_recv_buf (c := c) (cap := n) (buf := (v :: q).toArray) (closed := false) (s := s) (r := r) (tm := false) (stepG_comm (cases := #[rcase c (.slice none 0 0)]) (blocking := false) (shape := .select) (w' := w) rfl rfl (by decide) (by simp [go_sem, execOp, rcase, Act.eval])) hc (by simp)) ?_
  rw [Frame.finish_at]
  walk_nrm
  simp only [List.extract_toArray, List.extract_eq_take_drop, List.drop_succ_cons, List.drop_zero, Nat.add_sub_cancel, List.take_length]
  refine LoneTo.goes (n := 20) ?_
  s_op
  s_op
  s_c stepG_region_end
  s_c stepG_block
  s_cond true
  s_c stepG_seq
  s_reg
  s_op
  s_op
  s_c stepG_region_end
  s_c stepG_seq
  s_reg
  s_op
  s_op
  s_op
  s_c stepG_region_end
  s_c stepG_ret'
  s_stop
  refine LoneTo.done ⟨.returned (.tuple #[v, .bool true]), _, rfl, ⟨rfl, h.set q s (r + 1), fr_setChan w c n _ s (r + 1), size_setChan _ _ _ _ _ _ _ _⟩, rfl, rfl, rfl, rfl, _, Try.func44, by simp [results, Try.f44, Frame.at]⟩

set_option maxRecDepth 100000 in
theorem take_acc_none (h : BoxAt p c n [] w) :
    Calls Try.prog 44 #[.pointer (some ⟨p, 0, none⟩)] w (fun e w' => e = .returned (.tuple #[.slice none 0 0, .bool false]) ∧ w = w') := by
  obtain ⟨s, r, hc⟩ := h.chan
  have hcell := h.cell
  refine calls_of_loneTo (fun cs => ?_) (fun w' hR => by cases hR.1)
  have e : Frame.enter Try.prog 44 #[.pointer (some ⟨p, 0, none⟩)] .normal = (base 44).at ⟨#[.pointer (some ⟨p, 0, none⟩), undef, undef, undef, undef, undef, undef, undef, undef, undef, undef, undef, undef, undef, undef, undef], []⟩ [.code (Try.f44.body.getD .skip)] := by
    simp [Frame.enter, Frame.at, Try.func44, base, Try.f44]
  rw [e]
  refine LoneTo.goes (n := 19) ?_
  simp only [Try.f44, Option.getD_some]
  s_c stepG_seq
  s_reg
  s_op
  s_op
  s_c stepG_region_end
  s_c stepG_seq
  s_reg
  s_op
  s_op
  s_op
  s_op
  s_c stepG_region_end
  s_c stepG_seq
  s_reg
  s_stop
  refine LoneTo.step (step_lone_select_default (c := c) (cap := n) (s := s) (r := r) (tm := false) (stepG_comm (cases := #[rcase c (.slice none 0 0)]) (blocking := false) (shape := .select) (w' := w) rfl rfl (by decide) (by simp [go_sem, execOp, rcase, Act.eval])) hc) ?_
  rw [Frame.finish_at]
  walk_nrm
  refine LoneTo.goes (n := 20) ?_
  s_op
  s_op
  s_c stepG_region_end
  s_c stepG_block
  s_cond false
  s_c stepG_seq
  s_reg
  s_op
  s_c stepG_region_end
  s_c stepG_seq
  s_reg
  s_op
  s_op
  s_op
  s_c stepG_region_end
  s_c stepG_ret'
  s_stop
  refine LoneTo.done ⟨.returned (.tuple #[.slice none 0 0, .bool false]), _, rfl, ⟨rfl, rfl⟩, rfl, rfl, rfl, rfl, _, Try.func44, by simp [results, Try.f44, Frame.at]⟩

set_option maxHeartbeats 400000 in
theorem new_acc_yes (n : Nat) (h1 : 1 ≤ n) (h2 : n ≤ 4096) : Calls Try.prog 41 #[.int .i64 (n : Int)] w (RetB n w) := by
  have hmk := fun w => mk_acc w n h2
  go_enter Try.func41, Try.ntmps41
  go_wp2
  go_ret2
  exact RetB.mk' n w _

set_option maxHeartbeats 400000 in
theorem new_acc_no (n : Int) (h : n < 1 ∨ 4096 < n) : Calls Try.prog 41 #[.int .i64 n] w fun e w' => e = .returned (.tuple #[.pointer none, .int .i64 1]) ∧ w = w' := by
  rcases h with h | h
  · go_enter Try.func41, Try.ntmps41
    go_wp2
    go_ret2
    exact ⟨rfl, rfl⟩
  · go_enter Try.func41, Try.ntmps41
    go_wp2
    go_ret2
    exact ⟨rfl, rfl⟩

theorem len_acc (h : BoxAt p c n q w) : Calls Try.prog 39 #[.pointer (some ⟨p, 0, none⟩)] w fun e w' => e = .returned (.int .i64 (q.length : Int)) ∧ w = w' := by
  obtain ⟨s, r, hc⟩ := h.chan
  have hcell := h.cell
  have hl := fun ty => run_len_chan (P := Try.prog) 102 ty Try.underlying102 hc
  simp only [List.size_toArray] at hl
  clear hc h
  go_enter Try.func39, Try.ntmps39
  go_wp2
  go_ret
  exact ⟨rfl, rfl⟩

end
end Go.Proofs.Ythepcnffadjeaaa
