/-
  What the call of Of comes to. Conditions: those of each theorem.
-/
import Derived.Test.YtniejbncahmcoaaHandleFn
namespace Go.Proofs.Ytniejbncahmcoaa
open Go Go.RowKit

theorem hof_split_yes (x : BitVec 64) (h : U x / 72057594037927936 % 4 = 0) : SplitSpec hnL x [getN 0 20 x, getN 20 30 x, getN 50 6 x, getN 58 6 x] 0 := ⟨fun hn => absurd hnL_lay hn, fun _ hn => absurd ((hn_out x).2 h) hn, fun _ _ => ⟨(hn_split x).symm, rfl⟩⟩
theorem hof_split_no (x : BitVec 64) (h : ¬ U x / 72057594037927936 % 4 = 0) : SplitSpec hnL x [] 10 := ⟨fun hn => absurd hnL_lay hn, fun _ _ => ⟨rfl, rfl⟩, fun _ hz => absurd ((hn_out x).1 hz) h⟩
theorem hof_cells {x : BitVec 64} {X : World} {v : Value} (h : Us X v [getN 0 20 x, getN 20 30 x, getN 50 6 x, getN 58 6 x]) : ∃ b off cap, v = .slice (some ⟨b, off, none⟩) 4 cap ∧ b < X.heap.size ∧ X.cell? ⟨b, off, none⟩ = some (.int .u64 (hnN x).i) ∧ X.cell? ⟨b, off + 1, none⟩ = some (.int .u64 (hnN x).g) ∧
    X.cell? ⟨b, off + 2, none⟩ = some (.int .u64 (hnN x).t) ∧ X.cell? ⟨b, off + 3, none⟩ = some (.int .u64 (U x / 288230376151711744 % 64)) := by
  obtain ⟨a0, cap, rfl, hc, hr⟩ := h
  obtain ⟨b, off, rfl, hb, hcell⟩ := hr (Nat.succ_pos _)
  refine ⟨b, off, cap, rfl, hb, ?_, ?_, ?_, ?_⟩
  · have e : X.cell? ⟨b, off, none⟩ = some (.int .u64 (U (getN 0 20 x))) := hcell 0 (Nat.succ_pos _)
    rw [e, hU_get0]; rfl
  · have e : X.cell? ⟨b, off + 1, none⟩ = some (.int .u64 (U (getN 20 30 x))) := hcell 1 (by simp)
    rw [e, hU_get1]; rfl
  · have e : X.cell? ⟨b, off + 2, none⟩ = some (.int .u64 (U (getN 50 6 x))) := hcell 2 (by simp)
    rw [e, hU_get2]; rfl
  · have e : X.cell? ⟨b, off + 3, none⟩ = some (.int .u64 (U (getN 58 6 x))) := hcell 3 (by simp)
    rw [e, hU_get3]

set_option maxRecDepth 8000 in
set_option maxHeartbeats 1000000 in
theorem hof_none (x : BitVec 64) (h : ¬ U x / 72057594037927936 % 4 = 0) (w : World) : Calls Try.prog 8 #[.int .u64 (U x)] w (Ret (.tuple #[hnV ⟨0, 0, 0⟩, .bool false]) w) := by
  have HS := Lib.hid (hof_split_no x h)
  clear h
  go_enter Try.func8, Try.ntmps8
  go_wp2_with (first | (go_at_call 17; refine (hlayout_any _).mono ?_; rintro e w' hr; obtain ⟨sf, rfl, s1, rfl, HF⟩ := hr.over; clear hr) | (go_at_call 16; refine Hid.out ?_))
  refine Lib.hid ?_
  refine (split_any hnL _ x _ _ _ HS (by decide) HF.out).mono ?_
  rintro e w' hr
  obtain ⟨sv, rfl, s2, rfl, HU⟩ := hr.over
  clear hr HF
  have HX := Lib.hid (ext_over s2 (ext_over s1 (ext_alloc (.cells #[.int .i64 0, .int .i64 0, .int .i64 0] 23) (ext_refl w))))
  have HR : Hid (Made w w.heap.size #[.int .i64 0, .int .i64 0, .int .i64 0] 23 (over (over (w.alloc (.cells #[.int .i64 0, .int .i64 0, .int .i64 0] 23)) s1) s2)) := Lib.hid (((Made.mk #[.int .i64 0, .int .i64 0, .int .i64 0] 23 (ext_refl w)).over s1).over s2)
  generalize over (over (w.alloc (.cells #[.int .i64 0, .int .i64 0, .int .i64 0] 23)) s1) s2 = X at HX HR HU ⊢
  generalize hbR : w.heap.size = bR at HR ⊢
  have lR := hp_lt HR.out.1
  have fR : ∀ o, X.frozen? ⟨bR, o, none⟩ = false := fun _ => free_at HR.out.1
  have r0 := cell_at (o := 0) HR.out.1 rfl
  have r1 := cell_at (o := 1) HR.out.1 rfl
  have r2 := cell_at (o := 2) HR.out.1 rfl
  clear HU
  go_wp2
  have HE9 := Lib.hid (ext_set (p := ⟨bR, 2, none⟩) (.int .i64 0) HR.out.2 (ext_set (p := ⟨bR, 1, none⟩) (.int .i64 0) HR.out.2 (ext_set (p := ⟨bR, 0, none⟩) (.int .i64 0) HR.out.2 HX.out)))
  have HR9 : Hid (Made w bR #[.int .i64 0, .int .i64 0, .int .i64 0] 23 (((X.setCell ⟨bR, 0, none⟩ (.int .i64 0)).setCell ⟨bR, 1, none⟩ (.int .i64 0)).setCell ⟨bR, 2, none⟩ (.int .i64 0))) := Lib.hid (((HR.out.set 0 (.int .i64 0)).set 1 (.int .i64 0)).set 2 (.int .i64 0))
  generalize (((X.setCell ⟨bR, 0, none⟩ (.int .i64 0)).setCell ⟨bR, 1, none⟩ (.int .i64 0)).setCell ⟨bR, 2, none⟩ (.int .i64 0)) = Z9 at HE9 HR9 ⊢
  have z0 := cell_at (o := 0) HR9.out.1 rfl
  have z1 := cell_at (o := 1) HR9.out.1 rfl
  have z2 := cell_at (o := 2) HR9.out.1 rfl
  simp only [List.getElem_toArray, List.getElem_cons_zero, List.getElem_cons_succ] at z0 z1 z2
  exact bodyPost_ret (v := .tuple #[hnV ⟨0, 0, 0⟩, .bool false]) (by simp [results, Try.results8, go_sem, z0, z1, z2]) rfl (Ret.mk HE9.out)

set_option maxRecDepth 8000 in
set_option maxHeartbeats 1000000 in
theorem hof_odd (x : BitVec 64) (z : Int) (hz : Hid (U x / 288230376151711744 % 64 = z)) (h : U x / 72057594037927936 % 4 = 0) (HO : (z != 42) = true) (w : World) : Calls Try.prog 8 #[.int .u64 (U x)] w (Ret (.tuple #[hnV ⟨0, 0, 0⟩, .bool false]) w) := by
  have HS := Lib.hid (hof_split_yes x h)
  clear h
  go_enter Try.func8, Try.ntmps8
  go_wp2_with (first | (go_at_call 17; refine (hlayout_any _).mono ?_; rintro e w' hr; obtain ⟨sf, rfl, s1, rfl, HF⟩ := hr.over; clear hr) | (go_at_call 16; refine Hid.out ?_))
  refine Lib.hid ?_
  refine (split_any hnL _ x _ _ _ HS (by decide) HF.out).mono ?_
  rintro e w' hr
  obtain ⟨sv, rfl, s2, rfl, HU⟩ := hr.over
  clear hr HF
  have HX := Lib.hid (ext_over s2 (ext_over s1 (ext_alloc (.cells #[.int .i64 0, .int .i64 0, .int .i64 0] 23) (ext_refl w))))
  have HR : Hid (Made w w.heap.size #[.int .i64 0, .int .i64 0, .int .i64 0] 23 (over (over (w.alloc (.cells #[.int .i64 0, .int .i64 0, .int .i64 0] 23)) s1) s2)) := Lib.hid (((Made.mk #[.int .i64 0, .int .i64 0, .int .i64 0] 23 (ext_refl w)).over s1).over s2)
  generalize over (over (w.alloc (.cells #[.int .i64 0, .int .i64 0, .int .i64 0] 23)) s1) s2 = X at HX HR HU ⊢
  generalize hbR : w.heap.size = bR at HR ⊢
  have lR := hp_lt HR.out.1
  have fR : ∀ o, X.frozen? ⟨bR, o, none⟩ = false := fun _ => free_at HR.out.1
  have r0 := cell_at (o := 0) HR.out.1 rfl
  have r1 := cell_at (o := 1) HR.out.1 rfl
  have r2 := cell_at (o := 2) HR.out.1 rfl
  obtain ⟨b, off, cap, rfl, hb, c0, c1, c2, c3⟩ := hof_cells HU.out
  clear HU
  rw [hz.out] at c3
  clear hz
  clear c0 c1 c2
  go_wp2
  have HE9 := Lib.hid (ext_set (p := ⟨bR, 2, none⟩) (.int .i64 0) HR.out.2 (ext_set (p := ⟨bR, 1, none⟩) (.int .i64 0) HR.out.2 (ext_set (p := ⟨bR, 0, none⟩) (.int .i64 0) HR.out.2 HX.out)))
  have HR9 : Hid (Made w bR #[.int .i64 0, .int .i64 0, .int .i64 0] 23 (((X.setCell ⟨bR, 0, none⟩ (.int .i64 0)).setCell ⟨bR, 1, none⟩ (.int .i64 0)).setCell ⟨bR, 2, none⟩ (.int .i64 0))) := Lib.hid (((HR.out.set 0 (.int .i64 0)).set 1 (.int .i64 0)).set 2 (.int .i64 0))
  generalize (((X.setCell ⟨bR, 0, none⟩ (.int .i64 0)).setCell ⟨bR, 1, none⟩ (.int .i64 0)).setCell ⟨bR, 2, none⟩ (.int .i64 0)) = Z9 at HE9 HR9 ⊢
  have z0 := cell_at (o := 0) HR9.out.1 rfl
  have z1 := cell_at (o := 1) HR9.out.1 rfl
  have z2 := cell_at (o := 2) HR9.out.1 rfl
  simp only [List.getElem_toArray, List.getElem_cons_zero, List.getElem_cons_succ] at z0 z1 z2
  exact bodyPost_ret (v := .tuple #[hnV ⟨0, 0, 0⟩, .bool false]) (by simp [results, Try.results8, go_sem, z0, z1, z2]) rfl (Ret.mk HE9.out)

set_option maxRecDepth 8000 in
set_option maxHeartbeats 1000000 in
theorem hof_yes (x : BitVec 64) (s : Hn) (hs : Hid (s = hnN x)) (hk : Hid s.ok) (hz : Hid (U x / 288230376151711744 % 64 = 42)) (h : U x / 72057594037927936 % 4 = 0) (w : World) : Calls Try.prog 8 #[.int .u64 (U x)] w (Ret (.tuple #[hnV s, .bool true]) w) := by
  have HS := Lib.hid (hof_split_yes x h)
  clear h
  go_enter Try.func8, Try.ntmps8
  go_wp2_with (first | (go_at_call 17; refine (hlayout_any _).mono ?_; rintro e w' hr; obtain ⟨sf, rfl, s1, rfl, HF⟩ := hr.over; clear hr) | (go_at_call 16; refine Hid.out ?_))
  refine Lib.hid ?_
  refine (split_any hnL _ x _ _ _ HS (by decide) HF.out).mono ?_
  rintro e w' hr
  obtain ⟨sv, rfl, s2, rfl, HU⟩ := hr.over
  clear hr HF
  have HX := Lib.hid (ext_over s2 (ext_over s1 (ext_alloc (.cells #[.int .i64 0, .int .i64 0, .int .i64 0] 23) (ext_refl w))))
  have HR : Hid (Made w w.heap.size #[.int .i64 0, .int .i64 0, .int .i64 0] 23 (over (over (w.alloc (.cells #[.int .i64 0, .int .i64 0, .int .i64 0] 23)) s1) s2)) := Lib.hid (((Made.mk #[.int .i64 0, .int .i64 0, .int .i64 0] 23 (ext_refl w)).over s1).over s2)
  generalize over (over (w.alloc (.cells #[.int .i64 0, .int .i64 0, .int .i64 0] 23)) s1) s2 = X at HX HR HU ⊢
  generalize hbR : w.heap.size = bR at HR ⊢
  have lR := hp_lt HR.out.1
  have fR : ∀ o, X.frozen? ⟨bR, o, none⟩ = false := fun _ => free_at HR.out.1
  have r0 := cell_at (o := 0) HR.out.1 rfl
  have r1 := cell_at (o := 1) HR.out.1 rfl
  have r2 := cell_at (o := 2) HR.out.1 rfl
  obtain ⟨b, off, cap, rfl, hb, c0, c1, c2, c3⟩ := hof_cells HU.out
  clear HU
  rw [hz.out] at c3
  clear hz
  rw [← hs.out] at c0 c1 c2
  clear hs
  have ⟨b1, b2, b3, b4, b5, b6⟩ := hk.out
  go_wp2
  refine wp_region_mix (fun y => ∃ s, y = over X s) [(0, [0, 1, 2, 3, 4, 5, 6, 7, 8, 9, 10, 11, 12]), (2, [13]), (2, [14])] (by kernel_rfl) (by kernel_rfl) (over_of (ext_drew (ext_refl X))) ?_
  simp only [pieces, pickL, List.map_cons, List.map_nil, List.getD_cons_zero, List.getD_cons_succ]
  refine mix_reads ?_
  repeat (go_big_quiet_step (fail))
  refine wpQuiet_nil (mix_late ?_)
  have HX1 := Lib.hid (ext_drew HX.out)
  have HR1 := Lib.hid (HR.out.ext (ext_drew (ext_refl X)))
  have lX := ext_drew (ext_refl X)
  clear r0 r1 r2 fR lR c0 c1 c2 c3 hb
  generalize X.drew = X1 at HX1 HR1 ⊢
  clear lX
  have lR := hp_lt HR1.out.1
  have fR : ∀ o, X1.frozen? ⟨bR, o, none⟩ = false := fun _ => free_at HR1.out.1
  have r0 := cell_at (o := 0) HR1.out.1 rfl
  have r1 := cell_at (o := 1) HR1.out.1 rfl
  have r2 := cell_at (o := 2) HR1.out.1 rfl
  go_wp2
  refine lateQ_mk (fun _ => True) trivial (mix_late ?_)
  go_wp2
  refine lateQ_mk (fun _ => True) trivial (mix_end ?_)
  go_wp2
  have HE9 := Lib.hid (ext_set (p := ⟨bR, 2, none⟩) (.int .i64 s.t) HR.out.2 (ext_set (p := ⟨bR, 1, none⟩) (.int .i64 s.g) HR.out.2 (ext_set (p := ⟨bR, 0, none⟩) (.int .i64 s.i) HR.out.2 HX1.out)))
  have HR9 : Hid (Made w bR #[.int .i64 s.i, .int .i64 s.g, .int .i64 s.t] 23 (((X1.setCell ⟨bR, 0, none⟩ (.int .i64 s.i)).setCell ⟨bR, 1, none⟩ (.int .i64 s.g)).setCell ⟨bR, 2, none⟩ (.int .i64 s.t))) := Lib.hid (((HR1.out.set 0 (.int .i64 s.i)).set 1 (.int .i64 s.g)).set 2 (.int .i64 s.t))
  generalize (((X1.setCell ⟨bR, 0, none⟩ (.int .i64 s.i)).setCell ⟨bR, 1, none⟩ (.int .i64 s.g)).setCell ⟨bR, 2, none⟩ (.int .i64 s.t)) = Z9 at HE9 HR9 ⊢
  have z0 := cell_at (o := 0) HR9.out.1 rfl
  have z1 := cell_at (o := 1) HR9.out.1 rfl
  have z2 := cell_at (o := 2) HR9.out.1 rfl
  simp only [List.getElem_toArray, List.getElem_cons_zero, List.getElem_cons_succ] at z0 z1 z2
  exact bodyPost_ret (v := .tuple #[hnV s, .bool true]) (by simp [results, Try.results8, go_sem, z0, z1, z2]) rfl (Ret.mk HE9.out)

theorem hof_any (x : BitVec 64) (w : World) : Calls Try.prog 8 #[.int .u64 (U x)] w (Ret (.tuple #[hnV (ofH x), .bool (decide (isH x))]) w) := by
  by_cases h : isH x
  · rw [ofH_yes x h, decide_eq_true h]
    have h2 := (isH_parts x).1 h
    exact hof_yes x _ (Lib.hid rfl) (Lib.hid (hnN_ok x)) (Lib.hid h2.2) h2.1 w
  · rw [ofH_no x h, decide_eq_false h]
    by_cases c : U x / 72057594037927936 % 4 = 0
    · exact hof_odd x _ (Lib.hid rfl) c (bne_iff_ne.2 fun e => h ((isH_parts x).2 ⟨c, e⟩)) w
    · exact hof_none x c w

end Go.Proofs.Ytniejbncahmcoaa
