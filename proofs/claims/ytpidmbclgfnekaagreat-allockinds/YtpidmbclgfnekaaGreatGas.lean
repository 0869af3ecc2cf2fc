/-
  What the call of Of comes to. Conditions: those of each theorem.
-/
import Derived.Test.YtpidmbclgfnekaaGreatGar
namespace Go.Proofs.YtpidmbclgfnekaaGreat
open Go Go.RowKit

theorem of_split_yes (x : BitVec 64) (h : U x < 17179869184) : SplitSpec stL x [getN 0 30 x, getN 30 2 x, getN 32 2 x] 0 := ⟨fun hn => absurd stL_lay hn, fun _ hn => absurd ((st_out x).2 h) hn, fun _ _ => ⟨(st_split x).symm, rfl⟩⟩
theorem of_split_no (x : BitVec 64) (h : ¬ U x < 17179869184) : SplitSpec stL x [] 10 := ⟨fun hn => absurd stL_lay hn, fun _ _ => ⟨rfl, rfl⟩, fun _ hz => absurd ((st_out x).1 hz) h⟩
theorem ofS_no (x : BitVec 64) (h : ¬ isW x) : ofS x = ⟨0, 0, 0⟩ := by unfold ofS; rw [if_neg h]
theorem ofS_yes (x : BitVec 64) (h : isW x) : ofS x = stN x := by unfold ofS; rw [if_pos h]
theorem stN_in (x : BitVec 64) : 0 ≤ (stN x).g ∧ (stN x).g ≤ 1073741823 ∧ 0 ≤ (stN x).m ∧ (stN x).m ≤ 3 ∧ 0 ≤ (stN x).k ∧ (stN x).k ≤ 3 := by
  unfold stN
  dsimp only
  omega
theorem of_cells {x : BitVec 64} {X : World} {v : Value} (h : Us X v [getN 0 30 x, getN 30 2 x, getN 32 2 x]) : ∃ b off cap, v = .slice (some ⟨b, off, none⟩) 3 cap ∧ b < X.heap.size ∧ X.cell? ⟨b, off, none⟩ = some (.int .u64 (stN x).g) ∧ X.cell? ⟨b, off + 1, none⟩ = some (.int .u64 (stN x).m) ∧
    X.cell? ⟨b, off + 2, none⟩ = some (.int .u64 (stN x).k) := by
  obtain ⟨a0, cap, rfl, hc, hr⟩ := h
  obtain ⟨b, off, rfl, hb, hcell⟩ := hr (Nat.succ_pos _)
  refine ⟨b, off, cap, rfl, hb, ?_, ?_, ?_⟩
  · have e : X.cell? ⟨b, off, none⟩ = some (.int .u64 (U (getN 0 30 x))) := hcell 0 (Nat.succ_pos _)
    rw [e, U_get0]; rfl
  · have e : X.cell? ⟨b, off + 1, none⟩ = some (.int .u64 (U (getN 30 2 x))) := hcell 1 (by simp)
    rw [e, U_get1]; rfl
  · have e : X.cell? ⟨b, off + 2, none⟩ = some (.int .u64 (U (getN 32 2 x))) := hcell 2 (by simp)
    rw [e, U_get2]; rfl

set_option maxRecDepth 8000 in
set_option maxHeartbeats 1000000 in
theorem of_none (x : BitVec 64) (h : ¬ U x < 17179869184) (w : World) : Calls Tryz.prog 78 #[.int .u64 (U x)] w (Ret (.tuple #[stV ⟨0, 0, 0⟩, .bool false]) w) := by
  have HS := Lib.hid (of_split_no x h)
  clear h
  go_enter Tryz.func78, Tryz.ntmps78
  go_wp2_with (first | (go_at_call 58; refine (slayout_any _).mono ?_; rintro e w' hr; obtain ⟨rfl, s0, rfl⟩ := hr.over; clear hr) | (go_at_call 126; refine Hid.out ?_))
  rename_i K2 hK2 K hK
  refine Lib.hid ?_
  refine (split_any stL _ x _ _ _ HS (by decide) (made_fs (Made.mk fC 127 (ext_refl _)))).mono ?_
  rintro e w' hr
  obtain ⟨sv, rfl, s2, rfl, HU⟩ := hr.over
  clear hr
  have HX := Lib.hid (ext_over s2 (ext_alloc (.cells fC 127) (ext_over s0 (ext_alloc (.cells #[.int .i64 0, .int .i64 0, .int .i64 0] 56) (ext_refl w)))))
  have HR : Hid (Made w w.heap.size #[.int .i64 0, .int .i64 0, .int .i64 0] 56 (over ((over (w.alloc (.cells #[.int .i64 0, .int .i64 0, .int .i64 0] 56)) s0).alloc (.cells fC 127)) s2)) := Lib.hid ((((Made.mk #[.int .i64 0, .int .i64 0, .int .i64 0] 56 (ext_refl w)).over s0).alloc _).over s2)
  generalize over ((over (w.alloc (.cells #[.int .i64 0, .int .i64 0, .int .i64 0] 56)) s0).alloc (.cells fC 127)) s2 = X at HX HR HU ⊢
  generalize (over (w.alloc (.cells #[.int .i64 0, .int .i64 0, .int .i64 0] 56)) s0).heap.size = bf
  generalize hbR : w.heap.size = bR at HR ⊢
  have lR := hp_lt HR.out.1
  have fR : ∀ o, X.frozen? ⟨bR, o, none⟩ = false := fun _ => free_at HR.out.1
  have r0 := cell_at (o := 0) HR.out.1 rfl
  have r1 := cell_at (o := 1) HR.out.1 rfl
  have r2 := cell_at (o := 2) HR.out.1 rfl
  clear HU
  go_wp2
  have HE9 := Lib.hid (ext_set (p := ⟨bR, 2, none⟩) (.int .i64 0) HR.out.2 (ext_set (p := ⟨bR, 1, none⟩) (.int .i64 0) HR.out.2 (ext_set (p := ⟨bR, 0, none⟩) (.int .i64 0) HR.out.2 HX.out)))
  have HR9 : Hid (Made w bR #[.int .i64 0, .int .i64 0, .int .i64 0] 56 (((X.setCell ⟨bR, 0, none⟩ (.int .i64 0)).setCell ⟨bR, 1, none⟩ (.int .i64 0)).setCell ⟨bR, 2, none⟩ (.int .i64 0))) := Lib.hid (((HR.out.set 0 (.int .i64 0)).set 1 (.int .i64 0)).set 2 (.int .i64 0))
  generalize (((X.setCell ⟨bR, 0, none⟩ (.int .i64 0)).setCell ⟨bR, 1, none⟩ (.int .i64 0)).setCell ⟨bR, 2, none⟩ (.int .i64 0)) = Z9 at HE9 HR9 ⊢
  have z0 := cell_at (o := 0) HR9.out.1 rfl
  have z1 := cell_at (o := 1) HR9.out.1 rfl
  have z2 := cell_at (o := 2) HR9.out.1 rfl
  simp only [List.getElem_toArray, List.getElem_cons_zero, List.getElem_cons_succ] at z0 z1 z2
  exact bodyPost_ret (v := .tuple #[stV ⟨0, 0, 0⟩, .bool false]) (by simp [results, Tryz.results78, go_sem, z0, z1, z2]) rfl (Ret.mk HE9.out)

set_option maxRecDepth 8000 in
set_option maxHeartbeats 1000000 in
theorem of_yes (x : BitVec 64) (s : St) (hs : Hid (s = stN x)) (h : U x < 17179869184) (HO : Hid s.ok) (w : World) : Calls Tryz.prog 78 #[.int .u64 (U x)] w (Ret (.tuple #[stV s, .bool true]) w) := by
  have HS := Lib.hid (of_split_yes x h)
  clear h
  go_enter Tryz.func78, Tryz.ntmps78
  go_wp2_with (first | (go_at_call 58; refine (slayout_any _).mono ?_; rintro e w' hr; obtain ⟨rfl, s0, rfl⟩ := hr.over; clear hr) | (go_at_call 126; refine Hid.out ?_))
  rename_i K2 hK2 K hK
  refine Lib.hid ?_
  refine (split_any stL _ x _ _ _ HS (by decide) (made_fs (Made.mk fC 127 (ext_refl _)))).mono ?_
  rintro e w' hr
  obtain ⟨sv, rfl, s2, rfl, HU⟩ := hr.over
  clear hr
  have HX := Lib.hid (ext_over s2 (ext_alloc (.cells fC 127) (ext_over s0 (ext_alloc (.cells #[.int .i64 0, .int .i64 0, .int .i64 0] 56) (ext_refl w)))))
  have HR : Hid (Made w w.heap.size #[.int .i64 0, .int .i64 0, .int .i64 0] 56 (over ((over (w.alloc (.cells #[.int .i64 0, .int .i64 0, .int .i64 0] 56)) s0).alloc (.cells fC 127)) s2)) := Lib.hid ((((Made.mk #[.int .i64 0, .int .i64 0, .int .i64 0] 56 (ext_refl w)).over s0).alloc _).over s2)
  generalize over ((over (w.alloc (.cells #[.int .i64 0, .int .i64 0, .int .i64 0] 56)) s0).alloc (.cells fC 127)) s2 = X at HX HR HU ⊢
  generalize (over (w.alloc (.cells #[.int .i64 0, .int .i64 0, .int .i64 0] 56)) s0).heap.size = bf
  generalize hbR : w.heap.size = bR at HR ⊢
  have lR := hp_lt HR.out.1
  have fR : ∀ o, X.frozen? ⟨bR, o, none⟩ = false := fun _ => free_at HR.out.1
  have r0 := cell_at (o := 0) HR.out.1 rfl
  have r1 := cell_at (o := 1) HR.out.1 rfl
  have r2 := cell_at (o := 2) HR.out.1 rfl
  obtain ⟨b, off, cap, rfl, hb, c0, c1, c2⟩ := of_cells HU.out
  clear HU
  obtain ⟨b1, b2, b3, b4, b5, b6⟩ := stN_in x
  rw [← hs.out] at c0 c1 c2 b1 b2 b3 b4 b5 b6
  clear hs
  go_wp2
  refine wp_region_mix (fun y => ∃ s, y = over X s) [(0, [0, 1, 2, 3, 4, 5, 6, 7, 8, 9, 10, 11, 12]), (1, [13]), (1, [14])] (by kernel_rfl) (by kernel_rfl) (over_of (ext_drew (ext_refl X))) ?_
  simp only [pieces, pickL, List.map_cons, List.map_nil, List.getD_cons_zero, List.getD_cons_succ]
  refine mix_reads ?_
  repeat (go_big_quiet_step (fail))
  refine wpQuiet_nil (mix_acts ?_)
  go_wp2
  have HX1 := Lib.hid (ext_drew (ext_alloc (.cells #[.int .i64 0, .int .i64 0, .int .i64 0] 56) (ext_refl X)))
  have HQ : Hid (Made X X.heap.size #[.int .i64 0, .int .i64 0, .int .i64 0] 56 (X.alloc (.cells #[.int .i64 0, .int .i64 0, .int .i64 0] 56)).drew) := Lib.hid ⟨hp_at _ _ _ rfl, Nat.le_refl _⟩
  refine mixQ_mk (over_of HX1.out) (mix_acts ?_)
  generalize (X.alloc (.cells #[.int .i64 0, .int .i64 0, .int .i64 0] 56)).drew = X1 at HX1 HQ ⊢
  generalize hbq : X.heap.size = bq at HQ ⊢
  have fq : ∀ o, X1.frozen? ⟨bq, o, none⟩ = false := fun _ => free_at HQ.out.1
  have q0 := cell_at (o := 0) HQ.out.1 rfl
  have q1 := cell_at (o := 1) HQ.out.1 rfl
  have q2 := cell_at (o := 2) HQ.out.1 rfl
  go_wp2
  have HX2 := Lib.hid (ext_set (p := ⟨bq, 2, none⟩) (.int .i64 s.k) HQ.out.2 (ext_set (p := ⟨bq, 1, none⟩) (.int .i64 s.m) HQ.out.2 (ext_set (p := ⟨bq, 0, none⟩) (.int .i64 s.g) HQ.out.2 HX1.out)))
  have HQ2 : Hid (Made X bq #[.int .i64 s.g, .int .i64 s.m, .int .i64 s.k] 56 (((X1.setCell ⟨bq, 0, none⟩ (.int .i64 s.g)).setCell ⟨bq, 1, none⟩ (.int .i64 s.m)).setCell ⟨bq, 2, none⟩ (.int .i64 s.k))) := Lib.hid (((HQ.out.set 0 (.int .i64 s.g)).set 1 (.int .i64 s.m)).set 2 (.int .i64 s.k))
  refine mixQ_mk (over_of HX2.out) (mix_end ?_)
  generalize (((X1.setCell ⟨bq, 0, none⟩ (.int .i64 s.g)).setCell ⟨bq, 1, none⟩ (.int .i64 s.m)).setCell ⟨bq, 2, none⟩ (.int .i64 s.k)) = X2 at HX2 HQ2 ⊢
  clear HX1 HQ fq q0 q1 q2 r0 r1 r2 fR c0 c1 c2
  have q0 := cell_at (o := 0) HQ2.out.1 rfl
  have q1 := cell_at (o := 1) HQ2.out.1 rfl
  have q2 := cell_at (o := 2) HQ2.out.1 rfl
  simp only [List.getElem_toArray, List.getElem_cons_zero, List.getElem_cons_succ] at q0 q1 q2
  have lq := hp_lt HQ2.out.1
  have HR2 := Lib.hid (HR.out.ext HX2.out)
  have HXX := Lib.hid (ext_trans HX.out HX2.out)
  have fR : ∀ o, X2.frozen? ⟨bR, o, none⟩ = false := fun _ => free_at HR2.out.1
  have r0 := cell_at (o := 0) HR2.out.1 rfl
  have r1 := cell_at (o := 1) HR2.out.1 rfl
  have r2 := cell_at (o := 2) HR2.out.1 rfl
  have lR2 := hp_lt HR2.out.1
  have nq : bq ≠ bR := (by subst hbq; exact Nat.ne_of_gt lR)
  have nq2 := Ne.symm nq
  go_wp2_with (go_at_call 41; refine (sformed_yes s HO.out _).mono ?_; rintro e w' hr; obtain ⟨rfl, s3, rfl⟩ := hr.over; clear hr)
  have HE9 := Lib.hid (ext_set (p := ⟨bR, 2, none⟩) (.int .i64 s.k) HR.out.2 (ext_set (p := ⟨bR, 1, none⟩) (.int .i64 s.m) HR.out.2 (ext_set (p := ⟨bR, 0, none⟩) (.int .i64 s.g) HR.out.2 (ext_over s3 HXX.out))))
  have HR9 : Hid (Made w bR #[.int .i64 s.g, .int .i64 s.m, .int .i64 s.k] 56 ((((over X2 s3).setCell ⟨bR, 0, none⟩ (.int .i64 s.g)).setCell ⟨bR, 1, none⟩ (.int .i64 s.m)).setCell ⟨bR, 2, none⟩ (.int .i64 s.k))) := Lib.hid ((((HR2.out.over s3).set 0 (.int .i64 s.g)).set 1 (.int .i64 s.m)).set 2 (.int .i64 s.k))
  generalize ((((over X2 s3).setCell ⟨bR, 0, none⟩ (.int .i64 s.g)).setCell ⟨bR, 1, none⟩ (.int .i64 s.m)).setCell ⟨bR, 2, none⟩ (.int .i64 s.k)) = Z9 at HE9 HR9 ⊢
  have z0 := cell_at (o := 0) HR9.out.1 rfl
  have z1 := cell_at (o := 1) HR9.out.1 rfl
  have z2 := cell_at (o := 2) HR9.out.1 rfl
  simp only [List.getElem_toArray, List.getElem_cons_zero, List.getElem_cons_succ] at z0 z1 z2
  exact bodyPost_ret (v := .tuple #[stV s, .bool true]) (by simp [results, Tryz.results78, go_sem, z0, z1, z2]) rfl (Ret.mk HE9.out)

set_option maxRecDepth 8000 in
set_option maxHeartbeats 1000000 in
theorem of_odd (x : BitVec 64) (s : St) (hs : Hid (s = stN x)) (h : U x < 17179869184) (HO : Hid (¬ s.ok)) (w : World) : Calls Tryz.prog 78 #[.int .u64 (U x)] w (Ret (.tuple #[stV ⟨0, 0, 0⟩, .bool false]) w) := by
  have HS := Lib.hid (of_split_yes x h)
  clear h
  go_enter Tryz.func78, Tryz.ntmps78
  go_wp2_with (first | (go_at_call 58; refine (slayout_any _).mono ?_; rintro e w' hr; obtain ⟨rfl, s0, rfl⟩ := hr.over; clear hr) | (go_at_call 126; refine Hid.out ?_))
  rename_i K2 hK2 K hK
  refine Lib.hid ?_
  refine (split_any stL _ x _ _ _ HS (by decide) (made_fs (Made.mk fC 127 (ext_refl _)))).mono ?_
  rintro e w' hr
  obtain ⟨sv, rfl, s2, rfl, HU⟩ := hr.over
  clear hr
  have HX := Lib.hid (ext_over s2 (ext_alloc (.cells fC 127) (ext_over s0 (ext_alloc (.cells #[.int .i64 0, .int .i64 0, .int .i64 0] 56) (ext_refl w)))))
  have HR : Hid (Made w w.heap.size #[.int .i64 0, .int .i64 0, .int .i64 0] 56 (over ((over (w.alloc (.cells #[.int .i64 0, .int .i64 0, .int .i64 0] 56)) s0).alloc (.cells fC 127)) s2)) := Lib.hid ((((Made.mk #[.int .i64 0, .int .i64 0, .int .i64 0] 56 (ext_refl w)).over s0).alloc _).over s2)
  generalize over ((over (w.alloc (.cells #[.int .i64 0, .int .i64 0, .int .i64 0] 56)) s0).alloc (.cells fC 127)) s2 = X at HX HR HU ⊢
  generalize (over (w.alloc (.cells #[.int .i64 0, .int .i64 0, .int .i64 0] 56)) s0).heap.size = bf
  generalize hbR : w.heap.size = bR at HR ⊢
  have lR := hp_lt HR.out.1
  have fR : ∀ o, X.frozen? ⟨bR, o, none⟩ = false := fun _ => free_at HR.out.1
  have r0 := cell_at (o := 0) HR.out.1 rfl
  have r1 := cell_at (o := 1) HR.out.1 rfl
  have r2 := cell_at (o := 2) HR.out.1 rfl
  obtain ⟨b, off, cap, rfl, hb, c0, c1, c2⟩ := of_cells HU.out
  clear HU
  obtain ⟨b1, b2, b3, b4, b5, b6⟩ := stN_in x
  rw [← hs.out] at c0 c1 c2 b1 b2 b3 b4 b5 b6
  clear hs
  go_wp2
  refine wp_region_mix (fun y => ∃ s, y = over X s) [(0, [0, 1, 2, 3, 4, 5, 6, 7, 8, 9, 10, 11, 12]), (1, [13]), (1, [14])] (by kernel_rfl) (by kernel_rfl) (over_of (ext_drew (ext_refl X))) ?_
  simp only [pieces, pickL, List.map_cons, List.map_nil, List.getD_cons_zero, List.getD_cons_succ]
  refine mix_reads ?_
  repeat (go_big_quiet_step (fail))
  refine wpQuiet_nil (mix_acts ?_)
  go_wp2
  have HX1 := Lib.hid (ext_drew (ext_alloc (.cells #[.int .i64 0, .int .i64 0, .int .i64 0] 56) (ext_refl X)))
  have HQ : Hid (Made X X.heap.size #[.int .i64 0, .int .i64 0, .int .i64 0] 56 (X.alloc (.cells #[.int .i64 0, .int .i64 0, .int .i64 0] 56)).drew) := Lib.hid ⟨hp_at _ _ _ rfl, Nat.le_refl _⟩
  refine mixQ_mk (over_of HX1.out) (mix_acts ?_)
  generalize (X.alloc (.cells #[.int .i64 0, .int .i64 0, .int .i64 0] 56)).drew = X1 at HX1 HQ ⊢
  generalize hbq : X.heap.size = bq at HQ ⊢
  have fq : ∀ o, X1.frozen? ⟨bq, o, none⟩ = false := fun _ => free_at HQ.out.1
  have q0 := cell_at (o := 0) HQ.out.1 rfl
  have q1 := cell_at (o := 1) HQ.out.1 rfl
  have q2 := cell_at (o := 2) HQ.out.1 rfl
  go_wp2
  have HX2 := Lib.hid (ext_set (p := ⟨bq, 2, none⟩) (.int .i64 s.k) HQ.out.2 (ext_set (p := ⟨bq, 1, none⟩) (.int .i64 s.m) HQ.out.2 (ext_set (p := ⟨bq, 0, none⟩) (.int .i64 s.g) HQ.out.2 HX1.out)))
  have HQ2 : Hid (Made X bq #[.int .i64 s.g, .int .i64 s.m, .int .i64 s.k] 56 (((X1.setCell ⟨bq, 0, none⟩ (.int .i64 s.g)).setCell ⟨bq, 1, none⟩ (.int .i64 s.m)).setCell ⟨bq, 2, none⟩ (.int .i64 s.k))) := Lib.hid (((HQ.out.set 0 (.int .i64 s.g)).set 1 (.int .i64 s.m)).set 2 (.int .i64 s.k))
  refine mixQ_mk (over_of HX2.out) (mix_end ?_)
  generalize (((X1.setCell ⟨bq, 0, none⟩ (.int .i64 s.g)).setCell ⟨bq, 1, none⟩ (.int .i64 s.m)).setCell ⟨bq, 2, none⟩ (.int .i64 s.k)) = X2 at HX2 HQ2 ⊢
  clear HX1 HQ fq q0 q1 q2 r0 r1 r2 fR c0 c1 c2
  have q0 := cell_at (o := 0) HQ2.out.1 rfl
  have q1 := cell_at (o := 1) HQ2.out.1 rfl
  have q2 := cell_at (o := 2) HQ2.out.1 rfl
  simp only [List.getElem_toArray, List.getElem_cons_zero, List.getElem_cons_succ] at q0 q1 q2
  have lq := hp_lt HQ2.out.1
  have HR2 := Lib.hid (HR.out.ext HX2.out)
  have HXX := Lib.hid (ext_trans HX.out HX2.out)
  have fR : ∀ o, X2.frozen? ⟨bR, o, none⟩ = false := fun _ => free_at HR2.out.1
  have r0 := cell_at (o := 0) HR2.out.1 rfl
  have r1 := cell_at (o := 1) HR2.out.1 rfl
  have r2 := cell_at (o := 2) HR2.out.1 rfl
  have lR2 := hp_lt HR2.out.1
  have nq : bq ≠ bR := (by subst hbq; exact Nat.ne_of_gt lR)
  have nq2 := Ne.symm nq
  go_wp2_with (go_at_call 41; refine (sformed_no s HO.out _).mono ?_; rintro e w' hr; obtain ⟨rfl, s3, rfl⟩ := hr.over; clear hr)
  have HE9 := Lib.hid (ext_set (p := ⟨bR, 2, none⟩) (.int .i64 0) HR.out.2 (ext_set (p := ⟨bR, 1, none⟩) (.int .i64 0) HR.out.2 (ext_set (p := ⟨bR, 0, none⟩) (.int .i64 0) HR.out.2 (ext_over s3 HXX.out))))
  have HR9 : Hid (Made w bR #[.int .i64 0, .int .i64 0, .int .i64 0] 56 ((((over X2 s3).setCell ⟨bR, 0, none⟩ (.int .i64 0)).setCell ⟨bR, 1, none⟩ (.int .i64 0)).setCell ⟨bR, 2, none⟩ (.int .i64 0))) := Lib.hid ((((HR2.out.over s3).set 0 (.int .i64 0)).set 1 (.int .i64 0)).set 2 (.int .i64 0))
  generalize ((((over X2 s3).setCell ⟨bR, 0, none⟩ (.int .i64 0)).setCell ⟨bR, 1, none⟩ (.int .i64 0)).setCell ⟨bR, 2, none⟩ (.int .i64 0)) = Z9 at HE9 HR9 ⊢
  have z0 := cell_at (o := 0) HR9.out.1 rfl
  have z1 := cell_at (o := 1) HR9.out.1 rfl
  have z2 := cell_at (o := 2) HR9.out.1 rfl
  simp only [List.getElem_toArray, List.getElem_cons_zero, List.getElem_cons_succ] at z0 z1 z2
  exact bodyPost_ret (v := .tuple #[stV ⟨0, 0, 0⟩, .bool false]) (by simp [results, Tryz.results78, go_sem, z0, z1, z2]) rfl (Ret.mk HE9.out)

theorem of_any (x : BitVec 64) (w : World) : Calls Tryz.prog 78 #[.int .u64 (U x)] w (Ret (.tuple #[stV (ofS x), .bool (decide (isW x))]) w) := by
  by_cases h : isW x
  · rw [ofS_yes x h, decide_eq_true h]
    exact of_yes x _ (Lib.hid rfl) h.1 (Lib.hid h.2) w
  · rw [ofS_no x h, decide_eq_false h]
    by_cases c : U x < 17179869184
    · exact of_odd x _ (Lib.hid rfl) c (Lib.hid fun k => h ⟨c, k⟩) w
    · exact of_none x c w

end Go.Proofs.YtpidmbclgfnekaaGreat
