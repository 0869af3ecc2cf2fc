/-
  What the reference's Do comes to, where the access is done. Conditions: those of each theorem.
-/
import Derived.Test.YthepcnffadjeaaaMemRef6
namespace Go.Proofs.Ythepcnffadjeaaa
open Go Go.RowKit

section
variable {b0 : Nat → Prop} {R : RL} {M : MS} {w : World}

set_option maxRecDepth 8000 in
set_option maxHeartbeats 2000000 in
theorem rdo_load (h : RefIn b0 R M w) (q j : Nat) (e a b : BitVec 64) (hq : q < M.n) (he : Hid (M.ep q = e)) (hj : j < M.sz q)  :
    Calls Try.prog 38 #[refV R M, .agg #[.int .i64 (q : Int), .int .u64 (U e)], .agg #[.int .i64 0, .int .i64 (j : Int), .int .u64 (U a), .int .u64 (U b)]] w
      (RetRef b0 (M.put q j (M.wd q j)).tick #[.int .u64 (U (M.wd q j)), .bool true] w) := by
  obtain ⟨iU, hiU, hy0, hy1, hy2⟩ := info_parts Try.infoU64r
  obtain ⟨iS, hiS, hs0, hs1, hs2⟩ := info_parts Try.infoS
  have H := Lib.hid h
  have h65 := h.few
  have HE := Lib.hid (h.wA (by omega)).1
  have E1 : Hid (∀ Y, RefIn b0 R M Y → Calls Try.prog 47 #[.agg #[.slice (some ⟨R.bw, 0, none⟩) M.n R.wc, .slice R.ea M.n R.ec, .int .i64 M.ct], .agg #[.int .i64 (q : Int), .int .u64 (U e)]] Y (Ret (.bool true) Y)) :=
    Lib.hid fun Y hY => (by have := rgood_yes hY q e hq he; unfold refV at this; rw [HE.out] at this; exact this)
  have hs := h.small q hq
  have g2 : (0 : Int) ≤ (q : Int) := by omega
  have g3 : (q : Int) < (M.n : Int) := by omega
  have g4 : (0 : Int) ≤ (j : Int) := by omega
  have g5 : (j : Int) < (M.sz q : Int) := by omega
  have q1 : decide ((j : Int) < 0) = false := by simp
  have q2 : decide ((M.sz q : Int) ≤ (j : Int)) = false := by simp; omega
  have q2' : decide (M.sz q ≤ j) = false := by simp; omega

  unfold refV
  rw [HE.out]
  clear h
  go_enter Try.func38, Try.ntmps38
  go_wp2
  obtain ⟨X, hX⟩ : ∃ X, X = ((((w.alloc (.cells #[.slice (some ⟨R.bw, 0, none⟩) M.n R.wc, .slice R.ea M.n R.ec, .int .i64 M.ct] 33)).alloc (.cells #[.int .i64 (q : Int), .int .u64 (U e)] 45)).alloc (.cells #[.int .i64 0, .int .i64 (j : Int), .int .u64 (U a), .int .u64 (U b)] 70)).alloc (.cells #[.slice none 0 0, .slice none 0 0, .int .i64 0] 33)) := ⟨_, rfl⟩
  rw [← hX]
  have HX : Hid (Ext w X) := Lib.hid (by rw [hX]; exact ext_alloc _ (ext_alloc _ (ext_alloc _ (ext_alloc _ (ext_refl w)))))
  have HD : Hid (DB w.heap.size (some ⟨R.bw, 0, none⟩) R M (q : Int) 0 (j : Int) e a b X) := Lib.hid (by rw [hX]; exact db_new w _ _ _ _ _ _ _ _ _ _)
  have hXs : w.heap.size + 4 ≤ X.heap.size := by rw [hX]; simp
  clear hX
  obtain ⟨m0, m1, m2, mz, c0, c1, a0, a1, a2, a3, t0, t1, t2, tz, l0, l1, l2, l3⟩ := HD.out
  have x0 := (H.out.ext HX.out).wR q hq
  have x1 := ((H.out.ext HX.out).wA (by omega)).2.2
  refine wp_region_over (by kernel_rfl) (by kernel_rfl) ?_
  repeat (go_big_quiet_step ((go_at_call 47; exact over_call (E1.out _ ((H.out.ext HX.out).over _)))))
  refine wpQuiet_nil ?_
  intro _ hw'
  obtain ⟨s, hw''⟩ := hw'
  subst hw''
  have HD2 := Lib.hid (HD.out.ext (over_below X s))
  have HX2 := Lib.hid (ext_over s HX.out)
  have hYs : w.heap.size + 4 ≤ (over X s).heap.size := Nat.le_trans hXs (over_size X s)
  clear m0 m1 m2 mz c0 c1 a0 a1 a2 a3 t0 t1 t2 tz l0 l1 l2 l3 HD HX x0 x1 hXs
  generalize over X s = Y at HD2 HX2 hYs ⊢
  obtain ⟨m0, m1, m2, mz, c0, c1, a0, a1, a2, a3, t0, t1, t2, tz, l0, l1, l2, l3⟩ := HD2.out
  have x0 := (H.out.ext HX2.out).wR q hq
  have x1 := ((H.out.ext HX2.out).wA (by omega)).2.2
  have x2 := (H.out.ext HX2.out).xR q j hq hj
  have x3 := ((H.out.ext HX2.out).xA q hq).2
  go_wp2
  refine wp_region_over (by kernel_rfl) (by kernel_rfl) ?_
  repeat (go_big_quiet_step (fail))
  refine wpQuiet_nil ?_
  intro _ hw'
  obtain ⟨s, hw''⟩ := hw'
  subst hw''
  have HD3 := Lib.hid (HD2.out.ext (over_below Y s))
  have HX3 := Lib.hid (ext_over s HX2.out)
  have hZs : w.heap.size + 4 ≤ (over Y s).heap.size := Nat.le_trans hYs (over_size Y s)
  clear m0 m1 m2 mz c0 c1 a0 a1 a2 a3 t0 t1 t2 tz l0 l1 l2 l3 HD2 HX2 x0 x1 x2 x3 hYs
  generalize over Y s = Z at HD3 HX3 hZs ⊢
  obtain ⟨m0, m1, m2, mz, c0, c1, a0, a1, a2, a3, t0, t1, t2, tz, l0, l1, l2, l3⟩ := HD3.out
  go_wp2_with (at_builtin; refine wpList_append_own _ rfl (.tmp 78) (.tmp 80) 30 rfl Z.heap.size 31 iS (.slice none 0 0) 1 24 Try.underlying30 hiS hs0 hs1 hs2 rfl (by decide) (.slice (some ⟨Z.heap.size, 0, none⟩) 0 0) 0 [] rfl (own_empty' _ _ _ _ rfl (Nat.le_refl _)) ⟨R.bw, 0, none⟩ M.n R.wc ((List.range M.n).map fun i => .slice (some ⟨R.xb i, 0, none⟩) (M.sz i) (R.xc i)) rfl (by simp) (news_of (fun i hi => ext_cell (ext_alloc _ HX3.out) (H.out.wR i hi))) (slices_of _ _ _ _) (by unfold maxLen; omega) (by omega) (by simp) ?_; intro v' w1 hv hg hn; rw [Nat.zero_add, List.nil_append] at hv; obtain ⟨g1, cap1, rfl, hg1, hlt1, hcl1, hfz1⟩ := own_row hv (by omega); have HC1 := Lib.hid hcl1; have HZ1 := Lib.hid hfz1; have HX4 := Lib.hid (grown_new hg rfl); clear hv hg hn hcl1 hfz1)
  have HD4 := Lib.hid (HD3.out.ext HX4.out)
  have HX5 := Lib.hid (ext_trans HX3.out HX4.out)
  clear m0 m1 m2 mz c0 c1 a0 a1 a2 a3 t0 t1 t2 tz l0 l1 l2 l3 HD3
  obtain ⟨m0, m1, m2, mz, c0, c1, a0, a1, a2, a3, t0, t1, t2, tz, l0, l1, l2, l3⟩ := HD4.out
  have x0 := (H.out.ext HX5.out).wR q hq
  have x1 := ((H.out.ext HX5.out).wA (by omega)).2.2
  have y0 := (HC1.out q hq).trans (range_get _ _ _ hq)
  have yz := HZ1.out q
  have hbw := (H.out.wA (by omega)).2.2
  have n0 : w.heap.size ≠ g1 := by omega
  have n1 : w.heap.size + 1 ≠ g1 := by omega
  have n3 : w.heap.size + 1 + 1 ≠ g1 := by omega
  have n2 : R.bw ≠ g1 := by omega
  refine wp_region_mix (fun x => ∃ s, x = off1 g1 w1 s) [(0, [0, 1, 2, 4, 5, 6, 7, 8, 9]), (1, [3]), (1, [10]), (0, [11]), (1, [12])] (by kernel_rfl) (by kernel_rfl) (off1_of (Fr.refl _ _ w1).drew) ?_
  simp only [pieces, pickL, List.map_cons, List.map_nil, List.getD_cons_zero, List.getD_cons_succ]
  refine mix_reads ?_
  repeat (go_big_quiet_step (fail))
  refine wpQuiet_nil (mix_acts ?_)
  go_wp2
  refine mixQ_mk (off1_of (.of_ext (ext_alloc _ (ext_drew (ext_refl w1))))) (mix_acts ?_)
  go_wp2_with (at_builtin; refine wpList_append_own _ rfl (.tmp 85) (.tmp 91) 31 rfl w1.heap.size 43 iU (.int .u64 0) 1 8 Try.underlying31 hiU hy0 hy1 hy2 rfl (by decide) (.slice (some ⟨w1.heap.size, 0, none⟩) 0 0) 0 [] rfl (own_dr _ _ _ _ (own_empty' _ _ _ _ rfl (Nat.le_refl _))) ⟨R.xb q, 0, none⟩ (M.sz q) (R.xc q) ((List.range (M.sz q)).map fun k => .int .u64 (U (M.wd q k))) rfl (by simp) (news_of (fun k hk => ext_cell (ext_alloc _ (ext_drew (ext_refl w1))) ((H.out.ext HX5.out).xR q k hq hk))) (ints_of _ _ _) (by unfold maxLen; omega) (by omega) (by simp) ?_; intro v' w2 hv hg hn; rw [Nat.zero_add, List.nil_append] at hv; obtain ⟨g2, cap2, rfl, hg2, hlt2, hcl2, hfz2⟩ := own_row hv (by omega); have HC2 := Lib.hid hcl2; have HZ2 := Lib.hid hfz2; have HX6 := Lib.hid (grown_dr hg rfl); clear hv hg hn hcl2 hfz2)
  refine mixQ_mk (off1_of (.of_ext HX6.out)) (mix_reads ?_)
  have y1 := ext_cell HX6.out y0
  have y1z : w2.frozen? ⟨g1, q, none⟩ = false := by rw [HX6.out.frozen (p := ⟨g1, q, none⟩) hlt1]; exact yz
  repeat (go_big_quiet_step (fail))
  refine wpQuiet_nil (mix_acts ?_)
  go_wp2
  have F1 := Lib.hid (Fr.set (p := ⟨g1, q, none⟩) (.slice (some ⟨g2, 0, none⟩) (M.sz q) cap2) (Fr.of_ext (lo := g1) (hi := g1 + 1) HX6.out) (Nat.le_refl _) (Nat.lt_succ_self _))
  refine mixQ_mk (off1_of F1.out) (mix_end ?_)
  have n4 : g2 ≠ g1 := by omega
  have HD5 := Lib.hid (HD4.out.fr F1.out (by omega))
  have z0 : (w2.setCell ⟨g1, q, none⟩ (.slice (some ⟨g2, 0, none⟩) (M.sz q) cap2)).cell? ⟨g1, q, none⟩ = some (.slice (some ⟨g2, 0, none⟩) (M.sz q) cap2) := cell_set_same y1
  have HW : Hid (∀ i, i < M.n → (w2.setCell ⟨g1, q, none⟩ (.slice (some ⟨g2, 0, none⟩) (M.sz q) cap2)).cell? ⟨g1, i, none⟩ = some (.slice (some ⟨if i = q then g2 else R.xb i, 0, none⟩) (M.sz i) (if i = q then cap2 else R.xc i))) := by
    refine Lib.hid fun i hi => ?_
    by_cases ei : i = q
    · subst ei; rw [if_pos rfl, if_pos rfl]; exact z0
    · rw [if_neg ei, if_neg ei, cell_set_off _ ei]
      exact ext_cell HX6.out ((HC1.out i hi).trans (range_get _ _ _ hi))
  have HW2 : Hid (∀ k, k < M.sz q → (w2.setCell ⟨g1, q, none⟩ (.slice (some ⟨g2, 0, none⟩) (M.sz q) cap2)).cell? ⟨g2, k, none⟩ = some (.int .u64 (U (M.wd q k)))) :=
    Lib.hid fun k hk => by rw [cell_set_far _ n4]; exact (HC2.out k hk).trans (range_get _ _ _ hk)
  have z1 := HW2.out j hj
  have z1z : (w2.setCell ⟨g1, q, none⟩ (.slice (some ⟨g2, 0, none⟩) (M.sz q) cap2)).frozen? ⟨g2, j, none⟩ = false := by rw [froz_set]; exact HZ2.out j
  have HX7 := Lib.hid (ext_set (p := ⟨g1, q, none⟩) (.slice (some ⟨g2, 0, none⟩) (M.sz q) cap2) (by show w.heap.size ≤ g1; omega) (ext_trans HX5.out HX6.out))
  have k1 : g1 < (w2.setCell ⟨g1, q, none⟩ (.slice (some ⟨g2, 0, none⟩) (M.sz q) cap2)).heap.size := by rw [set_size]; exact Nat.lt_of_lt_of_le hlt1 HX6.out.size
  have k2 : g2 < (w2.setCell ⟨g1, q, none⟩ (.slice (some ⟨g2, 0, none⟩) (M.sz q) cap2)).heap.size := by rw [set_size]; exact hlt2
  have hg1' : w.heap.size + 4 ≤ g1 := by omega
  have hg2' : w.heap.size + 4 ≤ g2 := by omega
  clear m0 m1 m2 mz c0 c1 a0 a1 a2 a3 t0 t1 t2 tz l0 l1 l2 l3 HD4 x0 x1 y0 yz y1 y1z F1 HC1 HC2 HZ1 HZ2 HX3 HX4 HX5 HX6
  generalize w2.setCell ⟨g1, q, none⟩ (.slice (some ⟨g2, 0, none⟩) (M.sz q) cap2) = w3 at HD5 z0 HW HW2 z1 z1z HX7 k1 k2 ⊢
  obtain ⟨m0, m1, m2, mz, c0, c1, a0, a1, a2, a3, t0, t1, t2, tz, l0, l1, l2, l3⟩ := HD5.out
  have o0 : w.heap.size ≠ g2 := by omega
  have o1 : w.heap.size + 1 ≠ g2 := by omega
  have o2 : w.heap.size + 1 + 1 ≠ g2 := by omega
  have o3 : w.heap.size + 1 + 1 + 1 ≠ g2 := by omega
  have n5 : g1 ≠ g2 := by omega
  go_wp2
  refine wp_region_mix (fun x => ∃ s, x = off1 g2 w3 s) [(0, [0, 1, 2, 3, 4, 5, 6, 7, 8]), (1, [9])] (by kernel_rfl) (by kernel_rfl) (off1_of (Fr.refl _ _ w3).drew) ?_
  simp only [pieces, pickL, List.map_cons, List.map_nil, List.getD_cons_zero, List.getD_cons_succ]
  refine mix_reads ?_
  repeat (go_big_quiet_step (fail))
  refine wpQuiet_nil (mix_acts ?_)
  go_wp2
  have F2 := Lib.hid (Fr.set (p := ⟨g2, j, none⟩) (.int .u64 (U (M.wd q j))) (Fr.drew (Fr.refl g2 (g2 + 1) w3)) (Nat.le_refl _) (Nat.lt_succ_self _))
  refine mixQ_mk (off1_of F2.out) (mix_end ?_)
  have HD6 := Lib.hid (HD5.out.fr F2.out (by omega))
  have HR : Hid (Rows2 R M q j g1 g2 cap2 (M.wd q j) (w3.drew.setCell ⟨g2, j, none⟩ (.int .u64 (U (M.wd q j))))) := by
    refine Lib.hid ⟨fun i hi => ?_, fun k hk => ?_, by rw [set_size]; exact k1, by rw [set_size]; exact k2⟩
    · rw [cell_set_far _ n5]; exact HW.out i hi
    · by_cases ek : k = j
      · subst ek; rw [if_pos rfl]; exact cell_set_same (w := w3.drew) (HW2.out k hk)
      · rw [if_neg ek, cell_set_off _ ek]; exact HW2.out k hk
  have HX8 := Lib.hid (ext_set (p := ⟨g2, j, none⟩) (.int .u64 (U (M.wd q j))) (by show w.heap.size ≤ g2; omega) (ext_drew HX7.out))
  clear m0 m1 m2 mz c0 c1 a0 a1 a2 a3 t0 t1 t2 tz l0 l1 l2 l3 HD5 z0 HW HW2 z1 z1z HX7 k1 k2 F2
  generalize hw4 : w3.drew.setCell ⟨g2, j, none⟩ (.int .u64 (U (M.wd q j))) = w4 at HD6 HR HX8
  have hw4' : (w3.setCell ⟨g2, j, none⟩ (.int .u64 (U (M.wd q j)))).drew = w4 := hw4
  rw [hw4']
  clear hw4 hw4'
  obtain ⟨m0, m1, m2, mz, c0, c1, a0, a1, a2, a3, t0, t1, t2, tz, l0, l1, l2, l3⟩ := HD6.out
  clear n0 n1 n2 n3 n4 n5 o0 o1 o2 o3
  go_wp2
  refine bodyPost_ret (v := .tuple #[refV (R2 R q g1 g2 cap1 cap2) (M.put q j (M.wd q j)).tick, .int .u64 (U (M.wd q j)), .bool true]) (by simp [results, Try.results38, go_sem, refV, R2, MS.put, MS.tick, t0, t1, t2]) rfl ⟨_, rfl, H.out.two (cap1 := cap1) HX8.out HR.out ?_ hg1' hg2'⟩
  repeat (first | exact Fr.refl _ _ _ | refine Fr.set _ ?_ (by simp <;> omega) (by simp <;> omega))

theorem rdo_yes (h : RefIn b0 R M w) (r op at_ : Int) (e a b : BitVec 64) (hd : DoOk M r e op at_) :
    Calls Try.prog 38 #[refV R M, .agg #[.int .i64 r, .int .u64 (U e)], .agg #[.int .i64 op, .int .i64 at_, .int .u64 (U a), .int .u64 (U b)]] w
      (RetRef b0 (M.done r op at_ a b) #[.int .u64 (U (M.wd r.toNat at_.toNat)), .bool true] w) := by
  obtain ⟨⟨h1, h2, h3⟩, h4, h5, h6, h7⟩ := hd
  obtain ⟨q, rfl⟩ := Int.eq_ofNat_of_zero_le h1
  obtain ⟨j, rfl⟩ := Int.eq_ofNat_of_zero_le h4
  unfold MS.done
  rw [show ((q : Nat) : Int).toNat = q by omega] at h3 h5 ⊢
  rw [show ((j : Nat) : Int).toNat = j by omega]
  have hq : q < M.n := by omega
  have hj : j < M.sz q := by omega
  rcases (show op = 0 ∨ op = 1 ∨ op = 2 ∨ op = 3 by omega) with rfl | rfl | rfl | rfl
  · rw [show nextW 0 (M.wd q j) a b = M.wd q j by simp [nextW]]
    exact rdo_load h q j e a b hq (Lib.hid h3) hj
  · rw [show nextW 1 (M.wd q j) a b = a by simp [nextW]]
    exact rdo_store h q j e a b hq (Lib.hid h3) hj
  · by_cases hx : M.wd q j = a
    · subst hx
      rw [show nextW 2 (M.wd q j) (M.wd q j) b = b by simp [nextW]]
      exact rdo_swap h q j e (M.wd q j) b hq (Lib.hid h3) hj
    · rw [show nextW 2 (M.wd q j) a b = M.wd q j by simp [nextW, hx]]
      exact rdo_miss h q j e a b hq (Lib.hid h3) hj (Lib.hid hx)
  · rw [show nextW 3 (M.wd q j) a b = M.wd q j + a by simp [nextW]]
    exact rdo_add h q j e a b hq (Lib.hid h3) hj

end
end Go.Proofs.Ythepcnffadjeaaa
