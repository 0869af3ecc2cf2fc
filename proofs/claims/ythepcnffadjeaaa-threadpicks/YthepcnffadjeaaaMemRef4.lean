/-
  What the reference's Do comes to, where the access may not be done. Conditions: those of each theorem.
-/
import Derived.Test.YthepcnffadjeaaaMemRef3
namespace Go.Proofs.Ythepcnffadjeaaa
open Go Go.RowKit

section
variable {b0 : Nat → Prop} {R : RL} {M : MS} {w : World}

set_option maxRecDepth 8000 in
set_option maxHeartbeats 1000000 in
theorem rdont_bad (h : RefIn b0 R M w) (r op at_ : Int) (e a b : BitVec 64) (hn : Hid (¬ Good M r e)) :
    Calls Try.prog 38 #[refV R M, .agg #[.int .i64 r, .int .u64 (U e)], .agg #[.int .i64 op, .int .i64 at_, .int .u64 (U a), .int .u64 (U b)]] w (RetRef b0 M #[.int .u64 0, .bool false] w) := by
  have H := Lib.hid h
  have h65 := h.few
  have E1 : Hid (∀ Y, RefIn b0 R M Y → Calls Try.prog 47 #[.agg #[.slice R.wa M.n R.wc, .slice R.ea M.n R.ec, .int .i64 M.ct], .agg #[.int .i64 r, .int .u64 (U e)]] Y (Ret (.bool false) Y)) := Lib.hid fun Y hY => (by have := rgood_no hY r e hn.out; unfold refV at this; exact this)

  unfold refV
  clear h
  go_enter Try.func38, Try.ntmps38
  go_wp2
  obtain ⟨X, hX⟩ : ∃ X, X = ((((w.alloc (.cells #[.slice R.wa M.n R.wc, .slice R.ea M.n R.ec, .int .i64 M.ct] 33)).alloc (.cells #[.int .i64 r, .int .u64 (U e)] 45)).alloc (.cells #[.int .i64 op, .int .i64 at_, .int .u64 (U a), .int .u64 (U b)] 70)).alloc (.cells #[.slice none 0 0, .slice none 0 0, .int .i64 0] 33)) := ⟨_, rfl⟩
  rw [← hX]
  have HX : Hid (Ext w X) := Lib.hid (by rw [hX]; exact ext_alloc _ (ext_alloc _ (ext_alloc _ (ext_alloc _ (ext_refl w)))))
  have HD : Hid (DB w.heap.size R.wa R M r op at_ e a b X) := Lib.hid (by rw [hX]; exact db_new w _ _ _ _ _ _ _ _ _ _)
  clear hX
  obtain ⟨m0, m1, m2, mz, c0, c1, a0, a1, a2, a3, t0, t1, t2, tz, l0, l1, l2, l3⟩ := HD.out

  refine wp_region_over (by kernel_rfl) (by kernel_rfl) ?_
  repeat (go_big_quiet_step ((go_at_call 47; exact over_call (E1.out _ ((H.out.ext HX.out).over _)))))
  refine wpQuiet_nil ?_
  intro _ hw'
  obtain ⟨s, hw''⟩ := hw'
  subst hw''
  have HD2 := HD.out.ext (over_below X s)
  have HX2 := Lib.hid (ext_over s HX.out)
  clear m0 m1 m2 mz c0 c1 a0 a1 a2 a3 t0 t1 t2 tz l0 l1 l2 l3 HD HX
  generalize over X s = Y at HD2 HX2 ⊢
  obtain ⟨m0, m1, m2, mz, c0, c1, a0, a1, a2, a3, t0, t1, t2, tz, l0, l1, l2, l3⟩ := HD2
  go_wp2
  have hE := rdo_end (x := .slice R.wa M.n R.wc) (y := .slice R.ea M.n R.ec) (z := .int .i64 M.ct) HX2.out (Nat.le_refl _)
  exact bodyPost_ret (v := .tuple #[refV R M, .int .u64 0, .bool false]) (by simp [results, Try.results38, go_sem, refV, t0, t1, t2]) rfl ⟨R, rfl, H.out.ext hE, hE⟩

set_option maxRecDepth 8000 in
set_option maxHeartbeats 1000000 in
theorem rdont_neg (h : RefIn b0 R M w) (q : Nat) (hq : q < M.n) (e a b : BitVec 64) (he : Hid (M.ep q = e)) (op at_ : Int) (h1 : at_ < 0) :
    Calls Try.prog 38 #[refV R M, .agg #[.int .i64 (q : Int), .int .u64 (U e)], .agg #[.int .i64 op, .int .i64 at_, .int .u64 (U a), .int .u64 (U b)]] w (RetRef b0 M #[.int .u64 0, .bool false] w) := by
  have H := Lib.hid h
  have h65 := h.few
  have HE := Lib.hid (h.wA (by omega)).1
  have E1 : Hid (∀ Y, RefIn b0 R M Y → Calls Try.prog 47 #[.agg #[.slice (some ⟨R.bw, 0, none⟩) M.n R.wc, .slice R.ea M.n R.ec, .int .i64 M.ct], .agg #[.int .i64 (q : Int), .int .u64 (U e)]] Y (Ret (.bool true) Y)) := Lib.hid fun Y hY => (by have := rgood_yes hY q e hq he; unfold refV at this; rw [HE.out] at this; exact this)
  have hs := h.small q hq
  have g2 : (0 : Int) ≤ (q : Int) := by omega
  have g3 : (q : Int) < (M.n : Int) := by omega
  have q1 : decide (at_ < 0) = true := by simpa using h1
  unfold refV
  rw [HE.out]
  clear h
  go_enter Try.func38, Try.ntmps38
  go_wp2
  obtain ⟨X, hX⟩ : ∃ X, X = ((((w.alloc (.cells #[.slice (some ⟨R.bw, 0, none⟩) M.n R.wc, .slice R.ea M.n R.ec, .int .i64 M.ct] 33)).alloc (.cells #[.int .i64 (q : Int), .int .u64 (U e)] 45)).alloc (.cells #[.int .i64 op, .int .i64 at_, .int .u64 (U a), .int .u64 (U b)] 70)).alloc (.cells #[.slice none 0 0, .slice none 0 0, .int .i64 0] 33)) := ⟨_, rfl⟩
  rw [← hX]
  have HX : Hid (Ext w X) := Lib.hid (by rw [hX]; exact ext_alloc _ (ext_alloc _ (ext_alloc _ (ext_alloc _ (ext_refl w)))))
  have HD : Hid (DB w.heap.size (some ⟨R.bw, 0, none⟩) R M (q : Int) op at_ e a b X) := Lib.hid (by rw [hX]; exact db_new w _ _ _ _ _ _ _ _ _ _)
  clear hX
  obtain ⟨m0, m1, m2, mz, c0, c1, a0, a1, a2, a3, t0, t1, t2, tz, l0, l1, l2, l3⟩ := HD.out
  have x0 := (H.out.ext HX.out).wR q hq
  have x1 := ((H.out.ext HX.out).wA (by omega)).2.2
  refine wp_region_over (by kernel_rfl) (by kernel_rfl) ?_
  repeat (go_big_quiet_step ((go_at_call 47; exact over_call (E1.out _ ((H.out.ext HX.out).over _)))))
  refine wpQuiet_nil ?_
  intro _ hw'
  obtain ⟨s, hw''⟩ := hw'
  subst hw''
  have HD2 := HD.out.ext (over_below X s)
  have HX2 := Lib.hid (ext_over s HX.out)
  clear m0 m1 m2 mz c0 c1 a0 a1 a2 a3 t0 t1 t2 tz l0 l1 l2 l3 HD HX
  generalize over X s = Y at HD2 HX2 ⊢
  obtain ⟨m0, m1, m2, mz, c0, c1, a0, a1, a2, a3, t0, t1, t2, tz, l0, l1, l2, l3⟩ := HD2
  go_wp2
  have hE := rdo_end (x := .slice (some ⟨R.bw, 0, none⟩) M.n R.wc) (y := .slice R.ea M.n R.ec) (z := .int .i64 M.ct) HX2.out (Nat.le_refl _)
  exact bodyPost_ret (v := .tuple #[refV R M, .int .u64 0, .bool false]) (by simp [results, Try.results38, go_sem, refV, t0, t1, t2, HE.out]) rfl ⟨R, rfl, H.out.ext hE, hE⟩

set_option maxRecDepth 8000 in
set_option maxHeartbeats 1000000 in
theorem rdont_far (h : RefIn b0 R M w) (q : Nat) (hq : q < M.n) (e a b : BitVec 64) (he : Hid (M.ep q = e)) (op : Int) (j : Nat) (h1 : M.sz q ≤ j) :
    Calls Try.prog 38 #[refV R M, .agg #[.int .i64 (q : Int), .int .u64 (U e)], .agg #[.int .i64 op, .int .i64 (j : Int), .int .u64 (U a), .int .u64 (U b)]] w (RetRef b0 M #[.int .u64 0, .bool false] w) := by
  have H := Lib.hid h
  have h65 := h.few
  have HE := Lib.hid (h.wA (by omega)).1
  have E1 : Hid (∀ Y, RefIn b0 R M Y → Calls Try.prog 47 #[.agg #[.slice (some ⟨R.bw, 0, none⟩) M.n R.wc, .slice R.ea M.n R.ec, .int .i64 M.ct], .agg #[.int .i64 (q : Int), .int .u64 (U e)]] Y (Ret (.bool true) Y)) := Lib.hid fun Y hY => (by have := rgood_yes hY q e hq he; unfold refV at this; rw [HE.out] at this; exact this)
  have hs := h.small q hq
  have g2 : (0 : Int) ≤ (q : Int) := by omega
  have g3 : (q : Int) < (M.n : Int) := by omega
  have q1 : decide ((j : Int) < 0) = false := by simp
  have q2 : decide ((M.sz q : Int) ≤ (j : Int)) = true := by simp; omega
  have q2' : decide (M.sz q ≤ j) = true := by simp; omega
  unfold refV
  rw [HE.out]
  clear h
  go_enter Try.func38, Try.ntmps38
  go_wp2
  obtain ⟨X, hX⟩ : ∃ X, X = ((((w.alloc (.cells #[.slice (some ⟨R.bw, 0, none⟩) M.n R.wc, .slice R.ea M.n R.ec, .int .i64 M.ct] 33)).alloc (.cells #[.int .i64 (q : Int), .int .u64 (U e)] 45)).alloc (.cells #[.int .i64 op, .int .i64 (j : Int), .int .u64 (U a), .int .u64 (U b)] 70)).alloc (.cells #[.slice none 0 0, .slice none 0 0, .int .i64 0] 33)) := ⟨_, rfl⟩
  rw [← hX]
  have HX : Hid (Ext w X) := Lib.hid (by rw [hX]; exact ext_alloc _ (ext_alloc _ (ext_alloc _ (ext_alloc _ (ext_refl w)))))
  have HD : Hid (DB w.heap.size (some ⟨R.bw, 0, none⟩) R M (q : Int) op (j : Int) e a b X) := Lib.hid (by rw [hX]; exact db_new w _ _ _ _ _ _ _ _ _ _)
  clear hX
  obtain ⟨m0, m1, m2, mz, c0, c1, a0, a1, a2, a3, t0, t1, t2, tz, l0, l1, l2, l3⟩ := HD.out
  have x0 := (H.out.ext HX.out).wR q hq
  have x1 := ((H.out.ext HX.out).wA (by omega)).2.2
  refine wp_region_over (by kernel_rfl) (by kernel_rfl) ?_
  repeat (go_big_quiet_step ((go_at_call 47; exact over_call (E1.out _ ((H.out.ext HX.out).over _)))))
  refine wpQuiet_nil ?_
  intro _ hw'
  obtain ⟨s, hw''⟩ := hw'
  subst hw''
  have HD2 := HD.out.ext (over_below X s)
  have HX2 := Lib.hid (ext_over s HX.out)
  clear m0 m1 m2 mz c0 c1 a0 a1 a2 a3 t0 t1 t2 tz l0 l1 l2 l3 HD HX
  generalize over X s = Y at HD2 HX2 ⊢
  obtain ⟨m0, m1, m2, mz, c0, c1, a0, a1, a2, a3, t0, t1, t2, tz, l0, l1, l2, l3⟩ := HD2
  go_wp2
  have hE := rdo_end (x := .slice (some ⟨R.bw, 0, none⟩) M.n R.wc) (y := .slice R.ea M.n R.ec) (z := .int .i64 M.ct) HX2.out (Nat.le_refl _)
  exact bodyPost_ret (v := .tuple #[refV R M, .int .u64 0, .bool false]) (by simp [results, Try.results38, go_sem, refV, t0, t1, t2, HE.out]) rfl ⟨R, rfl, H.out.ext hE, hE⟩

set_option maxRecDepth 8000 in
set_option maxHeartbeats 1000000 in
theorem rdont_low (h : RefIn b0 R M w) (q : Nat) (hq : q < M.n) (e a b : BitVec 64) (he : Hid (M.ep q = e)) (op : Int) (j : Nat) (h1 : j < M.sz q) (h2 : op < 0) :
    Calls Try.prog 38 #[refV R M, .agg #[.int .i64 (q : Int), .int .u64 (U e)], .agg #[.int .i64 op, .int .i64 (j : Int), .int .u64 (U a), .int .u64 (U b)]] w (RetRef b0 M #[.int .u64 0, .bool false] w) := by
  have H := Lib.hid h
  have h65 := h.few
  have HE := Lib.hid (h.wA (by omega)).1
  have E1 : Hid (∀ Y, RefIn b0 R M Y → Calls Try.prog 47 #[.agg #[.slice (some ⟨R.bw, 0, none⟩) M.n R.wc, .slice R.ea M.n R.ec, .int .i64 M.ct], .agg #[.int .i64 (q : Int), .int .u64 (U e)]] Y (Ret (.bool true) Y)) := Lib.hid fun Y hY => (by have := rgood_yes hY q e hq he; unfold refV at this; rw [HE.out] at this; exact this)
  have hs := h.small q hq
  have g2 : (0 : Int) ≤ (q : Int) := by omega
  have g3 : (q : Int) < (M.n : Int) := by omega
  have q1 : decide ((j : Int) < 0) = false := by simp
  have q2 : decide ((M.sz q : Int) ≤ (j : Int)) = false := by simp; omega
  have q2' : decide (M.sz q ≤ j) = false := by simp; omega
  have q3 : decide (op < 0) = true := by simpa using h2
  unfold refV
  rw [HE.out]
  clear h
  go_enter Try.func38, Try.ntmps38
  go_wp2
  obtain ⟨X, hX⟩ : ∃ X, X = ((((w.alloc (.cells #[.slice (some ⟨R.bw, 0, none⟩) M.n R.wc, .slice R.ea M.n R.ec, .int .i64 M.ct] 33)).alloc (.cells #[.int .i64 (q : Int), .int .u64 (U e)] 45)).alloc (.cells #[.int .i64 op, .int .i64 (j : Int), .int .u64 (U a), .int .u64 (U b)] 70)).alloc (.cells #[.slice none 0 0, .slice none 0 0, .int .i64 0] 33)) := ⟨_, rfl⟩
  rw [← hX]
  have HX : Hid (Ext w X) := Lib.hid (by rw [hX]; exact ext_alloc _ (ext_alloc _ (ext_alloc _ (ext_alloc _ (ext_refl w)))))
  have HD : Hid (DB w.heap.size (some ⟨R.bw, 0, none⟩) R M (q : Int) op (j : Int) e a b X) := Lib.hid (by rw [hX]; exact db_new w _ _ _ _ _ _ _ _ _ _)
  clear hX
  obtain ⟨m0, m1, m2, mz, c0, c1, a0, a1, a2, a3, t0, t1, t2, tz, l0, l1, l2, l3⟩ := HD.out
  have x0 := (H.out.ext HX.out).wR q hq
  have x1 := ((H.out.ext HX.out).wA (by omega)).2.2
  refine wp_region_over (by kernel_rfl) (by kernel_rfl) ?_
  repeat (go_big_quiet_step ((go_at_call 47; exact over_call (E1.out _ ((H.out.ext HX.out).over _)))))
  refine wpQuiet_nil ?_
  intro _ hw'
  obtain ⟨s, hw''⟩ := hw'
  subst hw''
  have HD2 := HD.out.ext (over_below X s)
  have HX2 := Lib.hid (ext_over s HX.out)
  clear m0 m1 m2 mz c0 c1 a0 a1 a2 a3 t0 t1 t2 tz l0 l1 l2 l3 HD HX
  generalize over X s = Y at HD2 HX2 ⊢
  obtain ⟨m0, m1, m2, mz, c0, c1, a0, a1, a2, a3, t0, t1, t2, tz, l0, l1, l2, l3⟩ := HD2
  go_wp2
  have hE := rdo_end (x := .slice (some ⟨R.bw, 0, none⟩) M.n R.wc) (y := .slice R.ea M.n R.ec) (z := .int .i64 M.ct) HX2.out (Nat.le_refl _)
  exact bodyPost_ret (v := .tuple #[refV R M, .int .u64 0, .bool false]) (by simp [results, Try.results38, go_sem, refV, t0, t1, t2, HE.out]) rfl ⟨R, rfl, H.out.ext hE, hE⟩

set_option maxRecDepth 8000 in
set_option maxHeartbeats 1000000 in
theorem rdont_high (h : RefIn b0 R M w) (q : Nat) (hq : q < M.n) (e a b : BitVec 64) (he : Hid (M.ep q = e)) (op : Int) (j : Nat) (h1 : j < M.sz q) (h2 : 3 < op) :
    Calls Try.prog 38 #[refV R M, .agg #[.int .i64 (q : Int), .int .u64 (U e)], .agg #[.int .i64 op, .int .i64 (j : Int), .int .u64 (U a), .int .u64 (U b)]] w (RetRef b0 M #[.int .u64 0, .bool false] w) := by
  have H := Lib.hid h
  have h65 := h.few
  have HE := Lib.hid (h.wA (by omega)).1
  have E1 : Hid (∀ Y, RefIn b0 R M Y → Calls Try.prog 47 #[.agg #[.slice (some ⟨R.bw, 0, none⟩) M.n R.wc, .slice R.ea M.n R.ec, .int .i64 M.ct], .agg #[.int .i64 (q : Int), .int .u64 (U e)]] Y (Ret (.bool true) Y)) := Lib.hid fun Y hY => (by have := rgood_yes hY q e hq he; unfold refV at this; rw [HE.out] at this; exact this)
  have hs := h.small q hq
  have g2 : (0 : Int) ≤ (q : Int) := by omega
  have g3 : (q : Int) < (M.n : Int) := by omega
  have q1 : decide ((j : Int) < 0) = false := by simp
  have q2 : decide ((M.sz q : Int) ≤ (j : Int)) = false := by simp; omega
  have q2' : decide (M.sz q ≤ j) = false := by simp; omega
  have q3 : decide (op < 0) = false := by simp; omega
  have q4 : decide (3 < op) = true := by simpa using h2
  unfold refV
  rw [HE.out]
  clear h
  go_enter Try.func38, Try.ntmps38
  go_wp2
  obtain ⟨X, hX⟩ : ∃ X, X = ((((w.alloc (.cells #[.slice (some ⟨R.bw, 0, none⟩) M.n R.wc, .slice R.ea M.n R.ec, .int .i64 M.ct] 33)).alloc (.cells #[.int .i64 (q : Int), .int .u64 (U e)] 45)).alloc (.cells #[.int .i64 op, .int .i64 (j : Int), .int .u64 (U a), .int .u64 (U b)] 70)).alloc (.cells #[.slice none 0 0, .slice none 0 0, .int .i64 0] 33)) := ⟨_, rfl⟩
  rw [← hX]
  have HX : Hid (Ext w X) := Lib.hid (by rw [hX]; exact ext_alloc _ (ext_alloc _ (ext_alloc _ (ext_alloc _ (ext_refl w)))))
  have HD : Hid (DB w.heap.size (some ⟨R.bw, 0, none⟩) R M (q : Int) op (j : Int) e a b X) := Lib.hid (by rw [hX]; exact db_new w _ _ _ _ _ _ _ _ _ _)
  clear hX
  obtain ⟨m0, m1, m2, mz, c0, c1, a0, a1, a2, a3, t0, t1, t2, tz, l0, l1, l2, l3⟩ := HD.out
  have x0 := (H.out.ext HX.out).wR q hq
  have x1 := ((H.out.ext HX.out).wA (by omega)).2.2
  refine wp_region_over (by kernel_rfl) (by kernel_rfl) ?_
  repeat (go_big_quiet_step ((go_at_call 47; exact over_call (E1.out _ ((H.out.ext HX.out).over _)))))
  refine wpQuiet_nil ?_
  intro _ hw'
  obtain ⟨s, hw''⟩ := hw'
  subst hw''
  have HD2 := HD.out.ext (over_below X s)
  have HX2 := Lib.hid (ext_over s HX.out)
  clear m0 m1 m2 mz c0 c1 a0 a1 a2 a3 t0 t1 t2 tz l0 l1 l2 l3 HD HX
  generalize over X s = Y at HD2 HX2 ⊢
  obtain ⟨m0, m1, m2, mz, c0, c1, a0, a1, a2, a3, t0, t1, t2, tz, l0, l1, l2, l3⟩ := HD2
  go_wp2
  have hE := rdo_end (x := .slice (some ⟨R.bw, 0, none⟩) M.n R.wc) (y := .slice R.ea M.n R.ec) (z := .int .i64 M.ct) HX2.out (Nat.le_refl _)
  exact bodyPost_ret (v := .tuple #[refV R M, .int .u64 0, .bool false]) (by simp [results, Try.results38, go_sem, refV, t0, t1, t2, HE.out]) rfl ⟨R, rfl, H.out.ext hE, hE⟩

theorem rdo_no (h : RefIn b0 R M w) (r op at_ : Int) (e a b : BitVec 64) (hn : ¬ DoOk M r e op at_) :
    Calls Try.prog 38 #[refV R M, .agg #[.int .i64 r, .int .u64 (U e)], .agg #[.int .i64 op, .int .i64 at_, .int .u64 (U a), .int .u64 (U b)]] w (RetRef b0 M #[.int .u64 0, .bool false] w) := by
  by_cases hg : Good M r e
  · obtain ⟨g0, g1, g2⟩ := hg
    obtain ⟨q, rfl⟩ := Int.eq_ofNat_of_zero_le g0
    have g2' := g2
    rw [show ((q : Nat) : Int).toNat = q by omega] at g2'
    by_cases h1 : at_ < 0
    · exact rdont_neg h q (by omega) e a b (Lib.hid g2') op at_ h1
    · obtain ⟨j, rfl⟩ := Int.eq_ofNat_of_zero_le (show 0 ≤ at_ by omega)
      by_cases h2 : j < M.sz q
      · by_cases h3 : op < 0
        · exact rdont_low h q (by omega) e a b (Lib.hid g2') op j h2 h3
        · have h4 : 3 < op := by
            by_cases h5 : op ≤ 3
            · exact absurd ⟨⟨g0, g1, g2⟩, by omega, by rw [show ((q : Nat) : Int).toNat = q by omega]; omega, by omega, h5⟩ hn
            · omega
          exact rdont_high h q (by omega) e a b (Lib.hid g2') op j h2 h4
      · exact rdont_far h q (by omega) e a b (Lib.hid g2') op j (by omega)
  · exact rdont_bad h r op at_ e a b (Lib.hid hg)
end
end Go.Proofs.Ythepcnffadjeaaa
