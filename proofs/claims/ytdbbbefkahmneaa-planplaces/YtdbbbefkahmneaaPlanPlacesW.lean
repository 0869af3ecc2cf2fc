/-
  PlanPlaces: the call's ways, walked. Conditions: those of each theorem.
-/
import Derived.Test.YtdbbbefkahmneaaPlanPl
namespace Go.Proofs.Ytdbbbefkahmneaa
open Go Go.RowKit

theorem told_none {p : Pl} (h : ¬ p.ok) (x : T3) : p.toldF x = -1 := by
  unfold Pl.toldF Pl.headF Pl.kindF Pl.cellF Pl.hazF Pl.cntF Pl.retF Pl.stF Pl.nxF Pl.fdF
  simp only [h, false_and, if_false, ite_self]
theorem wds_none {p : Pl} (h : ¬ p.ok) (x : Int) : p.wdsF x = [] := by unfold Pl.wdsF; rw [if_neg fun hh => h hh.1]
theorem size_none {p : Pl} (h : ¬ p.ok) : p.sizeF = 0 := by unfold Pl.sizeF; rw [if_neg h]
theorem cells_none {p : Pl} (h : ¬ p.ok) : p.cellsF = 0 := by unfold Pl.cellsF; rw [if_neg h]

theorem told_at (p : Pl) (a b c : Int) (w : World) (m : Int) (h : Hid (p.toldF ⟨a, b, c⟩ = m)) : Calls Try.prog 14 #[plV p, .agg #[.int .i64 a, .int .i64 b, .int .i64 c]] w (Ret (.int .i64 m) w) := by
  rw [← h.out]
  exact told_any p ⟨a, b, c⟩ w
theorem at_at (l : List T3) (a b c : Int) (v : Value) (w : World) (r : Int) (hr : Hid (AtSpec l ⟨a, b, c⟩ r)) (hT : Ts w v l) (hl : (l.length : Int) ≤ 10000000) : Calls Try.prog 18 #[v, .agg #[.int .i64 a, .int .i64 b, .int .i64 c]] w (Ret (.int .i64 r) w) :=
  at_any l ⟨a, b, c⟩ v w r hr hT hl
section
variable (p : Pl) (w : World)
set_option maxRecDepth 8000 in
set_option maxHeartbeats 2000000 in
theorem places_few (x : T3) (hf : ¬ p.few) : Calls Try.prog 3 #[plV p, wdV x] w (Ret (.bool true) w) := by
  have F := Lib.hid hf
  clear hf
  go_enter Try.func3, Try.ntmps3
  go_wp2_with (first
    | (go_at_call 8; refine (awake_any _).mono ?_; rintro e w' hr'; obtain ⟨rfl, s, rfl⟩ := hr'.over; clear hr')
    | (go_at_call 9; refine (few_any p _ false (hid_no F.out)).mono ?_; rintro e w' hr'; obtain ⟨rfl, s1, rfl⟩ := hr'.over; clear hr'))
  go_ret
  exact Ret.mk (by repeat (first | exact ext_refl _ | apply ext_over | apply ext_alloc))

set_option maxRecDepth 8000 in
set_option maxHeartbeats 2000000 in
theorem places_low (x : T3) (hf : p.few) (hx : x.a < 0) : Calls Try.prog 3 #[plV p, wdV x] w (Ret (.bool true) w) := by
  have F := Lib.hid hf
  clear hf
  go_enter Try.func3, Try.ntmps3
  go_wp2_with (first
    | (go_at_call 8; refine (awake_any _).mono ?_; rintro e w' hr'; obtain ⟨rfl, s, rfl⟩ := hr'.over; clear hr')
    | (go_at_call 9; refine (few_any p _ true (hid_yes F.out)).mono ?_; rintro e w' hr'; obtain ⟨rfl, s1, rfl⟩ := hr'.over; clear hr'))
  go_ret
  exact Ret.mk (by repeat (first | exact ext_refl _ | apply ext_over | apply ext_alloc))

set_option maxRecDepth 8000 in
set_option maxHeartbeats 2000000 in
theorem places_high (x : T3) (hf : p.few) (hx : 8 < x.a) : Calls Try.prog 3 #[plV p, wdV x] w (Ret (.bool true) w) := by
  have F := Lib.hid hf
  clear hf
  go_enter Try.func3, Try.ntmps3
  go_wp2_with (first
    | (go_at_call 8; refine (awake_any _).mono ?_; rintro e w' hr'; obtain ⟨rfl, s, rfl⟩ := hr'.over; clear hr')
    | (go_at_call 9; refine (few_any p _ true (hid_yes F.out)).mono ?_; rintro e w' hr'; obtain ⟨rfl, s1, rfl⟩ := hr'.over; clear hr'))
  go_ret
  exact Ret.mk (by repeat (first | exact ext_refl _ | apply ext_over | apply ext_alloc))

set_option maxRecDepth 8000 in
set_option maxHeartbeats 2000000 in
theorem places_no (x : T3) (hf : p.few) (h0 : 0 ≤ x.a) (h8 : x.a ≤ 8) (hk : ¬ p.ok) : Calls Try.prog 3 #[plV p, wdV x] w (Ret (.bool true) w) := by
  have F := Lib.hid hf
  have K := Lib.hid hk
  have e1 := size_none hk
  have e2 := cells_none hk
  have e3 := told_none hk x
  have e4 := wds_none hk x.b
  clear hf hk
  go_enter Try.func3, Try.ntmps3
  go_wp2_with (first
    | (go_at_call 8; refine (awake_any _).mono ?_; rintro e w' hr'; obtain ⟨rfl, s, rfl⟩ := hr'.over; clear hr')
    | (go_at_call 9; refine (few_any p _ true (hid_yes F.out)).mono ?_; rintro e w' hr'; obtain ⟨rfl, s1, rfl⟩ := hr'.over; clear hr')
    | (go_at_call 10; refine (rformed_any p _ false (hid_no K.out)).mono ?_; rintro e w' hr'; obtain ⟨rfl, s2, rfl⟩ := hr'.over; clear hr')
    | (go_at_call 11; refine (formed_any p _ false (hid_no K.out)).mono ?_; rintro e w' hr'; obtain ⟨rfl, s3, rfl⟩ := hr'.over; clear hr')
    | (go_at_call 12; refine (size_any p _).mono ?_; rintro e w' hr'; obtain ⟨rfl, s4, rfl⟩ := hr'.over; clear hr')
    | (go_at_call 13; refine (cellsF_any p _).mono ?_; rintro e w' hr'; obtain ⟨rfl, s5, rfl⟩ := hr'.over; clear hr')
    | (go_at_call 14; refine (told_any p x _).mono ?_; rintro e w' hr'; obtain ⟨rfl, s6, rfl⟩ := hr'.over; clear hr')
    | (go_at_call 15; refine Hid.out ?_))
  refine Lib.hid ?_
  refine (wds_any p _ _).mono ?_
  rintro e Z ⟨vw, rfl, hx, hI⟩
  rw [e4] at hI
  obtain ⟨aw, cw, rfl, _, _⟩ := hI
  have HZ : Hid (Ext w Z) := Lib.hid (ext_trans (by repeat (first | exact ext_refl _ | apply ext_over | apply ext_alloc)) hx)
  clear hx
  go_wp2
  go_ret
  exact Ret.mk HZ.out

set_option maxRecDepth 8000 in
set_option maxHeartbeats 2000000 in
theorem places_yes0 (b c : Int) (hf : p.few) (hk : p.ok) : Calls Try.prog 3 #[plV p, .agg #[.int .i64 0, .int .i64 b, .int .i64 c]] w (Ret (.bool true) w) := by
  have F := Lib.hid hf
  have K := Lib.hid hk
  clear hf hk
  go_enter Try.func3, Try.ntmps3
  go_wp2_with (first
    | (go_at_call 8; refine (awake_any _).mono ?_; rintro e w' hr'; obtain ⟨rfl, s, rfl⟩ := hr'.over; clear hr')
    | (go_at_call 9; refine (few_any p _ true (hid_yes F.out)).mono ?_; rintro e w' hr'; obtain ⟨rfl, s1, rfl⟩ := hr'.over; clear hr')
    | (go_at_call 10; refine (rformed_any p _ true (hid_yes K.out)).mono ?_; rintro e w' hr'; obtain ⟨rfl, s2, rfl⟩ := hr'.over; clear hr')
    | (go_at_call 16; refine Hid.out ?_))
  refine Lib.hid ?_
  refine (words_any p _ K.out).mono ?_
  rintro e Y ⟨v, l, rfl, hx, hT, hL, hG⟩
  have HXY : Hid (Ext w Y) := Lib.hid (ext_trans (by repeat (first | exact ext_refl _ | apply ext_over | apply ext_alloc)) hx)
  obtain ⟨bp, hbp⟩ : ∃ bp, bp = w.heap.size := ⟨_, rfl⟩
  have HB : Hid (Y.heap[bp]? = some (.cells #[.int .i64 p.n, .int .i64 p.t, .int .i64 p.r, .int .i64 p.d, .int .i64 p.b, .int .i64 p.g] 23 (0, 0))) := Lib.hid (by subst hbp; rw [hx.block _ (Nat.lt_of_lt_of_le (by simp; omega) (over_size ((w.alloc (.cells #[.int .i64 p.n, .int .i64 p.t, .int .i64 p.r, .int .i64 p.d, .int .i64 p.b, .int .i64 p.g] 23)).alloc (.cells #[.int .i64 0, .int .i64 b, .int .i64 c] 25)) _)), (over_below _ _).block _ (by simp; omega), Below.heap_alloc _ _ _ (by simp)]; exact hp_at _ _ _ rfl)
  have HC : Hid (Y.heap[bp + 1]? = some (.cells #[.int .i64 0, .int .i64 b, .int .i64 c] 25 (0, 0))) := Lib.hid (by subst hbp; rw [hx.block _ (Nat.lt_of_lt_of_le (by simp) (over_size ((w.alloc (.cells #[.int .i64 p.n, .int .i64 p.t, .int .i64 p.r, .int .i64 p.d, .int .i64 p.b, .int .i64 p.g] 23)).alloc (.cells #[.int .i64 0, .int .i64 b, .int .i64 c] 25)) _)), (over_below _ _).block _ (by simp)]; exact hp_at _ _ _ (by simp))
  simp only [← hbp]
  clear hbp hx
  obtain ⟨m, hm⟩ : ∃ m, p.toldF ⟨0, b, c⟩ = m := ⟨_, rfl⟩
  have HM := Lib.hid hm
  have HA : Hid (AtSpec l ⟨0, 0, 0⟩ m) := Lib.hid (by rw [← hm]; exact at_told K.out hL hG (x := ⟨0, 0, 0⟩) (by unfold Wd; dsimp only; omega))
  have HT := Lib.hid hT
  have e1 := hL.symm
  have e2 : p.cellsF = p.c := (by unfold Pl.cellsF; rw [if_pos K.out])
  have hlen : (l.length : Int) ≤ 5275777 := (by rw [hL]; unfold Pl.sizeF; rw [if_pos K.out]; exact (Pl.nod_in K.out (x := p.n) (by have := K.out; unfold Pl.ok at this; omega) (Int.le_refl _)).2)
  clear hL hG hm
  obtain ⟨a0, cap, rfl, hcap, _⟩ := hT
  obtain ⟨p0, p1, p2, p3, p4, p5, pz, pl⟩ := six_at HB.out
  have x0 := cell_at (o := 0) HC.out rfl
  have x1 := cell_at (o := 1) HC.out rfl
  have x2 := cell_at (o := 2) HC.out rfl
  have xz : ∀ o, Y.frozen? ⟨bp + 1, o, none⟩ = false := fun _ => free_at HC.out
  have xl := hp_lt HC.out
  go_wp2
  have HX2 : Hid (Ext Y (Y.alloc (.cells #[.int .i64 0, .int .i64 0, .int .i64 0] 25))) := Lib.hid (ext_alloc _ (ext_refl Y))
  have HD : Hid ((Y.alloc (.cells #[.int .i64 0, .int .i64 0, .int .i64 0] 25)).heap[Y.heap.size]? = some (.cells #[.int .i64 0, .int .i64 0, .int .i64 0] 25 (0, 0))) := Lib.hid (hp_at _ _ _ rfl)
  obtain ⟨bz, hbz⟩ : ∃ bz, bz = Y.heap.size := ⟨_, rfl⟩
  rw [← hbz] at HD ⊢
  clear hbz
  generalize Y.alloc (.cells #[.int .i64 0, .int .i64 0, .int .i64 0] 25) = Z at HX2 HD ⊢
  have HB2 := Lib.hid ((HX2.out.block bp pl).trans HB.out)
  have HC2 := Lib.hid ((HX2.out.block (bp + 1) xl).trans HC.out)
  clear p0 p1 p2 p3 p4 p5 pz pl x0 x1 x2 xz xl
  obtain ⟨p0, p1, p2, p3, p4, p5, pz, pl⟩ := six_at HB2.out
  have x0 := cell_at (o := 0) HC2.out rfl
  have x1 := cell_at (o := 1) HC2.out rfl
  have x2 := cell_at (o := 2) HC2.out rfl
  have xl := hp_lt HC2.out
  have z0 := cell_at (o := 0) HD.out rfl
  have z1 := cell_at (o := 1) HD.out rfl
  have z2 := cell_at (o := 2) HD.out rfl
  have zl := hp_lt HD.out
  have HT2 := Lib.hid (HT.out.ext HX2.out)
  refine wp_region_over (by kernel_rfl) (by kernel_rfl) ?_
  repeat (go_big_quiet_step (first
    | (go_at_call 11; exact over_call (formed_any p _ true (hid_yes K.out)))
    | (go_at_call 12; exact over_call (size_any p _))
    | (go_at_call 13; exact over_call (cellsF_any p _))
    | (go_at_call 17; exact over_call (rcells_any p _))
    | (go_at_call 14; exact over_call (told_at p 0 b c _ m HM))
    | (go_at_call 18; exact over_call (at_at l 0 0 0 _ _ m HA (HT2.out.ext (over_below _ _)) (by omega)))))
  refine wpQuiet_nil ?_
  intro _ hw'
  obtain ⟨s5, hw''⟩ := hw'
  subst hw''
  go_wp2
  go_ret
  exact Ret.mk (ext_over s5 (ext_trans HXY.out HX2.out))

set_option maxRecDepth 8000 in
set_option maxHeartbeats 2000000 in
theorem places_yes1 (b c : Int) (hf : p.few) (hk : p.ok) : Calls Try.prog 3 #[plV p, .agg #[.int .i64 1, .int .i64 b, .int .i64 c]] w (Ret (.bool true) w) := by
  have F := Lib.hid hf
  have K := Lib.hid hk
  clear hf hk
  go_enter Try.func3, Try.ntmps3
  go_wp2_with (first
    | (go_at_call 8; refine (awake_any _).mono ?_; rintro e w' hr'; obtain ⟨rfl, s, rfl⟩ := hr'.over; clear hr')
    | (go_at_call 9; refine (few_any p _ true (hid_yes F.out)).mono ?_; rintro e w' hr'; obtain ⟨rfl, s1, rfl⟩ := hr'.over; clear hr')
    | (go_at_call 10; refine (rformed_any p _ true (hid_yes K.out)).mono ?_; rintro e w' hr'; obtain ⟨rfl, s2, rfl⟩ := hr'.over; clear hr')
    | (go_at_call 16; refine Hid.out ?_))
  refine Lib.hid ?_
  refine (words_any p _ K.out).mono ?_
  rintro e Y ⟨v, l, rfl, hx, hT, hL, hG⟩
  have HXY : Hid (Ext w Y) := Lib.hid (ext_trans (by repeat (first | exact ext_refl _ | apply ext_over | apply ext_alloc)) hx)
  obtain ⟨bp, hbp⟩ : ∃ bp, bp = w.heap.size := ⟨_, rfl⟩
  have HB : Hid (Y.heap[bp]? = some (.cells #[.int .i64 p.n, .int .i64 p.t, .int .i64 p.r, .int .i64 p.d, .int .i64 p.b, .int .i64 p.g] 23 (0, 0))) := Lib.hid (by subst hbp; rw [hx.block _ (Nat.lt_of_lt_of_le (by simp; omega) (over_size ((w.alloc (.cells #[.int .i64 p.n, .int .i64 p.t, .int .i64 p.r, .int .i64 p.d, .int .i64 p.b, .int .i64 p.g] 23)).alloc (.cells #[.int .i64 1, .int .i64 b, .int .i64 c] 25)) _)), (over_below _ _).block _ (by simp; omega), Below.heap_alloc _ _ _ (by simp)]; exact hp_at _ _ _ rfl)
  have HC : Hid (Y.heap[bp + 1]? = some (.cells #[.int .i64 1, .int .i64 b, .int .i64 c] 25 (0, 0))) := Lib.hid (by subst hbp; rw [hx.block _ (Nat.lt_of_lt_of_le (by simp) (over_size ((w.alloc (.cells #[.int .i64 p.n, .int .i64 p.t, .int .i64 p.r, .int .i64 p.d, .int .i64 p.b, .int .i64 p.g] 23)).alloc (.cells #[.int .i64 1, .int .i64 b, .int .i64 c] 25)) _)), (over_below _ _).block _ (by simp)]; exact hp_at _ _ _ (by simp))
  simp only [← hbp]
  clear hbp hx
  obtain ⟨m, hm⟩ : ∃ m, p.toldF ⟨1, b, c⟩ = m := ⟨_, rfl⟩
  have HM := Lib.hid hm
  have HA : Hid (AtSpec l ⟨1, b, 0⟩ m) := Lib.hid (by rw [← hm]; exact at_told K.out hL hG (x := ⟨1, b, 0⟩) (by unfold Wd; dsimp only; omega))
  have HT := Lib.hid hT
  have e1 := hL.symm
  have e2 : p.cellsF = p.c := (by unfold Pl.cellsF; rw [if_pos K.out])
  have hlen : (l.length : Int) ≤ 5275777 := (by rw [hL]; unfold Pl.sizeF; rw [if_pos K.out]; exact (Pl.nod_in K.out (x := p.n) (by have := K.out; unfold Pl.ok at this; omega) (Int.le_refl _)).2)
  clear hL hG hm
  obtain ⟨a0, cap, rfl, hcap, _⟩ := hT
  obtain ⟨p0, p1, p2, p3, p4, p5, pz, pl⟩ := six_at HB.out
  have x0 := cell_at (o := 0) HC.out rfl
  have x1 := cell_at (o := 1) HC.out rfl
  have x2 := cell_at (o := 2) HC.out rfl
  have xz : ∀ o, Y.frozen? ⟨bp + 1, o, none⟩ = false := fun _ => free_at HC.out
  have xl := hp_lt HC.out
  go_wp2
  have HX2 : Hid (Ext Y (Y.alloc (.cells #[.int .i64 1, .int .i64 b, .int .i64 0] 25))) := Lib.hid (ext_alloc _ (ext_refl Y))
  have HD : Hid ((Y.alloc (.cells #[.int .i64 1, .int .i64 b, .int .i64 0] 25)).heap[Y.heap.size]? = some (.cells #[.int .i64 1, .int .i64 b, .int .i64 0] 25 (0, 0))) := Lib.hid (hp_at _ _ _ rfl)
  obtain ⟨bz, hbz⟩ : ∃ bz, bz = Y.heap.size := ⟨_, rfl⟩
  rw [← hbz] at HD ⊢
  clear hbz
  generalize Y.alloc (.cells #[.int .i64 1, .int .i64 b, .int .i64 0] 25) = Z at HX2 HD ⊢
  have HB2 := Lib.hid ((HX2.out.block bp pl).trans HB.out)
  have HC2 := Lib.hid ((HX2.out.block (bp + 1) xl).trans HC.out)
  clear p0 p1 p2 p3 p4 p5 pz pl x0 x1 x2 xz xl
  obtain ⟨p0, p1, p2, p3, p4, p5, pz, pl⟩ := six_at HB2.out
  have x0 := cell_at (o := 0) HC2.out rfl
  have x1 := cell_at (o := 1) HC2.out rfl
  have x2 := cell_at (o := 2) HC2.out rfl
  have xl := hp_lt HC2.out
  have z0 := cell_at (o := 0) HD.out rfl
  have z1 := cell_at (o := 1) HD.out rfl
  have z2 := cell_at (o := 2) HD.out rfl
  have zl := hp_lt HD.out
  have HT2 := Lib.hid (HT.out.ext HX2.out)
  refine wp_region_over (by kernel_rfl) (by kernel_rfl) ?_
  repeat (go_big_quiet_step (first
    | (go_at_call 11; exact over_call (formed_any p _ true (hid_yes K.out)))
    | (go_at_call 12; exact over_call (size_any p _))
    | (go_at_call 13; exact over_call (cellsF_any p _))
    | (go_at_call 17; exact over_call (rcells_any p _))
    | (go_at_call 14; exact over_call (told_at p 1 b c _ m HM))
    | (go_at_call 18; exact over_call (at_at l 1 b 0 _ _ m HA (HT2.out.ext (over_below _ _)) (by omega)))))
  refine wpQuiet_nil ?_
  intro _ hw'
  obtain ⟨s5, hw''⟩ := hw'
  subst hw''
  go_wp2
  go_ret
  exact Ret.mk (ext_over s5 (ext_trans HXY.out HX2.out))

set_option maxRecDepth 8000 in
set_option maxHeartbeats 2000000 in
theorem places_yes2 (b c : Int) (hf : p.few) (hk : p.ok) : Calls Try.prog 3 #[plV p, .agg #[.int .i64 2, .int .i64 b, .int .i64 c]] w (Ret (.bool true) w) := by
  have F := Lib.hid hf
  have K := Lib.hid hk
  clear hf hk
  go_enter Try.func3, Try.ntmps3
  go_wp2_with (first
    | (go_at_call 8; refine (awake_any _).mono ?_; rintro e w' hr'; obtain ⟨rfl, s, rfl⟩ := hr'.over; clear hr')
    | (go_at_call 9; refine (few_any p _ true (hid_yes F.out)).mono ?_; rintro e w' hr'; obtain ⟨rfl, s1, rfl⟩ := hr'.over; clear hr')
    | (go_at_call 10; refine (rformed_any p _ true (hid_yes K.out)).mono ?_; rintro e w' hr'; obtain ⟨rfl, s2, rfl⟩ := hr'.over; clear hr')
    | (go_at_call 16; refine Hid.out ?_))
  refine Lib.hid ?_
  refine (words_any p _ K.out).mono ?_
  rintro e Y ⟨v, l, rfl, hx, hT, hL, hG⟩
  have HXY : Hid (Ext w Y) := Lib.hid (ext_trans (by repeat (first | exact ext_refl _ | apply ext_over | apply ext_alloc)) hx)
  obtain ⟨bp, hbp⟩ : ∃ bp, bp = w.heap.size := ⟨_, rfl⟩
  have HB : Hid (Y.heap[bp]? = some (.cells #[.int .i64 p.n, .int .i64 p.t, .int .i64 p.r, .int .i64 p.d, .int .i64 p.b, .int .i64 p.g] 23 (0, 0))) := Lib.hid (by subst hbp; rw [hx.block _ (Nat.lt_of_lt_of_le (by simp; omega) (over_size ((w.alloc (.cells #[.int .i64 p.n, .int .i64 p.t, .int .i64 p.r, .int .i64 p.d, .int .i64 p.b, .int .i64 p.g] 23)).alloc (.cells #[.int .i64 2, .int .i64 b, .int .i64 c] 25)) _)), (over_below _ _).block _ (by simp; omega), Below.heap_alloc _ _ _ (by simp)]; exact hp_at _ _ _ rfl)
  have HC : Hid (Y.heap[bp + 1]? = some (.cells #[.int .i64 2, .int .i64 b, .int .i64 c] 25 (0, 0))) := Lib.hid (by subst hbp; rw [hx.block _ (Nat.lt_of_lt_of_le (by simp) (over_size ((w.alloc (.cells #[.int .i64 p.n, .int .i64 p.t, .int .i64 p.r, .int .i64 p.d, .int .i64 p.b, .int .i64 p.g] 23)).alloc (.cells #[.int .i64 2, .int .i64 b, .int .i64 c] 25)) _)), (over_below _ _).block _ (by simp)]; exact hp_at _ _ _ (by simp))
  simp only [← hbp]
  clear hbp hx
  obtain ⟨m, hm⟩ : ∃ m, p.toldF ⟨2, b, c⟩ = m := ⟨_, rfl⟩
  have HM := Lib.hid hm
  have HA : Hid (AtSpec l ⟨2, b, c⟩ m) := Lib.hid (by rw [← hm]; exact at_told K.out hL hG (x := ⟨2, b, c⟩) (by unfold Wd; dsimp only; omega))
  have HT := Lib.hid hT
  have e1 := hL.symm
  have e2 : p.cellsF = p.c := (by unfold Pl.cellsF; rw [if_pos K.out])
  have hlen : (l.length : Int) ≤ 5275777 := (by rw [hL]; unfold Pl.sizeF; rw [if_pos K.out]; exact (Pl.nod_in K.out (x := p.n) (by have := K.out; unfold Pl.ok at this; omega) (Int.le_refl _)).2)
  clear hL hG hm
  obtain ⟨a0, cap, rfl, hcap, _⟩ := hT
  obtain ⟨p0, p1, p2, p3, p4, p5, pz, pl⟩ := six_at HB.out
  have x0 := cell_at (o := 0) HC.out rfl
  have x1 := cell_at (o := 1) HC.out rfl
  have x2 := cell_at (o := 2) HC.out rfl
  have xz : ∀ o, Y.frozen? ⟨bp + 1, o, none⟩ = false := fun _ => free_at HC.out
  have xl := hp_lt HC.out
  go_wp2
  have HX2 : Hid (Ext Y (Y.alloc (.cells #[.int .i64 2, .int .i64 b, .int .i64 c] 25))) := Lib.hid (ext_alloc _ (ext_refl Y))
  have HD : Hid ((Y.alloc (.cells #[.int .i64 2, .int .i64 b, .int .i64 c] 25)).heap[Y.heap.size]? = some (.cells #[.int .i64 2, .int .i64 b, .int .i64 c] 25 (0, 0))) := Lib.hid (hp_at _ _ _ rfl)
  obtain ⟨bz, hbz⟩ : ∃ bz, bz = Y.heap.size := ⟨_, rfl⟩
  rw [← hbz] at HD ⊢
  clear hbz
  generalize Y.alloc (.cells #[.int .i64 2, .int .i64 b, .int .i64 c] 25) = Z at HX2 HD ⊢
  have HB2 := Lib.hid ((HX2.out.block bp pl).trans HB.out)
  have HC2 := Lib.hid ((HX2.out.block (bp + 1) xl).trans HC.out)
  clear p0 p1 p2 p3 p4 p5 pz pl x0 x1 x2 xz xl
  obtain ⟨p0, p1, p2, p3, p4, p5, pz, pl⟩ := six_at HB2.out
  have x0 := cell_at (o := 0) HC2.out rfl
  have x1 := cell_at (o := 1) HC2.out rfl
  have x2 := cell_at (o := 2) HC2.out rfl
  have xl := hp_lt HC2.out
  have z0 := cell_at (o := 0) HD.out rfl
  have z1 := cell_at (o := 1) HD.out rfl
  have z2 := cell_at (o := 2) HD.out rfl
  have zl := hp_lt HD.out
  have HT2 := Lib.hid (HT.out.ext HX2.out)
  refine wp_region_over (by kernel_rfl) (by kernel_rfl) ?_
  repeat (go_big_quiet_step (first
    | (go_at_call 11; exact over_call (formed_any p _ true (hid_yes K.out)))
    | (go_at_call 12; exact over_call (size_any p _))
    | (go_at_call 13; exact over_call (cellsF_any p _))
    | (go_at_call 17; exact over_call (rcells_any p _))
    | (go_at_call 14; exact over_call (told_at p 2 b c _ m HM))
    | (go_at_call 18; exact over_call (at_at l 2 b c _ _ m HA (HT2.out.ext (over_below _ _)) (by omega)))))
  refine wpQuiet_nil ?_
  intro _ hw'
  obtain ⟨s5, hw''⟩ := hw'
  subst hw''
  go_wp2
  go_ret
  exact Ret.mk (ext_over s5 (ext_trans HXY.out HX2.out))

set_option maxRecDepth 8000 in
set_option maxHeartbeats 2000000 in
theorem places_yes3 (b c : Int) (hf : p.few) (hk : p.ok) : Calls Try.prog 3 #[plV p, .agg #[.int .i64 3, .int .i64 b, .int .i64 c]] w (Ret (.bool true) w) := by
  have F := Lib.hid hf
  have K := Lib.hid hk
  clear hf hk
  go_enter Try.func3, Try.ntmps3
  go_wp2_with (first
    | (go_at_call 8; refine (awake_any _).mono ?_; rintro e w' hr'; obtain ⟨rfl, s, rfl⟩ := hr'.over; clear hr')
    | (go_at_call 9; refine (few_any p _ true (hid_yes F.out)).mono ?_; rintro e w' hr'; obtain ⟨rfl, s1, rfl⟩ := hr'.over; clear hr')
    | (go_at_call 10; refine (rformed_any p _ true (hid_yes K.out)).mono ?_; rintro e w' hr'; obtain ⟨rfl, s2, rfl⟩ := hr'.over; clear hr')
    | (go_at_call 16; refine Hid.out ?_))
  refine Lib.hid ?_
  refine (words_any p _ K.out).mono ?_
  rintro e Y ⟨v, l, rfl, hx, hT, hL, hG⟩
  have HXY : Hid (Ext w Y) := Lib.hid (ext_trans (by repeat (first | exact ext_refl _ | apply ext_over | apply ext_alloc)) hx)
  obtain ⟨bp, hbp⟩ : ∃ bp, bp = w.heap.size := ⟨_, rfl⟩
  have HB : Hid (Y.heap[bp]? = some (.cells #[.int .i64 p.n, .int .i64 p.t, .int .i64 p.r, .int .i64 p.d, .int .i64 p.b, .int .i64 p.g] 23 (0, 0))) := Lib.hid (by subst hbp; rw [hx.block _ (Nat.lt_of_lt_of_le (by simp; omega) (over_size ((w.alloc (.cells #[.int .i64 p.n, .int .i64 p.t, .int .i64 p.r, .int .i64 p.d, .int .i64 p.b, .int .i64 p.g] 23)).alloc (.cells #[.int .i64 3, .int .i64 b, .int .i64 c] 25)) _)), (over_below _ _).block _ (by simp; omega), Below.heap_alloc _ _ _ (by simp)]; exact hp_at _ _ _ rfl)
  have HC : Hid (Y.heap[bp + 1]? = some (.cells #[.int .i64 3, .int .i64 b, .int .i64 c] 25 (0, 0))) := Lib.hid (by subst hbp; rw [hx.block _ (Nat.lt_of_lt_of_le (by simp) (over_size ((w.alloc (.cells #[.int .i64 p.n, .int .i64 p.t, .int .i64 p.r, .int .i64 p.d, .int .i64 p.b, .int .i64 p.g] 23)).alloc (.cells #[.int .i64 3, .int .i64 b, .int .i64 c] 25)) _)), (over_below _ _).block _ (by simp)]; exact hp_at _ _ _ (by simp))
  simp only [← hbp]
  clear hbp hx
  obtain ⟨m, hm⟩ : ∃ m, p.toldF ⟨3, b, c⟩ = m := ⟨_, rfl⟩
  have HM := Lib.hid hm
  have HA : Hid (AtSpec l ⟨3, b, c⟩ m) := Lib.hid (by rw [← hm]; exact at_told K.out hL hG (x := ⟨3, b, c⟩) (by unfold Wd; dsimp only; omega))
  have HT := Lib.hid hT
  have e1 := hL.symm
  have e2 : p.cellsF = p.c := (by unfold Pl.cellsF; rw [if_pos K.out])
  have hlen : (l.length : Int) ≤ 5275777 := (by rw [hL]; unfold Pl.sizeF; rw [if_pos K.out]; exact (Pl.nod_in K.out (x := p.n) (by have := K.out; unfold Pl.ok at this; omega) (Int.le_refl _)).2)
  clear hL hG hm
  obtain ⟨a0, cap, rfl, hcap, _⟩ := hT
  obtain ⟨p0, p1, p2, p3, p4, p5, pz, pl⟩ := six_at HB.out
  have x0 := cell_at (o := 0) HC.out rfl
  have x1 := cell_at (o := 1) HC.out rfl
  have x2 := cell_at (o := 2) HC.out rfl
  have xz : ∀ o, Y.frozen? ⟨bp + 1, o, none⟩ = false := fun _ => free_at HC.out
  have xl := hp_lt HC.out
  go_wp2
  have HX2 : Hid (Ext Y (Y.alloc (.cells #[.int .i64 3, .int .i64 b, .int .i64 c] 25))) := Lib.hid (ext_alloc _ (ext_refl Y))
  have HD : Hid ((Y.alloc (.cells #[.int .i64 3, .int .i64 b, .int .i64 c] 25)).heap[Y.heap.size]? = some (.cells #[.int .i64 3, .int .i64 b, .int .i64 c] 25 (0, 0))) := Lib.hid (hp_at _ _ _ rfl)
  obtain ⟨bz, hbz⟩ : ∃ bz, bz = Y.heap.size := ⟨_, rfl⟩
  rw [← hbz] at HD ⊢
  clear hbz
  generalize Y.alloc (.cells #[.int .i64 3, .int .i64 b, .int .i64 c] 25) = Z at HX2 HD ⊢
  have HB2 := Lib.hid ((HX2.out.block bp pl).trans HB.out)
  have HC2 := Lib.hid ((HX2.out.block (bp + 1) xl).trans HC.out)
  clear p0 p1 p2 p3 p4 p5 pz pl x0 x1 x2 xz xl
  obtain ⟨p0, p1, p2, p3, p4, p5, pz, pl⟩ := six_at HB2.out
  have x0 := cell_at (o := 0) HC2.out rfl
  have x1 := cell_at (o := 1) HC2.out rfl
  have x2 := cell_at (o := 2) HC2.out rfl
  have xl := hp_lt HC2.out
  have z0 := cell_at (o := 0) HD.out rfl
  have z1 := cell_at (o := 1) HD.out rfl
  have z2 := cell_at (o := 2) HD.out rfl
  have zl := hp_lt HD.out
  have HT2 := Lib.hid (HT.out.ext HX2.out)
  refine wp_region_over (by kernel_rfl) (by kernel_rfl) ?_
  repeat (go_big_quiet_step (first
    | (go_at_call 11; exact over_call (formed_any p _ true (hid_yes K.out)))
    | (go_at_call 12; exact over_call (size_any p _))
    | (go_at_call 13; exact over_call (cellsF_any p _))
    | (go_at_call 17; exact over_call (rcells_any p _))
    | (go_at_call 14; exact over_call (told_at p 3 b c _ m HM))
    | (go_at_call 18; exact over_call (at_at l 3 b c _ _ m HA (HT2.out.ext (over_below _ _)) (by omega)))))
  refine wpQuiet_nil ?_
  intro _ hw'
  obtain ⟨s5, hw''⟩ := hw'
  subst hw''
  go_wp2
  go_ret
  exact Ret.mk (ext_over s5 (ext_trans HXY.out HX2.out))

set_option maxRecDepth 8000 in
set_option maxHeartbeats 2000000 in
theorem places_yes4 (b c : Int) (hf : p.few) (hk : p.ok) : Calls Try.prog 3 #[plV p, .agg #[.int .i64 4, .int .i64 b, .int .i64 c]] w (Ret (.bool true) w) := by
  have F := Lib.hid hf
  have K := Lib.hid hk
  clear hf hk
  go_enter Try.func3, Try.ntmps3
  go_wp2_with (first
    | (go_at_call 8; refine (awake_any _).mono ?_; rintro e w' hr'; obtain ⟨rfl, s, rfl⟩ := hr'.over; clear hr')
    | (go_at_call 9; refine (few_any p _ true (hid_yes F.out)).mono ?_; rintro e w' hr'; obtain ⟨rfl, s1, rfl⟩ := hr'.over; clear hr')
    | (go_at_call 10; refine (rformed_any p _ true (hid_yes K.out)).mono ?_; rintro e w' hr'; obtain ⟨rfl, s2, rfl⟩ := hr'.over; clear hr')
    | (go_at_call 16; refine Hid.out ?_))
  refine Lib.hid ?_
  refine (words_any p _ K.out).mono ?_
  rintro e Y ⟨v, l, rfl, hx, hT, hL, hG⟩
  have HXY : Hid (Ext w Y) := Lib.hid (ext_trans (by repeat (first | exact ext_refl _ | apply ext_over | apply ext_alloc)) hx)
  obtain ⟨bp, hbp⟩ : ∃ bp, bp = w.heap.size := ⟨_, rfl⟩
  have HB : Hid (Y.heap[bp]? = some (.cells #[.int .i64 p.n, .int .i64 p.t, .int .i64 p.r, .int .i64 p.d, .int .i64 p.b, .int .i64 p.g] 23 (0, 0))) := Lib.hid (by subst hbp; rw [hx.block _ (Nat.lt_of_lt_of_le (by simp; omega) (over_size ((w.alloc (.cells #[.int .i64 p.n, .int .i64 p.t, .int .i64 p.r, .int .i64 p.d, .int .i64 p.b, .int .i64 p.g] 23)).alloc (.cells #[.int .i64 4, .int .i64 b, .int .i64 c] 25)) _)), (over_below _ _).block _ (by simp; omega), Below.heap_alloc _ _ _ (by simp)]; exact hp_at _ _ _ rfl)
  have HC : Hid (Y.heap[bp + 1]? = some (.cells #[.int .i64 4, .int .i64 b, .int .i64 c] 25 (0, 0))) := Lib.hid (by subst hbp; rw [hx.block _ (Nat.lt_of_lt_of_le (by simp) (over_size ((w.alloc (.cells #[.int .i64 p.n, .int .i64 p.t, .int .i64 p.r, .int .i64 p.d, .int .i64 p.b, .int .i64 p.g] 23)).alloc (.cells #[.int .i64 4, .int .i64 b, .int .i64 c] 25)) _)), (over_below _ _).block _ (by simp)]; exact hp_at _ _ _ (by simp))
  simp only [← hbp]
  clear hbp hx
  obtain ⟨m, hm⟩ : ∃ m, p.toldF ⟨4, b, c⟩ = m := ⟨_, rfl⟩
  have HM := Lib.hid hm
  have HA : Hid (AtSpec l ⟨4, b, 0⟩ m) := Lib.hid (by rw [← hm]; exact at_told K.out hL hG (x := ⟨4, b, 0⟩) (by unfold Wd; dsimp only; omega))
  have HT := Lib.hid hT
  have e1 := hL.symm
  have e2 : p.cellsF = p.c := (by unfold Pl.cellsF; rw [if_pos K.out])
  have hlen : (l.length : Int) ≤ 5275777 := (by rw [hL]; unfold Pl.sizeF; rw [if_pos K.out]; exact (Pl.nod_in K.out (x := p.n) (by have := K.out; unfold Pl.ok at this; omega) (Int.le_refl _)).2)
  clear hL hG hm
  obtain ⟨a0, cap, rfl, hcap, _⟩ := hT
  obtain ⟨p0, p1, p2, p3, p4, p5, pz, pl⟩ := six_at HB.out
  have x0 := cell_at (o := 0) HC.out rfl
  have x1 := cell_at (o := 1) HC.out rfl
  have x2 := cell_at (o := 2) HC.out rfl
  have xz : ∀ o, Y.frozen? ⟨bp + 1, o, none⟩ = false := fun _ => free_at HC.out
  have xl := hp_lt HC.out
  go_wp2
  have HX2 : Hid (Ext Y (Y.alloc (.cells #[.int .i64 4, .int .i64 b, .int .i64 0] 25))) := Lib.hid (ext_alloc _ (ext_refl Y))
  have HD : Hid ((Y.alloc (.cells #[.int .i64 4, .int .i64 b, .int .i64 0] 25)).heap[Y.heap.size]? = some (.cells #[.int .i64 4, .int .i64 b, .int .i64 0] 25 (0, 0))) := Lib.hid (hp_at _ _ _ rfl)
  obtain ⟨bz, hbz⟩ : ∃ bz, bz = Y.heap.size := ⟨_, rfl⟩
  rw [← hbz] at HD ⊢
  clear hbz
  generalize Y.alloc (.cells #[.int .i64 4, .int .i64 b, .int .i64 0] 25) = Z at HX2 HD ⊢
  have HB2 := Lib.hid ((HX2.out.block bp pl).trans HB.out)
  have HC2 := Lib.hid ((HX2.out.block (bp + 1) xl).trans HC.out)
  clear p0 p1 p2 p3 p4 p5 pz pl x0 x1 x2 xz xl
  obtain ⟨p0, p1, p2, p3, p4, p5, pz, pl⟩ := six_at HB2.out
  have x0 := cell_at (o := 0) HC2.out rfl
  have x1 := cell_at (o := 1) HC2.out rfl
  have x2 := cell_at (o := 2) HC2.out rfl
  have xl := hp_lt HC2.out
  have z0 := cell_at (o := 0) HD.out rfl
  have z1 := cell_at (o := 1) HD.out rfl
  have z2 := cell_at (o := 2) HD.out rfl
  have zl := hp_lt HD.out
  have HT2 := Lib.hid (HT.out.ext HX2.out)
  refine wp_region_over (by kernel_rfl) (by kernel_rfl) ?_
  repeat (go_big_quiet_step (first
    | (go_at_call 11; exact over_call (formed_any p _ true (hid_yes K.out)))
    | (go_at_call 12; exact over_call (size_any p _))
    | (go_at_call 13; exact over_call (cellsF_any p _))
    | (go_at_call 17; exact over_call (rcells_any p _))
    | (go_at_call 14; exact over_call (told_at p 4 b c _ m HM))
    | (go_at_call 18; exact over_call (at_at l 4 b 0 _ _ m HA (HT2.out.ext (over_below _ _)) (by omega)))))
  refine wpQuiet_nil ?_
  intro _ hw'
  obtain ⟨s5, hw''⟩ := hw'
  subst hw''
  go_wp2
  go_ret
  exact Ret.mk (ext_over s5 (ext_trans HXY.out HX2.out))

set_option maxRecDepth 8000 in
set_option maxHeartbeats 2000000 in
theorem places_yes5 (b c : Int) (hf : p.few) (hk : p.ok) : Calls Try.prog 3 #[plV p, .agg #[.int .i64 5, .int .i64 b, .int .i64 c]] w (Ret (.bool true) w) := by
  have F := Lib.hid hf
  have K := Lib.hid hk
  clear hf hk
  go_enter Try.func3, Try.ntmps3
  go_wp2_with (first
    | (go_at_call 8; refine (awake_any _).mono ?_; rintro e w' hr'; obtain ⟨rfl, s, rfl⟩ := hr'.over; clear hr')
    | (go_at_call 9; refine (few_any p _ true (hid_yes F.out)).mono ?_; rintro e w' hr'; obtain ⟨rfl, s1, rfl⟩ := hr'.over; clear hr')
    | (go_at_call 10; refine (rformed_any p _ true (hid_yes K.out)).mono ?_; rintro e w' hr'; obtain ⟨rfl, s2, rfl⟩ := hr'.over; clear hr')
    | (go_at_call 16; refine Hid.out ?_))
  refine Lib.hid ?_
  refine (words_any p _ K.out).mono ?_
  rintro e Y ⟨v, l, rfl, hx, hT, hL, hG⟩
  have HXY : Hid (Ext w Y) := Lib.hid (ext_trans (by repeat (first | exact ext_refl _ | apply ext_over | apply ext_alloc)) hx)
  obtain ⟨bp, hbp⟩ : ∃ bp, bp = w.heap.size := ⟨_, rfl⟩
  have HB : Hid (Y.heap[bp]? = some (.cells #[.int .i64 p.n, .int .i64 p.t, .int .i64 p.r, .int .i64 p.d, .int .i64 p.b, .int .i64 p.g] 23 (0, 0))) := Lib.hid (by subst hbp; rw [hx.block _ (Nat.lt_of_lt_of_le (by simp; omega) (over_size ((w.alloc (.cells #[.int .i64 p.n, .int .i64 p.t, .int .i64 p.r, .int .i64 p.d, .int .i64 p.b, .int .i64 p.g] 23)).alloc (.cells #[.int .i64 5, .int .i64 b, .int .i64 c] 25)) _)), (over_below _ _).block _ (by simp; omega), Below.heap_alloc _ _ _ (by simp)]; exact hp_at _ _ _ rfl)
  have HC : Hid (Y.heap[bp + 1]? = some (.cells #[.int .i64 5, .int .i64 b, .int .i64 c] 25 (0, 0))) := Lib.hid (by subst hbp; rw [hx.block _ (Nat.lt_of_lt_of_le (by simp) (over_size ((w.alloc (.cells #[.int .i64 p.n, .int .i64 p.t, .int .i64 p.r, .int .i64 p.d, .int .i64 p.b, .int .i64 p.g] 23)).alloc (.cells #[.int .i64 5, .int .i64 b, .int .i64 c] 25)) _)), (over_below _ _).block _ (by simp)]; exact hp_at _ _ _ (by simp))
  simp only [← hbp]
  clear hbp hx
  obtain ⟨m, hm⟩ : ∃ m, p.toldF ⟨5, b, c⟩ = m := ⟨_, rfl⟩
  have HM := Lib.hid hm
  have HA : Hid (AtSpec l ⟨5, b, c⟩ m) := Lib.hid (by rw [← hm]; exact at_told K.out hL hG (x := ⟨5, b, c⟩) (by unfold Wd; dsimp only; omega))
  have HT := Lib.hid hT
  have e1 := hL.symm
  have e2 : p.cellsF = p.c := (by unfold Pl.cellsF; rw [if_pos K.out])
  have hlen : (l.length : Int) ≤ 5275777 := (by rw [hL]; unfold Pl.sizeF; rw [if_pos K.out]; exact (Pl.nod_in K.out (x := p.n) (by have := K.out; unfold Pl.ok at this; omega) (Int.le_refl _)).2)
  clear hL hG hm
  obtain ⟨a0, cap, rfl, hcap, _⟩ := hT
  obtain ⟨p0, p1, p2, p3, p4, p5, pz, pl⟩ := six_at HB.out
  have x0 := cell_at (o := 0) HC.out rfl
  have x1 := cell_at (o := 1) HC.out rfl
  have x2 := cell_at (o := 2) HC.out rfl
  have xz : ∀ o, Y.frozen? ⟨bp + 1, o, none⟩ = false := fun _ => free_at HC.out
  have xl := hp_lt HC.out
  go_wp2
  have HX2 : Hid (Ext Y (Y.alloc (.cells #[.int .i64 5, .int .i64 b, .int .i64 c] 25))) := Lib.hid (ext_alloc _ (ext_refl Y))
  have HD : Hid ((Y.alloc (.cells #[.int .i64 5, .int .i64 b, .int .i64 c] 25)).heap[Y.heap.size]? = some (.cells #[.int .i64 5, .int .i64 b, .int .i64 c] 25 (0, 0))) := Lib.hid (hp_at _ _ _ rfl)
  obtain ⟨bz, hbz⟩ : ∃ bz, bz = Y.heap.size := ⟨_, rfl⟩
  rw [← hbz] at HD ⊢
  clear hbz
  generalize Y.alloc (.cells #[.int .i64 5, .int .i64 b, .int .i64 c] 25) = Z at HX2 HD ⊢
  have HB2 := Lib.hid ((HX2.out.block bp pl).trans HB.out)
  have HC2 := Lib.hid ((HX2.out.block (bp + 1) xl).trans HC.out)
  clear p0 p1 p2 p3 p4 p5 pz pl x0 x1 x2 xz xl
  obtain ⟨p0, p1, p2, p3, p4, p5, pz, pl⟩ := six_at HB2.out
  have x0 := cell_at (o := 0) HC2.out rfl
  have x1 := cell_at (o := 1) HC2.out rfl
  have x2 := cell_at (o := 2) HC2.out rfl
  have xl := hp_lt HC2.out
  have z0 := cell_at (o := 0) HD.out rfl
  have z1 := cell_at (o := 1) HD.out rfl
  have z2 := cell_at (o := 2) HD.out rfl
  have zl := hp_lt HD.out
  have HT2 := Lib.hid (HT.out.ext HX2.out)
  refine wp_region_over (by kernel_rfl) (by kernel_rfl) ?_
  repeat (go_big_quiet_step (first
    | (go_at_call 11; exact over_call (formed_any p _ true (hid_yes K.out)))
    | (go_at_call 12; exact over_call (size_any p _))
    | (go_at_call 13; exact over_call (cellsF_any p _))
    | (go_at_call 17; exact over_call (rcells_any p _))
    | (go_at_call 14; exact over_call (told_at p 5 b c _ m HM))
    | (go_at_call 18; exact over_call (at_at l 5 b c _ _ m HA (HT2.out.ext (over_below _ _)) (by omega)))))
  refine wpQuiet_nil ?_
  intro _ hw'
  obtain ⟨s5, hw''⟩ := hw'
  subst hw''
  go_wp2
  go_ret
  exact Ret.mk (ext_over s5 (ext_trans HXY.out HX2.out))

set_option maxRecDepth 8000 in
set_option maxHeartbeats 2000000 in
theorem places_yes6 (b c : Int) (hf : p.few) (hk : p.ok) : Calls Try.prog 3 #[plV p, .agg #[.int .i64 6, .int .i64 b, .int .i64 c]] w (Ret (.bool true) w) := by
  have F := Lib.hid hf
  have K := Lib.hid hk
  clear hf hk
  go_enter Try.func3, Try.ntmps3
  go_wp2_with (first
    | (go_at_call 8; refine (awake_any _).mono ?_; rintro e w' hr'; obtain ⟨rfl, s, rfl⟩ := hr'.over; clear hr')
    | (go_at_call 9; refine (few_any p _ true (hid_yes F.out)).mono ?_; rintro e w' hr'; obtain ⟨rfl, s1, rfl⟩ := hr'.over; clear hr')
    | (go_at_call 10; refine (rformed_any p _ true (hid_yes K.out)).mono ?_; rintro e w' hr'; obtain ⟨rfl, s2, rfl⟩ := hr'.over; clear hr')
    | (go_at_call 16; refine Hid.out ?_))
  refine Lib.hid ?_
  refine (words_any p _ K.out).mono ?_
  rintro e Y ⟨v, l, rfl, hx, hT, hL, hG⟩
  have HXY : Hid (Ext w Y) := Lib.hid (ext_trans (by repeat (first | exact ext_refl _ | apply ext_over | apply ext_alloc)) hx)
  obtain ⟨bp, hbp⟩ : ∃ bp, bp = w.heap.size := ⟨_, rfl⟩
  have HB : Hid (Y.heap[bp]? = some (.cells #[.int .i64 p.n, .int .i64 p.t, .int .i64 p.r, .int .i64 p.d, .int .i64 p.b, .int .i64 p.g] 23 (0, 0))) := Lib.hid (by subst hbp; rw [hx.block _ (Nat.lt_of_lt_of_le (by simp; omega) (over_size ((w.alloc (.cells #[.int .i64 p.n, .int .i64 p.t, .int .i64 p.r, .int .i64 p.d, .int .i64 p.b, .int .i64 p.g] 23)).alloc (.cells #[.int .i64 6, .int .i64 b, .int .i64 c] 25)) _)), (over_below _ _).block _ (by simp; omega), Below.heap_alloc _ _ _ (by simp)]; exact hp_at _ _ _ rfl)
  have HC : Hid (Y.heap[bp + 1]? = some (.cells #[.int .i64 6, .int .i64 b, .int .i64 c] 25 (0, 0))) := Lib.hid (by subst hbp; rw [hx.block _ (Nat.lt_of_lt_of_le (by simp) (over_size ((w.alloc (.cells #[.int .i64 p.n, .int .i64 p.t, .int .i64 p.r, .int .i64 p.d, .int .i64 p.b, .int .i64 p.g] 23)).alloc (.cells #[.int .i64 6, .int .i64 b, .int .i64 c] 25)) _)), (over_below _ _).block _ (by simp)]; exact hp_at _ _ _ (by simp))
  simp only [← hbp]
  clear hbp hx
  obtain ⟨m, hm⟩ : ∃ m, p.toldF ⟨6, b, c⟩ = m := ⟨_, rfl⟩
  have HM := Lib.hid hm
  have HA : Hid (AtSpec l ⟨6, b, 0⟩ m) := Lib.hid (by rw [← hm]; exact at_told K.out hL hG (x := ⟨6, b, 0⟩) (by unfold Wd; dsimp only; omega))
  have HT := Lib.hid hT
  have e1 := hL.symm
  have e2 : p.cellsF = p.c := (by unfold Pl.cellsF; rw [if_pos K.out])
  have hlen : (l.length : Int) ≤ 5275777 := (by rw [hL]; unfold Pl.sizeF; rw [if_pos K.out]; exact (Pl.nod_in K.out (x := p.n) (by have := K.out; unfold Pl.ok at this; omega) (Int.le_refl _)).2)
  clear hL hG hm
  obtain ⟨a0, cap, rfl, hcap, _⟩ := hT
  obtain ⟨p0, p1, p2, p3, p4, p5, pz, pl⟩ := six_at HB.out
  have x0 := cell_at (o := 0) HC.out rfl
  have x1 := cell_at (o := 1) HC.out rfl
  have x2 := cell_at (o := 2) HC.out rfl
  have xz : ∀ o, Y.frozen? ⟨bp + 1, o, none⟩ = false := fun _ => free_at HC.out
  have xl := hp_lt HC.out
  go_wp2
  have HX2 : Hid (Ext Y (Y.alloc (.cells #[.int .i64 6, .int .i64 b, .int .i64 0] 25))) := Lib.hid (ext_alloc _ (ext_refl Y))
  have HD : Hid ((Y.alloc (.cells #[.int .i64 6, .int .i64 b, .int .i64 0] 25)).heap[Y.heap.size]? = some (.cells #[.int .i64 6, .int .i64 b, .int .i64 0] 25 (0, 0))) := Lib.hid (hp_at _ _ _ rfl)
  obtain ⟨bz, hbz⟩ : ∃ bz, bz = Y.heap.size := ⟨_, rfl⟩
  rw [← hbz] at HD ⊢
  clear hbz
  generalize Y.alloc (.cells #[.int .i64 6, .int .i64 b, .int .i64 0] 25) = Z at HX2 HD ⊢
  have HB2 := Lib.hid ((HX2.out.block bp pl).trans HB.out)
  have HC2 := Lib.hid ((HX2.out.block (bp + 1) xl).trans HC.out)
  clear p0 p1 p2 p3 p4 p5 pz pl x0 x1 x2 xz xl
  obtain ⟨p0, p1, p2, p3, p4, p5, pz, pl⟩ := six_at HB2.out
  have x0 := cell_at (o := 0) HC2.out rfl
  have x1 := cell_at (o := 1) HC2.out rfl
  have x2 := cell_at (o := 2) HC2.out rfl
  have xl := hp_lt HC2.out
  have z0 := cell_at (o := 0) HD.out rfl
  have z1 := cell_at (o := 1) HD.out rfl
  have z2 := cell_at (o := 2) HD.out rfl
  have zl := hp_lt HD.out
  have HT2 := Lib.hid (HT.out.ext HX2.out)
  refine wp_region_over (by kernel_rfl) (by kernel_rfl) ?_
  repeat (go_big_quiet_step (first
    | (go_at_call 11; exact over_call (formed_any p _ true (hid_yes K.out)))
    | (go_at_call 12; exact over_call (size_any p _))
    | (go_at_call 13; exact over_call (cellsF_any p _))
    | (go_at_call 17; exact over_call (rcells_any p _))
    | (go_at_call 14; exact over_call (told_at p 6 b c _ m HM))
    | (go_at_call 18; exact over_call (at_at l 6 b 0 _ _ m HA (HT2.out.ext (over_below _ _)) (by omega)))))
  refine wpQuiet_nil ?_
  intro _ hw'
  obtain ⟨s5, hw''⟩ := hw'
  subst hw''
  go_wp2
  go_ret
  exact Ret.mk (ext_over s5 (ext_trans HXY.out HX2.out))

set_option maxRecDepth 8000 in
set_option maxHeartbeats 2000000 in
theorem places_yes7 (b c : Int) (hf : p.few) (hk : p.ok) : Calls Try.prog 3 #[plV p, .agg #[.int .i64 7, .int .i64 b, .int .i64 c]] w (Ret (.bool true) w) := by
  have F := Lib.hid hf
  have K := Lib.hid hk
  clear hf hk
  go_enter Try.func3, Try.ntmps3
  go_wp2_with (first
    | (go_at_call 8; refine (awake_any _).mono ?_; rintro e w' hr'; obtain ⟨rfl, s, rfl⟩ := hr'.over; clear hr')
    | (go_at_call 9; refine (few_any p _ true (hid_yes F.out)).mono ?_; rintro e w' hr'; obtain ⟨rfl, s1, rfl⟩ := hr'.over; clear hr')
    | (go_at_call 10; refine (rformed_any p _ true (hid_yes K.out)).mono ?_; rintro e w' hr'; obtain ⟨rfl, s2, rfl⟩ := hr'.over; clear hr')
    | (go_at_call 16; refine Hid.out ?_))
  refine Lib.hid ?_
  refine (words_any p _ K.out).mono ?_
  rintro e Y ⟨v, l, rfl, hx, hT, hL, hG⟩
  have HXY : Hid (Ext w Y) := Lib.hid (ext_trans (by repeat (first | exact ext_refl _ | apply ext_over | apply ext_alloc)) hx)
  obtain ⟨bp, hbp⟩ : ∃ bp, bp = w.heap.size := ⟨_, rfl⟩
  have HB : Hid (Y.heap[bp]? = some (.cells #[.int .i64 p.n, .int .i64 p.t, .int .i64 p.r, .int .i64 p.d, .int .i64 p.b, .int .i64 p.g] 23 (0, 0))) := Lib.hid (by subst hbp; rw [hx.block _ (Nat.lt_of_lt_of_le (by simp; omega) (over_size ((w.alloc (.cells #[.int .i64 p.n, .int .i64 p.t, .int .i64 p.r, .int .i64 p.d, .int .i64 p.b, .int .i64 p.g] 23)).alloc (.cells #[.int .i64 7, .int .i64 b, .int .i64 c] 25)) _)), (over_below _ _).block _ (by simp; omega), Below.heap_alloc _ _ _ (by simp)]; exact hp_at _ _ _ rfl)
  have HC : Hid (Y.heap[bp + 1]? = some (.cells #[.int .i64 7, .int .i64 b, .int .i64 c] 25 (0, 0))) := Lib.hid (by subst hbp; rw [hx.block _ (Nat.lt_of_lt_of_le (by simp) (over_size ((w.alloc (.cells #[.int .i64 p.n, .int .i64 p.t, .int .i64 p.r, .int .i64 p.d, .int .i64 p.b, .int .i64 p.g] 23)).alloc (.cells #[.int .i64 7, .int .i64 b, .int .i64 c] 25)) _)), (over_below _ _).block _ (by simp)]; exact hp_at _ _ _ (by simp))
  simp only [← hbp]
  clear hbp hx
  obtain ⟨m, hm⟩ : ∃ m, p.toldF ⟨7, b, c⟩ = m := ⟨_, rfl⟩
  have HM := Lib.hid hm
  have HA : Hid (AtSpec l ⟨7, b, 0⟩ m) := Lib.hid (by rw [← hm]; exact at_told K.out hL hG (x := ⟨7, b, 0⟩) (by unfold Wd; dsimp only; omega))
  have HT := Lib.hid hT
  have e1 := hL.symm
  have e2 : p.cellsF = p.c := (by unfold Pl.cellsF; rw [if_pos K.out])
  have hlen : (l.length : Int) ≤ 5275777 := (by rw [hL]; unfold Pl.sizeF; rw [if_pos K.out]; exact (Pl.nod_in K.out (x := p.n) (by have := K.out; unfold Pl.ok at this; omega) (Int.le_refl _)).2)
  clear hL hG hm
  obtain ⟨a0, cap, rfl, hcap, _⟩ := hT
  obtain ⟨p0, p1, p2, p3, p4, p5, pz, pl⟩ := six_at HB.out
  have x0 := cell_at (o := 0) HC.out rfl
  have x1 := cell_at (o := 1) HC.out rfl
  have x2 := cell_at (o := 2) HC.out rfl
  have xz : ∀ o, Y.frozen? ⟨bp + 1, o, none⟩ = false := fun _ => free_at HC.out
  have xl := hp_lt HC.out
  go_wp2
  have HX2 : Hid (Ext Y (Y.alloc (.cells #[.int .i64 7, .int .i64 b, .int .i64 0] 25))) := Lib.hid (ext_alloc _ (ext_refl Y))
  have HD : Hid ((Y.alloc (.cells #[.int .i64 7, .int .i64 b, .int .i64 0] 25)).heap[Y.heap.size]? = some (.cells #[.int .i64 7, .int .i64 b, .int .i64 0] 25 (0, 0))) := Lib.hid (hp_at _ _ _ rfl)
  obtain ⟨bz, hbz⟩ : ∃ bz, bz = Y.heap.size := ⟨_, rfl⟩
  rw [← hbz] at HD ⊢
  clear hbz
  generalize Y.alloc (.cells #[.int .i64 7, .int .i64 b, .int .i64 0] 25) = Z at HX2 HD ⊢
  have HB2 := Lib.hid ((HX2.out.block bp pl).trans HB.out)
  have HC2 := Lib.hid ((HX2.out.block (bp + 1) xl).trans HC.out)
  clear p0 p1 p2 p3 p4 p5 pz pl x0 x1 x2 xz xl
  obtain ⟨p0, p1, p2, p3, p4, p5, pz, pl⟩ := six_at HB2.out
  have x0 := cell_at (o := 0) HC2.out rfl
  have x1 := cell_at (o := 1) HC2.out rfl
  have x2 := cell_at (o := 2) HC2.out rfl
  have xl := hp_lt HC2.out
  have z0 := cell_at (o := 0) HD.out rfl
  have z1 := cell_at (o := 1) HD.out rfl
  have z2 := cell_at (o := 2) HD.out rfl
  have zl := hp_lt HD.out
  have HT2 := Lib.hid (HT.out.ext HX2.out)
  refine wp_region_over (by kernel_rfl) (by kernel_rfl) ?_
  repeat (go_big_quiet_step (first
    | (go_at_call 11; exact over_call (formed_any p _ true (hid_yes K.out)))
    | (go_at_call 12; exact over_call (size_any p _))
    | (go_at_call 13; exact over_call (cellsF_any p _))
    | (go_at_call 17; exact over_call (rcells_any p _))
    | (go_at_call 14; exact over_call (told_at p 7 b c _ m HM))
    | (go_at_call 18; exact over_call (at_at l 7 b 0 _ _ m HA (HT2.out.ext (over_below _ _)) (by omega)))))
  refine wpQuiet_nil ?_
  intro _ hw'
  obtain ⟨s5, hw''⟩ := hw'
  subst hw''
  go_wp2
  go_ret
  exact Ret.mk (ext_over s5 (ext_trans HXY.out HX2.out))

set_option maxRecDepth 8000 in
set_option maxHeartbeats 2000000 in
theorem places_yes8 (b c : Int) (hf : p.few) (hk : p.ok) : Calls Try.prog 3 #[plV p, .agg #[.int .i64 8, .int .i64 b, .int .i64 c]] w (Ret (.bool true) w) := by
  have F := Lib.hid hf
  have K := Lib.hid hk
  clear hf hk
  go_enter Try.func3, Try.ntmps3
  go_wp2_with (first
    | (go_at_call 8; refine (awake_any _).mono ?_; rintro e w' hr'; obtain ⟨rfl, s, rfl⟩ := hr'.over; clear hr')
    | (go_at_call 9; refine (few_any p _ true (hid_yes F.out)).mono ?_; rintro e w' hr'; obtain ⟨rfl, s1, rfl⟩ := hr'.over; clear hr')
    | (go_at_call 10; refine (rformed_any p _ true (hid_yes K.out)).mono ?_; rintro e w' hr'; obtain ⟨rfl, s2, rfl⟩ := hr'.over; clear hr')
    | (go_at_call 16; refine Hid.out ?_))
  refine Lib.hid ?_
  refine (words_any p _ K.out).mono ?_
  rintro e Y ⟨v, l, rfl, hx, hT, hL, hG⟩
  have HXY : Hid (Ext w Y) := Lib.hid (ext_trans (by repeat (first | exact ext_refl _ | apply ext_over | apply ext_alloc)) hx)
  obtain ⟨bp, hbp⟩ : ∃ bp, bp = w.heap.size := ⟨_, rfl⟩
  have HB : Hid (Y.heap[bp]? = some (.cells #[.int .i64 p.n, .int .i64 p.t, .int .i64 p.r, .int .i64 p.d, .int .i64 p.b, .int .i64 p.g] 23 (0, 0))) := Lib.hid (by subst hbp; rw [hx.block _ (Nat.lt_of_lt_of_le (by simp; omega) (over_size ((w.alloc (.cells #[.int .i64 p.n, .int .i64 p.t, .int .i64 p.r, .int .i64 p.d, .int .i64 p.b, .int .i64 p.g] 23)).alloc (.cells #[.int .i64 8, .int .i64 b, .int .i64 c] 25)) _)), (over_below _ _).block _ (by simp; omega), Below.heap_alloc _ _ _ (by simp)]; exact hp_at _ _ _ rfl)
  have HC : Hid (Y.heap[bp + 1]? = some (.cells #[.int .i64 8, .int .i64 b, .int .i64 c] 25 (0, 0))) := Lib.hid (by subst hbp; rw [hx.block _ (Nat.lt_of_lt_of_le (by simp) (over_size ((w.alloc (.cells #[.int .i64 p.n, .int .i64 p.t, .int .i64 p.r, .int .i64 p.d, .int .i64 p.b, .int .i64 p.g] 23)).alloc (.cells #[.int .i64 8, .int .i64 b, .int .i64 c] 25)) _)), (over_below _ _).block _ (by simp)]; exact hp_at _ _ _ (by simp))
  simp only [← hbp]
  clear hbp hx
  obtain ⟨m, hm⟩ : ∃ m, p.toldF ⟨8, b, c⟩ = m := ⟨_, rfl⟩
  have HM := Lib.hid hm
  have HA : Hid (AtSpec l ⟨8, b, c⟩ m) := Lib.hid (by rw [← hm]; exact at_told K.out hL hG (x := ⟨8, b, c⟩) (by unfold Wd; dsimp only; omega))
  have HT := Lib.hid hT
  have e1 := hL.symm
  have e2 : p.cellsF = p.c := (by unfold Pl.cellsF; rw [if_pos K.out])
  have hlen : (l.length : Int) ≤ 5275777 := (by rw [hL]; unfold Pl.sizeF; rw [if_pos K.out]; exact (Pl.nod_in K.out (x := p.n) (by have := K.out; unfold Pl.ok at this; omega) (Int.le_refl _)).2)
  clear hL hG hm
  obtain ⟨a0, cap, rfl, hcap, _⟩ := hT
  obtain ⟨p0, p1, p2, p3, p4, p5, pz, pl⟩ := six_at HB.out
  have x0 := cell_at (o := 0) HC.out rfl
  have x1 := cell_at (o := 1) HC.out rfl
  have x2 := cell_at (o := 2) HC.out rfl
  have xz : ∀ o, Y.frozen? ⟨bp + 1, o, none⟩ = false := fun _ => free_at HC.out
  have xl := hp_lt HC.out
  go_wp2
  have HX2 : Hid (Ext Y (Y.alloc (.cells #[.int .i64 8, .int .i64 b, .int .i64 c] 25))) := Lib.hid (ext_alloc _ (ext_refl Y))
  have HD : Hid ((Y.alloc (.cells #[.int .i64 8, .int .i64 b, .int .i64 c] 25)).heap[Y.heap.size]? = some (.cells #[.int .i64 8, .int .i64 b, .int .i64 c] 25 (0, 0))) := Lib.hid (hp_at _ _ _ rfl)
  obtain ⟨bz, hbz⟩ : ∃ bz, bz = Y.heap.size := ⟨_, rfl⟩
  rw [← hbz] at HD ⊢
  clear hbz
  generalize Y.alloc (.cells #[.int .i64 8, .int .i64 b, .int .i64 c] 25) = Z at HX2 HD ⊢
  have HB2 := Lib.hid ((HX2.out.block bp pl).trans HB.out)
  have HC2 := Lib.hid ((HX2.out.block (bp + 1) xl).trans HC.out)
  clear p0 p1 p2 p3 p4 p5 pz pl x0 x1 x2 xz xl
  obtain ⟨p0, p1, p2, p3, p4, p5, pz, pl⟩ := six_at HB2.out
  have x0 := cell_at (o := 0) HC2.out rfl
  have x1 := cell_at (o := 1) HC2.out rfl
  have x2 := cell_at (o := 2) HC2.out rfl
  have xl := hp_lt HC2.out
  have z0 := cell_at (o := 0) HD.out rfl
  have z1 := cell_at (o := 1) HD.out rfl
  have z2 := cell_at (o := 2) HD.out rfl
  have zl := hp_lt HD.out
  have HT2 := Lib.hid (HT.out.ext HX2.out)
  refine wp_region_over (by kernel_rfl) (by kernel_rfl) ?_
  repeat (go_big_quiet_step (first
    | (go_at_call 11; exact over_call (formed_any p _ true (hid_yes K.out)))
    | (go_at_call 12; exact over_call (size_any p _))
    | (go_at_call 13; exact over_call (cellsF_any p _))
    | (go_at_call 17; exact over_call (rcells_any p _))
    | (go_at_call 14; exact over_call (told_at p 8 b c _ m HM))
    | (go_at_call 18; exact over_call (at_at l 8 b c _ _ m HA (HT2.out.ext (over_below _ _)) (by omega)))))
  refine wpQuiet_nil ?_
  intro _ hw'
  obtain ⟨s5, hw''⟩ := hw'
  subst hw''
  go_wp2
  go_ret
  exact Ret.mk (ext_over s5 (ext_trans HXY.out HX2.out))

end
theorem planPlaces_any (p : Pl) (x : T3) (w : World) : Calls Try.prog 3 #[plV p, .agg #[.int .i64 x.a, .int .i64 x.b, .int .i64 x.c]] w (Ret (.bool true) w) := by
  by_cases hf : p.few
  · by_cases h0 : x.a < 0
    · exact places_low p w x hf h0
    · by_cases h8 : 8 < x.a
      · exact places_high p w x hf h8
      · by_cases hk : p.ok
        · obtain ⟨a, b, c⟩ := x
          dsimp only at h0 h8 ⊢
          rcases (show a = 0 ∨ a = 1 ∨ a = 2 ∨ a = 3 ∨ a = 4 ∨ a = 5 ∨ a = 6 ∨ a = 7 ∨ a = 8 by omega) with rfl | rfl | rfl | rfl | rfl | rfl | rfl | rfl | rfl
          · exact places_yes0 p w b c hf hk
          · exact places_yes1 p w b c hf hk
          · exact places_yes2 p w b c hf hk
          · exact places_yes3 p w b c hf hk
          · exact places_yes4 p w b c hf hk
          · exact places_yes5 p w b c hf hk
          · exact places_yes6 p w b c hf hk
          · exact places_yes7 p w b c hf hk
          · exact places_yes8 p w b c hf hk
        · exact places_no p w x hf (by omega) (by omega) hk
  · exact places_few p w x hf
end Go.Proofs.Ytdbbbefkahmneaa
