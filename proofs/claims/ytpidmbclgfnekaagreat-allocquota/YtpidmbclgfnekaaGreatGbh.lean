/-
  What the calls of Stash and Retire come to. Conditions: those of each theorem.
-/
import Derived.Test.YtpidmbclgfnekaaGreatGbg
namespace Go.Proofs.YtpidmbclgfnekaaGreat
open Go Go.RowKit

set_option maxRecDepth 8000 in
set_option maxHeartbeats 2000000 in
theorem st1_PT (p : Pl) (t n : Int) (B1 B2 B3 : Nat) (w : World) (hp : p.ok) (hq0 : 0 ≤ n) (hq1 : n < 4611686018427387904) (k1 : PBox B1 p w) (k2 : w.heap[B2]? = some (.cells #[.int .i64 t] 3 (0, 0))) (k3 : w.heap[B3]? = some (.cells #[.int .i64 n] 3 (0, 0))) :
    Calls Tryz.prog 85 #[.pointer (some ⟨B1, 0, none⟩), .pointer (some ⟨B2, 0, none⟩), .pointer (some ⟨B3, 0, none⟩)] w (RetP (PT kI (putT p t n)) noF w) := by
  have qk1 := heap_lt k1
  have ⟨c0, c1, c2, c3, c4, c5, lt⟩ := PBox.plc k1
  have qk2 := heap_lt k2
  have d2_0 := cell_at (o := 0) k2 rfl
  have e2 := cell_lt d2_0
  have qk3 := heap_lt k3
  have d3_0 := cell_at (o := 0) k3 rfl
  have e3 := cell_lt d3_0
  replace k1 := Lib.hid k1
  replace k2 := Lib.hid k2
  replace k3 := Lib.hid k3
  go_enter Tryz.func85, Tryz.ntmps85
  go_wp2_with (go_at_call 86; refine Hid.out ?_)
  refine Lib.hid ?_
  have hE : Ext w (w.alloc (.cells #[.int .i64 0, .int .i64 0, .int .i64 0, .int .u64 0, .int .u64 0, .nilFunc, .pointer none] 62)) := by repeat (first | exact ext_refl _ | apply ext_alloc)
  have hb0 : (w.alloc (.cells #[.int .i64 0, .int .i64 0, .int .i64 0, .int .u64 0, .int .u64 0, .nilFunc, .pointer none] 62)).heap[w.heap.size]? = some (.cells #[.int .i64 0, .int .i64 0, .int .i64 0, .int .u64 0, .int .u64 0, .nilFunc, .pointer none] 62) := heap_at _ _ _ (by simp)
  have hW : (w.alloc (.cells #[.int .i64 0, .int .i64 0, .int .i64 0, .int .u64 0, .int .u64 0, .nilFunc, .pointer none] 62)).heap.size = w.heap.size + 1 := by simp
  generalize (w.alloc (.cells #[.int .i64 0, .int .i64 0, .int .i64 0, .int .u64 0, .int .u64 0, .nilFunc, .pointer none] 62)) = W at hE hb0 hW ⊢
  replace k1 := (hE.block _ (heap_lt k1.out)).trans k1.out
  replace k2 := (hE.block _ (heap_lt k2.out)).trans k2.out
  replace k3 := (hE.block _ (heap_lt k3.out)).trans k3.out
  clear hW
  clear c0 c1 c2 c3 c4 c5 lt d2_0 e2 d3_0 e3
  refine (rput_PT p t n W hp hq0 hq1).mono ?_
  rintro e w' hR
  obtain ⟨v', F', rfl, hX, hp, hbn, hsub, hnF, hbq⟩ := hR.tail (G := noF) (w.heap.size) hE (heap_lt hb0) (fun h => h) (fun _ h => h.elim)
  have hbx := hbq.trans hb0
  clear hbq hR
  clear hE hb0 k1 k2 k3
  obtain ⟨y, a2, fn2, rfl, hfn⟩ := shI hp
  have hXX := put7_ext (b := w.heap.size) (.int .i64 y) (.int .i64 a2.op) (.int .i64 a2.at_) (.int .u64 (U a2.a)) (.int .u64 (U a2.b)) (fn2) (.pointer none) hX (by omega)
  have hB := put7_block (.int .i64 y) (.int .i64 a2.op) (.int .i64 a2.at_) (.int .u64 (U a2.a)) (.int .u64 (U a2.b)) (fn2) (.pointer none) hbx
  have hP := hp.agr (Agr.of_put7 (b := w.heap.size) (.int .i64 y) (.int .i64 a2.op) (.int .i64 a2.at_) (.int .u64 (U a2.a)) (.int .u64 (U a2.b)) (fn2) (.pointer none) hnF)
  have hS : (put7 (w.heap.size) (.int .i64 y) (.int .i64 a2.op) (.int .i64 a2.at_) (.int .u64 (U a2.a)) (.int .u64 (U a2.b)) (fn2) (.pointer none) w').heap.size = w'.heap.size := put7_size (.int .i64 y) (.int .i64 a2.op) (.int .i64 a2.at_) (.int .u64 (U a2.a)) (.int .u64 (U a2.b)) (fn2) (.pointer none)
  obtain ⟨c0, c1, c2, c3, c4, c5, c6, cz, ll⟩ := sev_of hbx
  rw [put7] at hXX hB hP hS
  have HX := Lib.hid (And.intro hXX (And.intro hB (And.intro hP hS)))
  have HFN := Lib.hid hfn
  have HBN := Lib.hid hbn
  have HSUB := Lib.hid hsub
  clear hXX hB hP hS hX hbx hp hfn hbn hsub hnF
  rcases HFN.out with rfl | ⟨g', caps', rfl⟩
  all_goals
    go_wp2
    clear c0 c1 c2 c3 c4 c5 c6 cz ll
    obtain ⟨hX, hB, hP, hS⟩ := HX.out
    clear HX
    generalize (World.setCell _ (⟨w.heap.size, 6, none⟩ : Addr) _) = Z at hX hB hP hS ⊢
    obtain ⟨c0, c1, c2, c3, c4, c5, c6, cz, ll⟩ := sev_of hB
    exact bodyPost_ret (by simp only [results, Tryz.results85, go_sem]; simp [go_sem, c0, c1, c2, c3, c4, c5, c6]) rfl ⟨_, F', rfl, hX, hP, fun j hj => by rw [hS]; exact HBN.out j hj, HSUB.out⟩
theorem st1_AT (p : Pl) (t n : Int) (B1 B2 B3 : Nat) (w : World) (hp : p.ok) (hq0 : 0 ≤ n) (hq1 : n < 4611686018427387904) (k1 : PBox B1 p w) (k2 : w.heap[B2]? = some (.cells #[.int .i64 t] 3 (0, 0))) (k3 : w.heap[B3]? = some (.cells #[.int .i64 n] 3 (0, 0))) : AT (putT p t n) (fun j => j = B1 ∨ j = B2 ∨ j = B3) (.func (.func 85) #[] #[.pointer (some ⟨B1, 0, none⟩), .pointer (some ⟨B2, 0, none⟩), .pointer (some ⟨B3, 0, none⟩)]) w :=
  ⟨_, _, rfl, enters_of Tryz.func85 (by kernel_rfl) rfl, fun w' ha => (st1_PT p t n B1 B2 B3 w' hp hq0 hq1 ((ha B1 (.inl rfl)).trans k1) ((ha B2 (.inr (.inl rfl))).trans k2) ((ha B3 (.inr (.inr rfl))).trans k3)).mono fun _ _ h => h.mono fun _ h => h.elim⟩
set_option maxRecDepth 8000 in
set_option maxHeartbeats 2000000 in
theorem st2_PT (n r : Int) (B1 : Nat) (w : World)  (k1 : w.heap[B1]? = some (.cells #[.int .i64 n] 3 (0, 0))) :
    Calls Tryz.prog 88 #[.int .i64 r, .pointer (some ⟨B1, 0, none⟩)] w (RetP (PT kI (stash1T n r)) noF w) := by
  by_cases hr : r = -1
  · subst hr
    have eT : stash1T n (-1) = .done (-1) := by unfold stash1T; rw [if_pos rfl]
    rw [eT]
    clear eT
    have qk1 := heap_lt k1
    have d1_0 := cell_at (o := 0) k1 rfl
    have e1 := cell_lt d1_0
    replace k1 := Lib.hid k1
    go_enter Tryz.func88, Tryz.ntmps88
    go_wp2_with (go_at_call 89; refine Hid.out ?_)
    refine Lib.hid ?_
    have hE : Ext w (w.alloc (.cells #[.int .i64 0, .int .i64 0, .int .i64 0, .int .u64 0, .int .u64 0, .nilFunc, .pointer none] 62)) := by repeat (first | exact ext_refl _ | apply ext_alloc)
    have hb0 : (w.alloc (.cells #[.int .i64 0, .int .i64 0, .int .i64 0, .int .u64 0, .int .u64 0, .nilFunc, .pointer none] 62)).heap[w.heap.size]? = some (.cells #[.int .i64 0, .int .i64 0, .int .i64 0, .int .u64 0, .int .u64 0, .nilFunc, .pointer none] 62) := heap_at _ _ _ (by simp)
    have hW : (w.alloc (.cells #[.int .i64 0, .int .i64 0, .int .i64 0, .int .u64 0, .int .u64 0, .nilFunc, .pointer none] 62)).heap.size = w.heap.size + 1 := by simp
    generalize (w.alloc (.cells #[.int .i64 0, .int .i64 0, .int .i64 0, .int .u64 0, .int .u64 0, .nilFunc, .pointer none] 62)) = W at hE hb0 hW ⊢
    replace k1 := (hE.block _ (heap_lt k1.out)).trans k1.out
    clear hW
    clear d1_0 e1
    refine (doneI_PT (-1) W).mono ?_
    rintro e w' hR
    obtain ⟨v', F', rfl, hX, hp, hbn, hsub, hnF, hbq⟩ := hR.tail (G := noF) (w.heap.size) hE (heap_lt hb0) (fun h => h) (fun _ h => h.elim)
    have hbx := hbq.trans hb0
    clear hbq hR
    clear hE hb0 k1
    obtain ⟨y, a2, fn2, rfl, hfn⟩ := shI hp
    have hXX := put7_ext (b := w.heap.size) (.int .i64 y) (.int .i64 a2.op) (.int .i64 a2.at_) (.int .u64 (U a2.a)) (.int .u64 (U a2.b)) (fn2) (.pointer none) hX (by omega)
    have hB := put7_block (.int .i64 y) (.int .i64 a2.op) (.int .i64 a2.at_) (.int .u64 (U a2.a)) (.int .u64 (U a2.b)) (fn2) (.pointer none) hbx
    have hP := hp.agr (Agr.of_put7 (b := w.heap.size) (.int .i64 y) (.int .i64 a2.op) (.int .i64 a2.at_) (.int .u64 (U a2.a)) (.int .u64 (U a2.b)) (fn2) (.pointer none) hnF)
    have hS : (put7 (w.heap.size) (.int .i64 y) (.int .i64 a2.op) (.int .i64 a2.at_) (.int .u64 (U a2.a)) (.int .u64 (U a2.b)) (fn2) (.pointer none) w').heap.size = w'.heap.size := put7_size (.int .i64 y) (.int .i64 a2.op) (.int .i64 a2.at_) (.int .u64 (U a2.a)) (.int .u64 (U a2.b)) (fn2) (.pointer none)
    obtain ⟨c0, c1, c2, c3, c4, c5, c6, cz, ll⟩ := sev_of hbx
    rw [put7] at hXX hB hP hS
    have HX := Lib.hid (And.intro hXX (And.intro hB (And.intro hP hS)))
    have HFN := Lib.hid hfn
    have HBN := Lib.hid hbn
    have HSUB := Lib.hid hsub
    clear hXX hB hP hS hX hbx hp hfn hbn hsub hnF
    rcases HFN.out with rfl | ⟨g', caps', rfl⟩
    all_goals
      go_wp2
      clear c0 c1 c2 c3 c4 c5 c6 cz ll
      obtain ⟨hX, hB, hP, hS⟩ := HX.out
      clear HX
      generalize (World.setCell _ (⟨w.heap.size, 6, none⟩ : Addr) _) = Z at hX hB hP hS ⊢
      obtain ⟨c0, c1, c2, c3, c4, c5, c6, cz, ll⟩ := sev_of hB
      exact bodyPost_ret (by simp only [results, Tryz.results88, go_sem]; simp [go_sem, c0, c1, c2, c3, c4, c5, c6]) rfl ⟨_, F', rfl, hX, hP, fun j hj => by rw [hS]; exact HBN.out j hj, HSUB.out⟩
  · have eT : stash1T n r = .done n := by unfold stash1T; rw [if_neg hr]
    rw [eT]
    clear eT
    have qk1 := heap_lt k1
    have d1_0 := cell_at (o := 0) k1 rfl
    have e1 := cell_lt d1_0
    replace k1 := Lib.hid k1
    go_enter Tryz.func88, Tryz.ntmps88
    go_wp2_with (go_at_call 89; refine Hid.out ?_)
    refine Lib.hid ?_
    have hE : Ext w (w.alloc (.cells #[.int .i64 0, .int .i64 0, .int .i64 0, .int .u64 0, .int .u64 0, .nilFunc, .pointer none] 62)) := by repeat (first | exact ext_refl _ | apply ext_alloc)
    have hb0 : (w.alloc (.cells #[.int .i64 0, .int .i64 0, .int .i64 0, .int .u64 0, .int .u64 0, .nilFunc, .pointer none] 62)).heap[w.heap.size]? = some (.cells #[.int .i64 0, .int .i64 0, .int .i64 0, .int .u64 0, .int .u64 0, .nilFunc, .pointer none] 62) := heap_at _ _ _ (by simp)
    have hW : (w.alloc (.cells #[.int .i64 0, .int .i64 0, .int .i64 0, .int .u64 0, .int .u64 0, .nilFunc, .pointer none] 62)).heap.size = w.heap.size + 1 := by simp
    generalize (w.alloc (.cells #[.int .i64 0, .int .i64 0, .int .i64 0, .int .u64 0, .int .u64 0, .nilFunc, .pointer none] 62)) = W at hE hb0 hW ⊢
    replace k1 := (hE.block _ (heap_lt k1.out)).trans k1.out
    clear hW
    clear d1_0 e1
    refine (doneI_PT n W).mono ?_
    rintro e w' hR
    obtain ⟨v', F', rfl, hX, hp, hbn, hsub, hnF, hbq⟩ := hR.tail (G := noF) (w.heap.size) hE (heap_lt hb0) (fun h => h) (fun _ h => h.elim)
    have hbx := hbq.trans hb0
    clear hbq hR
    clear hE hb0 k1
    obtain ⟨y, a2, fn2, rfl, hfn⟩ := shI hp
    have hXX := put7_ext (b := w.heap.size) (.int .i64 y) (.int .i64 a2.op) (.int .i64 a2.at_) (.int .u64 (U a2.a)) (.int .u64 (U a2.b)) (fn2) (.pointer none) hX (by omega)
    have hB := put7_block (.int .i64 y) (.int .i64 a2.op) (.int .i64 a2.at_) (.int .u64 (U a2.a)) (.int .u64 (U a2.b)) (fn2) (.pointer none) hbx
    have hP := hp.agr (Agr.of_put7 (b := w.heap.size) (.int .i64 y) (.int .i64 a2.op) (.int .i64 a2.at_) (.int .u64 (U a2.a)) (.int .u64 (U a2.b)) (fn2) (.pointer none) hnF)
    have hS : (put7 (w.heap.size) (.int .i64 y) (.int .i64 a2.op) (.int .i64 a2.at_) (.int .u64 (U a2.a)) (.int .u64 (U a2.b)) (fn2) (.pointer none) w').heap.size = w'.heap.size := put7_size (.int .i64 y) (.int .i64 a2.op) (.int .i64 a2.at_) (.int .u64 (U a2.a)) (.int .u64 (U a2.b)) (fn2) (.pointer none)
    obtain ⟨c0, c1, c2, c3, c4, c5, c6, cz, ll⟩ := sev_of hbx
    rw [put7] at hXX hB hP hS
    have HX := Lib.hid (And.intro hXX (And.intro hB (And.intro hP hS)))
    have HFN := Lib.hid hfn
    have HBN := Lib.hid hbn
    have HSUB := Lib.hid hsub
    clear hXX hB hP hS hX hbx hp hfn hbn hsub hnF
    rcases HFN.out with rfl | ⟨g', caps', rfl⟩
    all_goals
      go_wp2
      clear c0 c1 c2 c3 c4 c5 c6 cz ll
      obtain ⟨hX, hB, hP, hS⟩ := HX.out
      clear HX
      generalize (World.setCell _ (⟨w.heap.size, 6, none⟩ : Addr) _) = Z at hX hB hP hS ⊢
      obtain ⟨c0, c1, c2, c3, c4, c5, c6, cz, ll⟩ := sev_of hB
      exact bodyPost_ret (by simp only [results, Tryz.results88, go_sem]; simp [go_sem, c0, c1, c2, c3, c4, c5, c6]) rfl ⟨_, F', rfl, hX, hP, fun j hj => by rw [hS]; exact HBN.out j hj, HSUB.out⟩
theorem st2_CT (n : Int) (B1 : Nat) (w : World)  (k1 : w.heap[B1]? = some (.cells #[.int .i64 n] 3 (0, 0))) :
    CT kI kI (fun r => stash1T n r) (fun j => j = B1) (.func (.func 88) #[] #[.pointer (some ⟨B1, 0, none⟩)]) w := by
  refine ⟨_, _, rfl, enters_of Tryz.func88 (by kernel_rfl) rfl, fun r w' ha => ?_⟩
  exact (st2_PT n r B1 w'  ((ha B1 (rfl)).trans k1)).mono fun _ _ h => h.mono fun j h => h.elim
set_option maxRecDepth 8000 in
set_option maxHeartbeats 2000000 in
theorem stash_PT (p : Pl) (t n : Int) (N : Nat) (w : World) (hp : p.ok) (hq0 : 0 ≤ n) (hq1 : n < 4611686018427387904)  :
    Calls Tryz.prog 32 #[plV p, .int .i64 t, .int .i64 n] w (RetP (PT kI (stashT p t n N)) noF w) := by
  go_enter Tryz.func32, Tryz.ntmps32
  go_wp2_with (go_at_call 45; refine Hid.out ?_)
  refine Lib.hid ?_
  have hE : Ext w ((((w.alloc (.cells #[.int .i64 p.n, .int .i64 p.t, .int .i64 p.r, .int .i64 p.d, .int .i64 p.b, .int .i64 p.g] 23)).alloc (.cells #[.int .i64 t] 3)).alloc (.cells #[.int .i64 n] 3)).alloc (.cells #[.int .i64 0, .int .i64 0, .int .i64 0, .int .u64 0, .int .u64 0, .nilFunc, .pointer none] 62)) := by repeat (first | exact ext_refl _ | apply ext_alloc)
  have hb0 : ((((w.alloc (.cells #[.int .i64 p.n, .int .i64 p.t, .int .i64 p.r, .int .i64 p.d, .int .i64 p.b, .int .i64 p.g] 23)).alloc (.cells #[.int .i64 t] 3)).alloc (.cells #[.int .i64 n] 3)).alloc (.cells #[.int .i64 0, .int .i64 0, .int .i64 0, .int .u64 0, .int .u64 0, .nilFunc, .pointer none] 62)).heap[w.heap.size]? = some (.cells #[.int .i64 p.n, .int .i64 p.t, .int .i64 p.r, .int .i64 p.d, .int .i64 p.b, .int .i64 p.g] 23) := (Below.heap_alloc _ _ _ (by simp <;> omega)).trans ((Below.heap_alloc _ _ _ (by simp <;> omega)).trans ((Below.heap_alloc _ _ _ (by simp <;> omega)).trans (heap_at _ _ _ (by simp))))
  have hb1 : ((((w.alloc (.cells #[.int .i64 p.n, .int .i64 p.t, .int .i64 p.r, .int .i64 p.d, .int .i64 p.b, .int .i64 p.g] 23)).alloc (.cells #[.int .i64 t] 3)).alloc (.cells #[.int .i64 n] 3)).alloc (.cells #[.int .i64 0, .int .i64 0, .int .i64 0, .int .u64 0, .int .u64 0, .nilFunc, .pointer none] 62)).heap[w.heap.size + 1]? = some (.cells #[.int .i64 t] 3) := (Below.heap_alloc _ _ _ (by simp <;> omega)).trans ((Below.heap_alloc _ _ _ (by simp <;> omega)).trans (heap_at _ _ _ (by simp)))
  have hb2 : ((((w.alloc (.cells #[.int .i64 p.n, .int .i64 p.t, .int .i64 p.r, .int .i64 p.d, .int .i64 p.b, .int .i64 p.g] 23)).alloc (.cells #[.int .i64 t] 3)).alloc (.cells #[.int .i64 n] 3)).alloc (.cells #[.int .i64 0, .int .i64 0, .int .i64 0, .int .u64 0, .int .u64 0, .nilFunc, .pointer none] 62)).heap[w.heap.size + 1 + 1]? = some (.cells #[.int .i64 n] 3) := (Below.heap_alloc _ _ _ (by simp <;> omega)).trans (heap_at _ _ _ (by simp))
  have hb3 : ((((w.alloc (.cells #[.int .i64 p.n, .int .i64 p.t, .int .i64 p.r, .int .i64 p.d, .int .i64 p.b, .int .i64 p.g] 23)).alloc (.cells #[.int .i64 t] 3)).alloc (.cells #[.int .i64 n] 3)).alloc (.cells #[.int .i64 0, .int .i64 0, .int .i64 0, .int .u64 0, .int .u64 0, .nilFunc, .pointer none] 62)).heap[w.heap.size + 1 + 1 + 1]? = some (.cells #[.int .i64 0, .int .i64 0, .int .i64 0, .int .u64 0, .int .u64 0, .nilFunc, .pointer none] 62) := heap_at _ _ _ (by simp)
  have hW : ((((w.alloc (.cells #[.int .i64 p.n, .int .i64 p.t, .int .i64 p.r, .int .i64 p.d, .int .i64 p.b, .int .i64 p.g] 23)).alloc (.cells #[.int .i64 t] 3)).alloc (.cells #[.int .i64 n] 3)).alloc (.cells #[.int .i64 0, .int .i64 0, .int .i64 0, .int .u64 0, .int .u64 0, .nilFunc, .pointer none] 62)).heap.size = w.heap.size + 1 + 1 + 1 + 1 := by simp
  generalize ((((w.alloc (.cells #[.int .i64 p.n, .int .i64 p.t, .int .i64 p.r, .int .i64 p.d, .int .i64 p.b, .int .i64 p.g] 23)).alloc (.cells #[.int .i64 t] 3)).alloc (.cells #[.int .i64 n] 3)).alloc (.cells #[.int .i64 0, .int .i64 0, .int .i64 0, .int .u64 0, .int .u64 0, .nilFunc, .pointer none] 62)) = W at hE hb0 hb1 hb2 hb3 hW ⊢
  clear hW
  have hAT := st1_AT p t n w.heap.size (w.heap.size + 1) (w.heap.size + 1 + 1) W hp hq0 hq1 hb0 hb1 hb2
  refine (twc_PT p t N (putT p t n) _ _ _ W hAT hp (fun j h => by rcases h with rfl | rfl | rfl; exact heap_lt hb0; exact heap_lt hb1; exact heap_lt hb2)).mono ?_
  rintro e w1 ⟨v1, F1, rfl, hx, hp1, hbn1, hsub⟩
  have hn1 : ¬ F1 (w.heap.size + 1 + 1 + 1) := fun h => (hsub _ h).elim (fun h => by rcases h with h | h | h; omega; omega; omega) fun h => by have := heap_lt hb3; omega
  have hs1 : ∀ j, F1 j → (fun j => j = w.heap.size ∨ j = w.heap.size + 1 ∨ j = w.heap.size + 1 + 1) j ∨ w.heap.size ≤ j := fun j hj => (hsub j hj).elim .inl fun h => .inr (Nat.le_trans hE.size h)
  replace hE := ext_trans hE hx
  replace hb0 := (hx.block _ (heap_lt hb0)).trans hb0
  replace hb1 := (hx.block _ (heap_lt hb1)).trans hb1
  replace hb2 := (hx.block _ (heap_lt hb2)).trans hb2
  replace hb3 := (hx.block _ (heap_lt hb3)).trans hb3
  clear hx hsub
  clear hAT
  replace hE := Lib.hid hE
  replace hb0 := Lib.hid hb0
  replace hb1 := Lib.hid hb1
  replace hb2 := Lib.hid hb2
  replace hb3 := Lib.hid hb3
  replace hp1 := Lib.hid hp1
  replace hbn1 := Lib.hid hbn1
  replace hs1 := Lib.hid hs1
  replace hn1 := Lib.hid hn1
  go_wp2_with (go_at_call 87; refine Hid.out ?_)
  refine Lib.hid ?_
  replace hE := hE.out
  replace hb0 := hb0.out
  replace hb1 := hb1.out
  replace hb2 := hb2.out
  replace hb3 := hb3.out
  replace hp1 := hp1.out
  replace hbn1 := hbn1.out
  replace hs1 := hs1.out
  replace hn1 := hn1.out
  have hCT := st2_CT n (w.heap.size + 1 + 1) w1 hb2
  refine (then_II _ _ F1 _ v1 _ w1 hp1 hCT hbn1 (fun j h => by subst h; exact heap_lt hb2)).mono ?_
  rintro e w' hR
  obtain ⟨v', F', rfl, hX, hp, hbn, hsub, hnF, hbq⟩ := hR.tail (G := noF) (w.heap.size + 1 + 1 + 1) hE (heap_lt hb3) (fun h => by rcases h with h | h; exact hn1 h; omega) (fun j h => by rcases h with h | h; exact (hs1 j h).elim (fun h => .inr (by omega)) .inr; exact .inr (by omega))
  have hbx := hbq.trans hb3
  clear hbq hR
  clear hE hb0 hb1 hb2 hb3 hp1 hbn1 hs1 hn1 hCT
  obtain ⟨y, a2, fn2, rfl, hfn⟩ := shI hp
  have hXX := put7_ext (b := w.heap.size + 1 + 1 + 1) (.int .i64 y) (.int .i64 a2.op) (.int .i64 a2.at_) (.int .u64 (U a2.a)) (.int .u64 (U a2.b)) (fn2) (.pointer none) hX (by omega)
  have hB := put7_block (.int .i64 y) (.int .i64 a2.op) (.int .i64 a2.at_) (.int .u64 (U a2.a)) (.int .u64 (U a2.b)) (fn2) (.pointer none) hbx
  have hP := hp.agr (Agr.of_put7 (b := w.heap.size + 1 + 1 + 1) (.int .i64 y) (.int .i64 a2.op) (.int .i64 a2.at_) (.int .u64 (U a2.a)) (.int .u64 (U a2.b)) (fn2) (.pointer none) hnF)
  have hS : (put7 (w.heap.size + 1 + 1 + 1) (.int .i64 y) (.int .i64 a2.op) (.int .i64 a2.at_) (.int .u64 (U a2.a)) (.int .u64 (U a2.b)) (fn2) (.pointer none) w').heap.size = w'.heap.size := put7_size (.int .i64 y) (.int .i64 a2.op) (.int .i64 a2.at_) (.int .u64 (U a2.a)) (.int .u64 (U a2.b)) (fn2) (.pointer none)
  obtain ⟨c0, c1, c2, c3, c4, c5, c6, cz, ll⟩ := sev_of hbx
  rw [put7] at hXX hB hP hS
  have HX := Lib.hid (And.intro hXX (And.intro hB (And.intro hP hS)))
  have HFN := Lib.hid hfn
  have HBN := Lib.hid hbn
  have HSUB := Lib.hid hsub
  clear hXX hB hP hS hX hbx hp hfn hbn hsub hnF
  rcases HFN.out with rfl | ⟨g', caps', rfl⟩
  all_goals
    go_wp2
    clear c0 c1 c2 c3 c4 c5 c6 cz ll
    obtain ⟨hX, hB, hP, hS⟩ := HX.out
    clear HX
    generalize (World.setCell _ (⟨w.heap.size + 1 + 1 + 1, 6, none⟩ : Addr) _) = Z at hX hB hP hS ⊢
    obtain ⟨c0, c1, c2, c3, c4, c5, c6, cz, ll⟩ := sev_of hB
    exact bodyPost_ret (by simp only [results, Tryz.results32, go_sem]; simp [go_sem, c0, c1, c2, c3, c4, c5, c6]) rfl ⟨_, F', rfl, hX, hP, fun j hj => by rw [hS]; exact HBN.out j hj, HSUB.out⟩
set_option maxRecDepth 8000 in
set_option maxHeartbeats 2000000 in
theorem rt1_PT (p : Pl) (t n : Int) (N : Nat) (s : St) (B1 B2 B3 : Nat) (w : World) (hp : p.ok) (hq0 : 0 ≤ n) (hq1 : n < 4611686018427387904) (k1 : PBox B1 p w) (k2 : w.heap[B2]? = some (.cells #[.int .i64 t] 3 (0, 0))) (k3 : w.heap[B3]? = some (.cells #[.int .i64 n] 3 (0, 0))) :
    Calls Tryz.prog 65 #[stV s, .pointer (some ⟨B1, 0, none⟩), .pointer (some ⟨B2, 0, none⟩), .pointer (some ⟨B3, 0, none⟩)] w (RetP (PT kI (stashT p t n N)) noF w) := by
  obtain ⟨g0, m0, j0⟩ := s
  show Calls Tryz.prog 65 #[.agg #[.int .i64 g0, .int .i64 m0, .int .i64 j0], .pointer (some ⟨B1, 0, none⟩), .pointer (some ⟨B2, 0, none⟩), .pointer (some ⟨B3, 0, none⟩)] w (RetP (PT kI (stashT p t n N)) noF w)
  have qk1 := heap_lt k1
  have ⟨c0, c1, c2, c3, c4, c5, lt⟩ := PBox.plc k1
  have qk2 := heap_lt k2
  have d2_0 := cell_at (o := 0) k2 rfl
  have e2 := cell_lt d2_0
  have qk3 := heap_lt k3
  have d3_0 := cell_at (o := 0) k3 rfl
  have e3 := cell_lt d3_0
  replace k1 := Lib.hid k1
  replace k2 := Lib.hid k2
  replace k3 := Lib.hid k3
  go_enter Tryz.func65, Tryz.ntmps65
  go_wp2_with (go_at_call 32; refine Hid.out ?_)
  refine Lib.hid ?_
  have hE : Ext w ((w.alloc (.cells #[.int .i64 g0, .int .i64 m0, .int .i64 j0] 56)).alloc (.cells #[.int .i64 0, .int .i64 0, .int .i64 0, .int .u64 0, .int .u64 0, .nilFunc, .pointer none] 62)) := by repeat (first | exact ext_refl _ | apply ext_alloc)
  have hb0 : ((w.alloc (.cells #[.int .i64 g0, .int .i64 m0, .int .i64 j0] 56)).alloc (.cells #[.int .i64 0, .int .i64 0, .int .i64 0, .int .u64 0, .int .u64 0, .nilFunc, .pointer none] 62)).heap[w.heap.size]? = some (.cells #[.int .i64 g0, .int .i64 m0, .int .i64 j0] 56) := (Below.heap_alloc _ _ _ (by simp <;> omega)).trans (heap_at _ _ _ (by simp))
  have hb1 : ((w.alloc (.cells #[.int .i64 g0, .int .i64 m0, .int .i64 j0] 56)).alloc (.cells #[.int .i64 0, .int .i64 0, .int .i64 0, .int .u64 0, .int .u64 0, .nilFunc, .pointer none] 62)).heap[w.heap.size + 1]? = some (.cells #[.int .i64 0, .int .i64 0, .int .i64 0, .int .u64 0, .int .u64 0, .nilFunc, .pointer none] 62) := heap_at _ _ _ (by simp)
  have hW : ((w.alloc (.cells #[.int .i64 g0, .int .i64 m0, .int .i64 j0] 56)).alloc (.cells #[.int .i64 0, .int .i64 0, .int .i64 0, .int .u64 0, .int .u64 0, .nilFunc, .pointer none] 62)).heap.size = w.heap.size + 1 + 1 := by simp
  generalize ((w.alloc (.cells #[.int .i64 g0, .int .i64 m0, .int .i64 j0] 56)).alloc (.cells #[.int .i64 0, .int .i64 0, .int .i64 0, .int .u64 0, .int .u64 0, .nilFunc, .pointer none] 62)) = W at hE hb0 hb1 hW ⊢
  replace k1 := (hE.block _ (heap_lt k1.out)).trans k1.out
  replace k2 := (hE.block _ (heap_lt k2.out)).trans k2.out
  replace k3 := (hE.block _ (heap_lt k3.out)).trans k3.out
  clear hW
  clear c0 c1 c2 c3 c4 c5 lt d2_0 e2 d3_0 e3
  refine (stash_PT p t n N W hp hq0 hq1).mono ?_
  rintro e w' hR
  obtain ⟨v', F', rfl, hX, hp, hbn, hsub, hnF, hbq⟩ := hR.tail (G := noF) (w.heap.size + 1) hE (heap_lt hb1) (fun h => h) (fun _ h => h.elim)
  have hbx := hbq.trans hb1
  clear hbq hR
  clear hE hb0 hb1 k1 k2 k3
  obtain ⟨y, a2, fn2, rfl, hfn⟩ := shI hp
  have hXX := put7_ext (b := w.heap.size + 1) (.int .i64 y) (.int .i64 a2.op) (.int .i64 a2.at_) (.int .u64 (U a2.a)) (.int .u64 (U a2.b)) (fn2) (.pointer none) hX (by omega)
  have hB := put7_block (.int .i64 y) (.int .i64 a2.op) (.int .i64 a2.at_) (.int .u64 (U a2.a)) (.int .u64 (U a2.b)) (fn2) (.pointer none) hbx
  have hP := hp.agr (Agr.of_put7 (b := w.heap.size + 1) (.int .i64 y) (.int .i64 a2.op) (.int .i64 a2.at_) (.int .u64 (U a2.a)) (.int .u64 (U a2.b)) (fn2) (.pointer none) hnF)
  have hS : (put7 (w.heap.size + 1) (.int .i64 y) (.int .i64 a2.op) (.int .i64 a2.at_) (.int .u64 (U a2.a)) (.int .u64 (U a2.b)) (fn2) (.pointer none) w').heap.size = w'.heap.size := put7_size (.int .i64 y) (.int .i64 a2.op) (.int .i64 a2.at_) (.int .u64 (U a2.a)) (.int .u64 (U a2.b)) (fn2) (.pointer none)
  obtain ⟨c0, c1, c2, c3, c4, c5, c6, cz, ll⟩ := sev_of hbx
  rw [put7] at hXX hB hP hS
  have HX := Lib.hid (And.intro hXX (And.intro hB (And.intro hP hS)))
  have HFN := Lib.hid hfn
  have HBN := Lib.hid hbn
  have HSUB := Lib.hid hsub
  clear hXX hB hP hS hX hbx hp hfn hbn hsub hnF
  rcases HFN.out with rfl | ⟨g', caps', rfl⟩
  all_goals
    go_wp2
    clear c0 c1 c2 c3 c4 c5 c6 cz ll
    obtain ⟨hX, hB, hP, hS⟩ := HX.out
    clear HX
    generalize (World.setCell _ (⟨w.heap.size + 1, 6, none⟩ : Addr) _) = Z at hX hB hP hS ⊢
    obtain ⟨c0, c1, c2, c3, c4, c5, c6, cz, ll⟩ := sev_of hB
    exact bodyPost_ret (by simp only [results, Tryz.results65, go_sem]; simp [go_sem, c0, c1, c2, c3, c4, c5, c6]) rfl ⟨_, F', rfl, hX, hP, fun j hj => by rw [hS]; exact HBN.out j hj, HSUB.out⟩
theorem rt1_CT (p : Pl) (t n : Int) (N : Nat) (B1 B2 B3 : Nat) (w : World) (hp : p.ok) (hq0 : 0 ≤ n) (hq1 : n < 4611686018427387904) (k1 : PBox B1 p w) (k2 : w.heap[B2]? = some (.cells #[.int .i64 t] 3 (0, 0))) (k3 : w.heap[B3]? = some (.cells #[.int .i64 n] 3 (0, 0))) :
    CT kS kI (fun _ => stashT p t n N) (fun j => j = B1 ∨ j = B2 ∨ j = B3) (.func (.func 65) #[] #[.pointer (some ⟨B1, 0, none⟩), .pointer (some ⟨B2, 0, none⟩), .pointer (some ⟨B3, 0, none⟩)]) w := by
  refine ⟨_, _, rfl, enters_of Tryz.func65 (by kernel_rfl) rfl, fun s w' ha => ?_⟩
  exact (rt1_PT p t n N s B1 B2 B3 w' hp hq0 hq1 ((ha B1 (.inl rfl)).trans k1) ((ha B2 (.inr (.inl rfl))).trans k2) ((ha B3 (.inr (.inr rfl))).trans k3)).mono fun _ _ h => h.mono fun j h => h.elim
theorem retS_FS (w : World) : FS retF' noF (.func (.func 64) #[] #[]) w :=
  ⟨_, _, rfl, enters_of Tryz.func64 (by kernel_rfl) rfl, fun s w' _ => retire_any s w'⟩
set_option maxRecDepth 8000 in
set_option maxHeartbeats 2000000 in
theorem aret_PT (p : Pl) (t n : Int) (N : Nat) (w : World) (hp : p.ok) (hq0 : 0 ≤ n) (hq1 : n < 4611686018427387904)  :
    Calls Tryz.prog 20 #[plV p, .int .i64 t, .int .i64 n] w (RetP (PT kI (aretT p t n N)) noF w) := by
  go_enter Tryz.func20, Tryz.ntmps20
  go_wp2_with (go_at_call 50; refine Hid.out ?_)
  refine Lib.hid ?_
  have hE : Ext w ((((w.alloc (.cells #[.int .i64 p.n, .int .i64 p.t, .int .i64 p.r, .int .i64 p.d, .int .i64 p.b, .int .i64 p.g] 23)).alloc (.cells #[.int .i64 t] 3)).alloc (.cells #[.int .i64 n] 3)).alloc (.cells #[.int .i64 0, .int .i64 0, .int .i64 0, .int .u64 0, .int .u64 0, .nilFunc, .pointer none] 62)) := by repeat (first | exact ext_refl _ | apply ext_alloc)
  have hb0 : ((((w.alloc (.cells #[.int .i64 p.n, .int .i64 p.t, .int .i64 p.r, .int .i64 p.d, .int .i64 p.b, .int .i64 p.g] 23)).alloc (.cells #[.int .i64 t] 3)).alloc (.cells #[.int .i64 n] 3)).alloc (.cells #[.int .i64 0, .int .i64 0, .int .i64 0, .int .u64 0, .int .u64 0, .nilFunc, .pointer none] 62)).heap[w.heap.size]? = some (.cells #[.int .i64 p.n, .int .i64 p.t, .int .i64 p.r, .int .i64 p.d, .int .i64 p.b, .int .i64 p.g] 23) := (Below.heap_alloc _ _ _ (by simp <;> omega)).trans ((Below.heap_alloc _ _ _ (by simp <;> omega)).trans ((Below.heap_alloc _ _ _ (by simp <;> omega)).trans (heap_at _ _ _ (by simp))))
  have hb1 : ((((w.alloc (.cells #[.int .i64 p.n, .int .i64 p.t, .int .i64 p.r, .int .i64 p.d, .int .i64 p.b, .int .i64 p.g] 23)).alloc (.cells #[.int .i64 t] 3)).alloc (.cells #[.int .i64 n] 3)).alloc (.cells #[.int .i64 0, .int .i64 0, .int .i64 0, .int .u64 0, .int .u64 0, .nilFunc, .pointer none] 62)).heap[w.heap.size + 1]? = some (.cells #[.int .i64 t] 3) := (Below.heap_alloc _ _ _ (by simp <;> omega)).trans ((Below.heap_alloc _ _ _ (by simp <;> omega)).trans (heap_at _ _ _ (by simp)))
  have hb2 : ((((w.alloc (.cells #[.int .i64 p.n, .int .i64 p.t, .int .i64 p.r, .int .i64 p.d, .int .i64 p.b, .int .i64 p.g] 23)).alloc (.cells #[.int .i64 t] 3)).alloc (.cells #[.int .i64 n] 3)).alloc (.cells #[.int .i64 0, .int .i64 0, .int .i64 0, .int .u64 0, .int .u64 0, .nilFunc, .pointer none] 62)).heap[w.heap.size + 1 + 1]? = some (.cells #[.int .i64 n] 3) := (Below.heap_alloc _ _ _ (by simp <;> omega)).trans (heap_at _ _ _ (by simp))
  have hb3 : ((((w.alloc (.cells #[.int .i64 p.n, .int .i64 p.t, .int .i64 p.r, .int .i64 p.d, .int .i64 p.b, .int .i64 p.g] 23)).alloc (.cells #[.int .i64 t] 3)).alloc (.cells #[.int .i64 n] 3)).alloc (.cells #[.int .i64 0, .int .i64 0, .int .i64 0, .int .u64 0, .int .u64 0, .nilFunc, .pointer none] 62)).heap[w.heap.size + 1 + 1 + 1]? = some (.cells #[.int .i64 0, .int .i64 0, .int .i64 0, .int .u64 0, .int .u64 0, .nilFunc, .pointer none] 62) := heap_at _ _ _ (by simp)
  have hW : ((((w.alloc (.cells #[.int .i64 p.n, .int .i64 p.t, .int .i64 p.r, .int .i64 p.d, .int .i64 p.b, .int .i64 p.g] 23)).alloc (.cells #[.int .i64 t] 3)).alloc (.cells #[.int .i64 n] 3)).alloc (.cells #[.int .i64 0, .int .i64 0, .int .i64 0, .int .u64 0, .int .u64 0, .nilFunc, .pointer none] 62)).heap.size = w.heap.size + 1 + 1 + 1 + 1 := by simp
  generalize ((((w.alloc (.cells #[.int .i64 p.n, .int .i64 p.t, .int .i64 p.r, .int .i64 p.d, .int .i64 p.b, .int .i64 p.g] 23)).alloc (.cells #[.int .i64 t] 3)).alloc (.cells #[.int .i64 n] 3)).alloc (.cells #[.int .i64 0, .int .i64 0, .int .i64 0, .int .u64 0, .int .u64 0, .nilFunc, .pointer none] 62)) = W at hE hb0 hb1 hb2 hb3 hW ⊢
  clear hW
  refine (bec_PT p n retF' _ _ _ W (retS_FS _) (bnd_no _)).mono ?_
  rintro e w1 ⟨v1, F1, rfl, hx, hp1, hbn1, hsub⟩
  have hn1 : ¬ F1 (w.heap.size + 1 + 1 + 1) := fun h => (hsub _ h).elim (fun h => h) fun h => by have := heap_lt hb3; omega
  have hs1 : ∀ j, F1 j → noF j ∨ w.heap.size ≤ j := fun j hj => (hsub j hj).imp_right fun h => Nat.le_trans hE.size h
  replace hE := ext_trans hE hx
  replace hb0 := (hx.block _ (heap_lt hb0)).trans hb0
  replace hb1 := (hx.block _ (heap_lt hb1)).trans hb1
  replace hb2 := (hx.block _ (heap_lt hb2)).trans hb2
  replace hb3 := (hx.block _ (heap_lt hb3)).trans hb3
  clear hx hsub
  replace hE := Lib.hid hE
  replace hb0 := Lib.hid hb0
  replace hb1 := Lib.hid hb1
  replace hb2 := Lib.hid hb2
  replace hb3 := Lib.hid hb3
  replace hp1 := Lib.hid hp1
  replace hbn1 := Lib.hid hbn1
  replace hs1 := Lib.hid hs1
  replace hn1 := Lib.hid hn1
  go_wp2_with (go_at_call 63; refine Hid.out ?_)
  refine Lib.hid ?_
  replace hE := hE.out
  replace hb0 := hb0.out
  replace hb1 := hb1.out
  replace hb2 := hb2.out
  replace hb3 := hb3.out
  replace hp1 := hp1.out
  replace hbn1 := hbn1.out
  replace hs1 := hs1.out
  replace hn1 := hn1.out
  have hCT := rt1_CT p t n N w.heap.size (w.heap.size + 1) (w.heap.size + 1 + 1) w1 hp hq0 hq1 hb0 hb1 hb2
  refine (then_SI _ _ F1 _ v1 _ w1 hp1 hCT hbn1 (fun j h => by rcases h with rfl | rfl | rfl; exact heap_lt hb0; exact heap_lt hb1; exact heap_lt hb2)).mono ?_
  rintro e w' hR
  obtain ⟨v', F', rfl, hX, hp, hbn, hsub, hnF, hbq⟩ := hR.tail (G := noF) (w.heap.size + 1 + 1 + 1) hE (heap_lt hb3) (fun h => by rcases h with h | h | h | h; exact hn1 h; omega; omega; omega) (fun j h => by rcases h with h | h | h | h; exact (hs1 j h).imp_left False.elim; exact .inr (by omega); exact .inr (by omega); exact .inr (by omega))
  have hbx := hbq.trans hb3
  clear hbq hR
  clear hE hb0 hb1 hb2 hb3 hp1 hbn1 hs1 hn1 hCT
  obtain ⟨y, a2, fn2, rfl, hfn⟩ := shI hp
  have hXX := put7_ext (b := w.heap.size + 1 + 1 + 1) (.int .i64 y) (.int .i64 a2.op) (.int .i64 a2.at_) (.int .u64 (U a2.a)) (.int .u64 (U a2.b)) (fn2) (.pointer none) hX (by omega)
  have hB := put7_block (.int .i64 y) (.int .i64 a2.op) (.int .i64 a2.at_) (.int .u64 (U a2.a)) (.int .u64 (U a2.b)) (fn2) (.pointer none) hbx
  have hP := hp.agr (Agr.of_put7 (b := w.heap.size + 1 + 1 + 1) (.int .i64 y) (.int .i64 a2.op) (.int .i64 a2.at_) (.int .u64 (U a2.a)) (.int .u64 (U a2.b)) (fn2) (.pointer none) hnF)
  have hS : (put7 (w.heap.size + 1 + 1 + 1) (.int .i64 y) (.int .i64 a2.op) (.int .i64 a2.at_) (.int .u64 (U a2.a)) (.int .u64 (U a2.b)) (fn2) (.pointer none) w').heap.size = w'.heap.size := put7_size (.int .i64 y) (.int .i64 a2.op) (.int .i64 a2.at_) (.int .u64 (U a2.a)) (.int .u64 (U a2.b)) (fn2) (.pointer none)
  obtain ⟨c0, c1, c2, c3, c4, c5, c6, cz, ll⟩ := sev_of hbx
  rw [put7] at hXX hB hP hS
  have HX := Lib.hid (And.intro hXX (And.intro hB (And.intro hP hS)))
  have HFN := Lib.hid hfn
  have HBN := Lib.hid hbn
  have HSUB := Lib.hid hsub
  clear hXX hB hP hS hX hbx hp hfn hbn hsub hnF
  rcases HFN.out with rfl | ⟨g', caps', rfl⟩
  all_goals
    go_wp2
    clear c0 c1 c2 c3 c4 c5 c6 cz ll
    obtain ⟨hX, hB, hP, hS⟩ := HX.out
    clear HX
    generalize (World.setCell _ (⟨w.heap.size + 1 + 1 + 1, 6, none⟩ : Addr) _) = Z at hX hB hP hS ⊢
    obtain ⟨c0, c1, c2, c3, c4, c5, c6, cz, ll⟩ := sev_of hB
    exact bodyPost_ret (by simp only [results, Tryz.results20, go_sem]; simp [go_sem, c0, c1, c2, c3, c4, c5, c6]) rfl ⟨_, F', rfl, hX, hP, fun j hj => by rw [hS]; exact HBN.out j hj, HSUB.out⟩
end Go.Proofs.YtpidmbclgfnekaaGreat

/-
  Whole runs of Pop, Push and Fresh, in plain numbers. Conditions: a formed plan; fewer swaps than a tag can tell.
-/
namespace Go.Proofs.YtpidmbclgfnekaaGreat
open Go Go.RowKit

/-- What a run leaves to a thread that stands still. -/
def Keeps (p : Pl) (M : MS) (T : Nat) (M' : MS) (T' : Nat) (w : Option Int) : Prop := ∀ s : PS, (∀ n, w = some n → s.node ≠ some n) → Th p M T s → Th p M' T' s
theorem Nxt.keeps {p : Pl} (hp : p.ok) {M : MS} {l : List Int} {T N : Nat} {s : PS} {M' : MS} {l' : List Int} {T' N' : Nat} {s' : PS} (hL : FL p M l T) (h : Nxt p M l T N s M' l' T' N' s') (hs : ∀ n, s.node = some n → n ∉ l) : Keeps p M T M' T' s.node :=
  fun _ hq ht => Th.frame hp hL h.fl h.ef (fun n hn => ⟨hs n hn, hq n hn⟩) ht
theorem Keeps.trans {p : Pl} {M M' M'' : MS} {T T' T'' : Nat} {w : Option Int} (h : Keeps p M T M' T' w) (k : Keeps p M' T' M'' T'' w) : Keeps p M T M'' T'' w := fun s hs ht => k s hs (h s hs ht)

theorem pop_none {p : Pl} (hp : p.ok) {M : MS} {T : Nat} (hL : FL p M [] T) (N k : Nat) :
    ∃ M', runT 0 1#64 (k + 1) (popT p (N + 1)) M = some (M', 1, .done (-1)) ∧ FL p M' [] T ∧ Keeps p M T M' T none := by
  obtain ⟨M', s', h1, h2, _, h4⟩ := go_pl (N := N) hp hL
  have e := h2 rfl
  subst e
  refine ⟨M', ?_, h1.fl, Nxt.keeps hp hL h1 (fun n h => by cases h)⟩
  have := runT_step h1.st k
  rw [show popT p (N + 1) = trT p N .pl from rfl, this]
  cases k <;> rfl
theorem pop_some {p : Pl} (hp : p.ok) {M : MS} {n : Int} {l : List Int} {T : Nat} (hL : FL p M (n :: l) T) (hT : T < 8796093022207) (N k : Nat) :
    ∃ M', runT 0 1#64 (k + 3) (popT p (N + 2)) M = some (M', 3, .done n) ∧ FL p M' l (T + 1) ∧ Keeps p M T M' (T + 1) none := by
  obtain ⟨M1, s1, a1, _, a3, a4⟩ := go_pl (N := N + 1) hp hL
  have e := a3 (by simp)
  subst e
  obtain ⟨M2, nx, b1, b2⟩ := go_pn (N := N + 1) hp a1.fl a1.th
  obtain ⟨M3, l3, T3, N3, s3, c1, c2⟩ := go_ps (N := N) hp b1.fl hT b1.th
  have hh : M.wd 0 0 = M2.wd 0 0 := by rw [b2, a4]
  have k1 := Nxt.keeps hp hL a1 (fun n h => by cases h)
  have k2 := Nxt.keeps hp a1.fl b1 (fun n h => by cases h)
  have k3 := Nxt.keeps hp b1.fl c1 (fun n h => by cases h)
  rcases c2 with ⟨m, d1, rfl, rfl, d4⟩ | ⟨_, _, _, d4⟩
  · simp at d1
    obtain ⟨rfl, rfl⟩ := d1
    refine ⟨M3, ?_, c1.fl, (Keeps.trans k1 k2).trans k3⟩
    rw [show popT p (N + 2) = trT p (N + 1) .pl from rfl, runT_step a1.st, runT_step b1.st, runT_step c1.st]
    cases k <;> rfl
  · exact absurd hh d4
theorem push_run {p : Pl} (hp : p.ok) {M : MS} {n : Int} {l : List Int} {T : Nat} (hL : FL p M l T) (hT : T < 8796093022207) (hn : InR p n) (hnl : n ∉ l) (N k : Nat) :
    ∃ M', runT 0 1#64 (k + 3) (pushT p n (N + 2)) M = some (M', 3, .done n) ∧ FL p M' (n :: l) (T + 1) ∧ Keeps p M T M' (T + 1) (some n) := by
  obtain ⟨M1, h, a1, a2, a4⟩ := go_ql (N := N + 1) hp hL hn
  obtain ⟨M2, b1, b2⟩ := go_qs (N := N + 1) hp a1.fl a1.th hnl
  obtain ⟨M3, l3, T3, N3, s3, c1, c2⟩ := go_qw (N := N) hp b1.fl hT b1.th hnl
  have hh : h = M2.wd 0 0 := by rw [b2, a4, a2]
  have k1 := Nxt.keeps hp hL a1 (fun m h => by cases h; exact hnl)
  have k2 := Nxt.keeps hp a1.fl b1 (fun m h => by cases h; exact hnl)
  have k3 := Nxt.keeps hp b1.fl c1 (fun m h => by cases h; exact hnl)
  rcases c2 with ⟨rfl, rfl, rfl, _⟩ | ⟨_, _, _, d4⟩
  · refine ⟨M3, ?_, c1.fl, (Keeps.trans k1 k2).trans k3⟩
    rw [show pushT p n (N + 2) = trT p (N + 1) (.ql n) from rfl, runT_step a1.st, runT_step b1.st, runT_step c1.st]
    cases k <;> rfl
  · exact absurd hh d4

/-! Fresh. -/
def rfr : Nat → Int → List Int
  | 0, _ => []
  | k + 1, j => j :: rfr k (j + 1)
theorem rfr_len : ∀ (k : Nat) (j : Int), (rfr k j).length = k
  | 0, _ => rfl
  | k + 1, j => by simp [rfr, rfr_len k (j + 1)]
theorem rfr_mem : ∀ {k : Nat} {j m : Int}, m ∈ rfr k j ↔ j ≤ m ∧ m < j + k
  | 0, j, m => by
    constructor
    · intro h; cases h
    · intro h; omega
  | k + 1, j, m => by
    simp only [rfr, List.mem_cons, rfr_mem (k := k) (j := j + 1)]
    omega
theorem rfr_nodup : ∀ (k : Nat) (j : Int), (rfr k j).Nodup
  | 0, _ => List.nodup_nil
  | k + 1, j => List.nodup_cons.2 ⟨fun h => by have := (rfr_mem.1 h).1; omega, rfr_nodup k (j + 1)⟩
theorem fresh_run {p : Pl} (hp : p.ok) : ∀ (k : Nat) (n : Int) (M : MS), 0 ≤ n → n + k = p.n → Mg p M →
    ∃ M', runT 0 1#64 (k + 1) (freshT p k n) M = some (M', k + 1, .done ()) ∧ Mg p M' ∧ M'.wd 0 0 = putN 0 21 0#64 (nameW 0) ∧ (∀ m, InR p m → n ≤ m → M'.wd 0 (nxN p m) = fnxW p m) ∧ (∀ m, InR p m → m < n → M'.wd 0 (nxN p m) = M.wd 0 (nxN p m))
  | 0, n, M, h0, h1, hM => by
    have hz := head_zero hp
    have hok : DoOk M 0 1#64 1 p.headF := by rw [hz]; exact hM.ok (by omega) (by have := size_pos hp; omega) (by omega) (by omega)
    have hw := wd_store M p.headF (putN 0 21 0#64 (nameW 0)) 0#64
    refine ⟨M.done 0 1 p.headF (putN 0 21 0#64 (nameW 0)) 0#64, ?_, hM.done _ _ _ _ _, ?_, fun m hm hnm => ?_, fun m hm _ => ?_⟩
    · show runT 0 1#64 1 (.ask (stA p.headF _) _) M = _
      rw [runT, if_pos (show DoOk M 0 1#64 (stA p.headF _).op (stA p.headF _).at_ from hok)]
      rfl
    · rw [hw, hz]
      rfl
    · have := hm.2
      omega
    · rw [hw, hz]
      exact if_neg (nxN_pos hp hm)
  | k + 1, n, M, h0, h1, hM => by
    have hn : InR p n := ⟨h0, by omega⟩
    have hx := nx_in hp hn
    have hok : DoOk M 0 1#64 1 (p.nxF n) := hM.ok (by omega) hx.2 (by omega) (by omega)
    have hw := wd_store M (p.nxF n) (fnxW p n) 0#64
    obtain ⟨M', r1, r2, r3, r4, r5⟩ := fresh_run hp k (n + 1) (M.done 0 1 (p.nxF n) (fnxW p n) 0#64) (by omega) (by omega) (hM.done _ _ _ _ _)
    refine ⟨M', ?_, r2, r3, fun m hm hnm => ?_, fun m hm hnm => ?_⟩
    · show runT 0 1#64 (k + 1 + 1) (.ask (stA (p.nxF n) _) _) M = _
      rw [runT, if_pos (show DoOk M 0 1#64 (stA (p.nxF n) _).op (stA (p.nxF n) _).at_ from hok)]
      show Option.map _ (runT 0 1#64 (k + 1) (freshT p k (n + 1)) (M.done 0 1 (p.nxF n) (fnxW p n) 0#64)) = _
      rw [r1]
      rfl
    · by_cases e : m = n
      · subst e
        rw [r5 m hm (by omega), hw]
        exact if_pos rfl
      · exact r4 m hm (by omega)
    · rw [r5 m hm (by omega), hw]
      exact if_neg fun e => by have := nxN_inj hp hm hn e; omega
theorem fresh_ch {p : Pl} {M : MS} (h : ∀ m, InR p m → M.wd 0 (nxN p m) = fnxW p m) : ∀ (k : Nat) (j : Int), 0 ≤ j → j + k = p.n → Ch p M (rfr k j)
  | 0, _, _, _ => trivial
  | k + 1, j, h0, h1 => by
    refine ⟨?_, fresh_ch h k (j + 1) (by omega) (by omega)⟩
    rw [h j ⟨h0, by omega⟩]
    unfold fnxW
    cases k with
    | zero => rw [if_pos (by omega)]; rfl
    | succ k => rw [if_neg (by omega)]; rfl
theorem fresh_FL {p : Pl} (hp : p.ok) {M : MS} (hM : Mg p M) : ∃ M', runT 0 1#64 (p.n + 1).toNat (freshT p p.n.toNat 0) M = some (M', p.n.toNat + 1, .done ()) ∧ FL p M' (rfr p.n.toNat 0) 0 := by
  have h1 := hp.1
  obtain ⟨M', r1, r2, r3, r4, _⟩ := fresh_run hp p.n.toNat 0 M (by omega) (by omega) hM
  refine ⟨M', by rw [show (p.n + 1).toNat = p.n.toNat + 1 by omega]; exact r1, r2, ?_, ?_, fresh_ch (fun m hm => r4 m hm hm.1) _ _ (by omega) (by omega), rfr_nodup _ _, fun m hm => ?_⟩
  · rw [r3, nd_fresh]
    obtain ⟨k, hk⟩ : ∃ k, p.n.toNat = k + 1 := ⟨p.n.toNat - 1, by omega⟩
    rw [hk]
    rfl
  · rw [r3, tag_fresh]
    rfl
  · have := rfr_mem.1 hm
    exact ⟨by omega, by omega⟩
theorem nodup_len : ∀ (l m : List Int), l.Nodup → (∀ x ∈ l, x ∈ m) → l.length ≤ m.length
  | [], _, _, _ => Nat.zero_le _
  | x :: l, m, hn, hs => by
    have hx := hs x (by simp)
    have h1 := List.nodup_cons.1 hn
    have h2 := nodup_len l (m.erase x) h1.2 fun y hy => by
      have hne : y ≠ x := fun e => h1.1 (e ▸ hy)
      exact (List.mem_erase_of_ne hne).2 (hs y (by simp [hy]))
    have h3 := List.length_erase_of_mem hx
    have h4 := List.length_pos_of_mem hx
    simp only [List.length_cons]
    omega
/-- Numbers that are a plan's, each once, are no more than it has. -/
theorem nodup_le {p : Pl} (h0 : 0 ≤ p.n) {l : List Int} (hn : l.Nodup) (hr : ∀ n ∈ l, InR p n) : (l.length : Int) ≤ p.n := by
  have := nodup_len l (rfr p.n.toNat 0) hn fun m hm => rfr_mem.2 ⟨(hr m hm).1, by have := (hr m hm).2; omega⟩
  rw [rfr_len] at this
  omega
theorem Mg.zero (p : Pl) : Mg p (M0 [p.sizeF] 1) := ⟨rfl, rfl, rfl⟩
end Go.Proofs.YtpidmbclgfnekaaGreat
