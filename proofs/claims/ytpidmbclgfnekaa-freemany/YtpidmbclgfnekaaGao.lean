/-
  What the call of Push comes to. Conditions: those of each theorem.
-/
import Derived.Test.YtpidmbclgfnekaaGan
namespace Go.Proofs.Ytpidmbclgfnekaa
open Go Go.RowKit

theorem RetP.ext {Q : (Nat → Prop) → Value → World → Prop} {F : Nat → Prop} {w : World} {e : Ending} {w' : World} (h : RetP Q F w e w') : Ext w w' := by
  obtain ⟨_, _, _, h1, _⟩ := h
  exact h1
set_option maxRecDepth 8000 in
set_option maxHeartbeats 2000000 in
theorem push3_PT (p : Pl) (n : Int) (t : Tr Int) (B1 B2 : Nat) (w : World) (hB : PBox B1 p w) (k2 : w.heap[B2]? = some (.cells #[.int .i64 n] 3 (0, 0))) (hN : ∀ W, Calls Try.prog 18 #[plV p, .int .i64 n] W (RetP (PT kI t) noF W)) :
    Calls Try.prog 47 #[.pointer (some ⟨B1, 0, none⟩), .pointer (some ⟨B2, 0, none⟩)] w (RetP (PT kI t) noF w) := by
  have d2 := cell_at (o := 0) k2 rfl
  have l2 := cell_lt d2
  clear k2
  have ⟨c0, c1, c2, c3, c4, c5, lt⟩ := hB.plc
  replace hB := Lib.hid hB
  replace hN := Lib.hid hN
  go_enter Try.func47, Try.ntmps47
  go_wp2_with (go_at_call 18; refine Hid.out ?_)
  refine Lib.hid ?_
  have hE : Ext w (w.alloc (.cells #[.int .i64 0, .int .i64 0, .int .i64 0, .int .u64 0, .int .u64 0, .nilFunc, .pointer none] 39)) := by repeat (first | exact ext_refl _ | apply ext_alloc)
  have hb0 : (w.alloc (.cells #[.int .i64 0, .int .i64 0, .int .i64 0, .int .u64 0, .int .u64 0, .nilFunc, .pointer none] 39)).heap[w.heap.size]? = some (.cells #[.int .i64 0, .int .i64 0, .int .i64 0, .int .u64 0, .int .u64 0, .nilFunc, .pointer none] 39) := heap_at _ _ _ (by simp)
  have hW : (w.alloc (.cells #[.int .i64 0, .int .i64 0, .int .i64 0, .int .u64 0, .int .u64 0, .nilFunc, .pointer none] 39)).heap.size = w.heap.size + 1 := by simp
  generalize (w.alloc (.cells #[.int .i64 0, .int .i64 0, .int .i64 0, .int .u64 0, .int .u64 0, .nilFunc, .pointer none] 39)) = W at hE hb0 hW ⊢
  refine (hN.out W).mono ?_
  rintro e w' hR
  obtain ⟨v', F', rfl, hX, hp, hbn, hsub, hnF, hbq⟩ := hR.tail (G := noF) (w.heap.size) hE (heap_lt hb0) (fun h => h) (fun _ h => h.elim)
  have hbx := hbq.trans hb0
  clear hbq hR
  clear hE hb0 hW c0 c1 c2 c3 c4 c5 lt hN hB d2 l2
  obtain ⟨y, a2, fn2, rfl, hfn⟩ := shI hp
  have hXX := put7_ext (b := w.heap.size) (.int .i64 y) (.int .i64 a2.op) (.int .i64 a2.at_) (.int .u64 (U a2.a)) (.int .u64 (U a2.b)) (fn2) (.pointer none) hX (by omega)
  have hB := put7_block (.int .i64 y) (.int .i64 a2.op) (.int .i64 a2.at_) (.int .u64 (U a2.a)) (.int .u64 (U a2.b)) (fn2) (.pointer none) hbx
  have hP := hp.agr (Agr.of_put7 (b := w.heap.size) (.int .i64 y) (.int .i64 a2.op) (.int .i64 a2.at_) (.int .u64 (U a2.a)) (.int .u64 (U a2.b)) (fn2) (.pointer none) hnF)
  have hS : (put7 (w.heap.size) (.int .i64 y) (.int .i64 a2.op) (.int .i64 a2.at_) (.int .u64 (U a2.a)) (.int .u64 (U a2.b)) (fn2) (.pointer none) w').heap.size = w'.heap.size := put7_size (.int .i64 y) (.int .i64 a2.op) (.int .i64 a2.at_) (.int .u64 (U a2.a)) (.int .u64 (U a2.b)) (fn2) (.pointer none)
  obtain ⟨c0, c1, c2, c3, c4, c5, c6, cz, ll⟩ := sev_of hbx
  rw [put7] at hXX hB hP hS
  have HX := Lib.hid (And.intro hXX (And.intro hB (And.intro hP hS)))
  have HFN := Lib.hid hfn
  have HBN := Lib.hid hbn
  have HSUB := Lib.hid hsub
  clear hXX hB hP hS hX hbx hp hfn hbn hsub hnF
  rcases HFN.out with rfl | ⟨g', caps', rfl⟩
  all_goals
    go_wp2
    clear c0 c1 c2 c3 c4 c5 c6 cz ll
    obtain ⟨hX, hB, hP, hS⟩ := HX.out
    clear HX
    generalize (World.setCell _ (⟨w.heap.size, 6, none⟩ : Addr) _) = Z at hX hB hP hS ⊢
    obtain ⟨c0, c1, c2, c3, c4, c5, c6, cz, ll⟩ := sev_of hB
    exact bodyPost_ret (by simp only [results, Try.results47, go_sem]; simp [go_sem, c0, c1, c2, c3, c4, c5, c6]) rfl ⟨_, F', rfl, hX, hP, fun j hj => by rw [hS]; exact HBN.out j hj, HSUB.out⟩
theorem push3_AT (p : Pl) (n : Int) (t : Tr Int) (B1 B2 : Nat) (w : World) (hB : PBox B1 p w) (k2 : w.heap[B2]? = some (.cells #[.int .i64 n] 3 (0, 0))) (hN : ∀ W, Calls Try.prog 18 #[plV p, .int .i64 n] W (RetP (PT kI t) noF W)) :
    AT t (fun j => j = B1 ∨ j = B2) (.func (.func 47) #[] #[.pointer (some ⟨B1, 0, none⟩), .pointer (some ⟨B2, 0, none⟩)]) w :=
  ⟨_, _, rfl, enters_of Try.func47 (by kernel_rfl) rfl, fun w' ha => (push3_PT p n t B1 B2 w' ((ha B1 (.inl rfl)).trans hB) ((ha B2 (.inr rfl)).trans k2) hN).mono fun _ _ h => h.mono fun _ h => h.elim⟩
set_option maxRecDepth 8000 in
set_option maxHeartbeats 2000000 in
theorem push2_PT (p : Pl) (h : BitVec 64) (n : Int) (t : Tr Int) (B1 B2 B3 : Nat) (w : World) (h0 : 0 ≤ n) (h1 : n < 4611686018427387904) (hB : PBox B1 p w) (k2 : w.heap[B2]? = some (.cells #[.int .u64 (U h)] 33 (0, 0))) (k3 : w.heap[B3]? = some (.cells #[.int .i64 n] 3 (0, 0))) (hN : ∀ W, Calls Try.prog 18 #[plV p, .int .i64 n] W (RetP (PT kI t) noF W)) :
    Calls Try.prog 45 #[.agg #[], .pointer (some ⟨B1, 0, none⟩), .pointer (some ⟨B2, 0, none⟩), .pointer (some ⟨B3, 0, none⟩)] w (RetP (PT kI (swT p h (nameW n) n t)) (fun j => j = B1 ∨ j = B3) w) := by
  have l1 := heap_lt hB
  have l3 := heap_lt k3
  replace hB := Lib.hid hB
  replace k2 := Lib.hid k2
  replace k3 := Lib.hid k3
  replace hN := Lib.hid hN
  go_enter Try.func45, Try.ntmps45
  go_wp2
  have hE : Ext w ((w.alloc (.cells #[] 53)).alloc (.cells #[.int .i64 0, .int .i64 0, .int .i64 0, .int .u64 0, .int .u64 0, .nilFunc, .pointer none] 39)) := by repeat (first | exact ext_refl _ | apply ext_alloc)
  have hb0 : ((w.alloc (.cells #[] 53)).alloc (.cells #[.int .i64 0, .int .i64 0, .int .i64 0, .int .u64 0, .int .u64 0, .nilFunc, .pointer none] 39)).heap[w.heap.size]? = some (.cells #[] 53) := (Below.heap_alloc _ _ _ (by simp <;> omega)).trans (heap_at _ _ _ (by simp))
  have hb1 : ((w.alloc (.cells #[] 53)).alloc (.cells #[.int .i64 0, .int .i64 0, .int .i64 0, .int .u64 0, .int .u64 0, .nilFunc, .pointer none] 39)).heap[w.heap.size + 1]? = some (.cells #[.int .i64 0, .int .i64 0, .int .i64 0, .int .u64 0, .int .u64 0, .nilFunc, .pointer none] 39) := heap_at _ _ _ (by simp)
  have hW : ((w.alloc (.cells #[] 53)).alloc (.cells #[.int .i64 0, .int .i64 0, .int .i64 0, .int .u64 0, .int .u64 0, .nilFunc, .pointer none] 39)).heap.size = w.heap.size + 1 + 1 := by simp
  generalize ((w.alloc (.cells #[] 53)).alloc (.cells #[.int .i64 0, .int .i64 0, .int .i64 0, .int .u64 0, .int .u64 0, .nilFunc, .pointer none] 39)) = W at hE hb0 hb1 hW ⊢
  have hBW := hB.out.ext hE
  have k2W := (hE.block _ (heap_lt k2.out)).trans k2.out
  have k3W := (hE.block _ (heap_lt k3.out)).trans k3.out
  have ⟨c0, c1, c2, c3, c4, c5, lt⟩ := hBW.plc
  have d2 := cell_at (o := 0) k2W rfl
  have d3 := cell_at (o := 0) k3W rfl
  have e2 := cell_lt d2
  have e3 := cell_lt d3
  clear hb0
  replace hE := Lib.hid hE
  replace hb1 := Lib.hid hb1
  replace hBW := Lib.hid hBW
  replace k2W := Lib.hid k2W
  replace k3W := Lib.hid k3W
  replace hW := Lib.hid hW
  refine wp_region_mix (fun w' => ∃ s, w' = over W s) [(0, [0, 1, 2, 4, 5]), (1, [3]), (1, [6]), (2, [7])] (by kernel_rfl) (by kernel_rfl) (over_of (ext_drew (ext_refl W))) ?_
  simp only [pieces, pickL, List.map_cons, List.map_nil, List.getD_cons_zero, List.getD_cons_succ]
  refine mix_reads ?_
  repeat (go_big_quiet_step (fail))
  refine wpQuiet_nil (mix_acts ?_)
  have HX0 := Lib.hid (ext_drew (ext_refl W))
  go_wp2_with (go_at_call 46; refine (name_any n h0 h1 _).mono ?_; rintro e w1 ⟨rfl, hx⟩; have HX1 := Lib.hid (ext_trans HX0.out hx); clear hx)
  refine mixQ_mk (over_of HX1.out) (mix_acts ?_)
  go_wp2_with (go_at_call 40; refine Hid.out ?_)
  refine Lib.hid ?_
  replace hE := hE.out
  replace hb1 := hb1.out
  replace hBW := hBW.out
  replace k3W := k3W.out
  replace hW := hW.out
  replace hBW := hBW.ext HX1.out
  replace k3W := (HX1.out.block _ (heap_lt k3W)).trans k3W
  replace hb1 := (HX1.out.block _ (heap_lt hb1)).trans hb1
  replace hE := ext_trans hE HX1.out
  refine (swap_PT p h (nameW n) n t (fun j => j = B1 ∨ j = B3) _ w1 (push3_AT p n t B1 B3 w1 hBW k3W hN.out) (fun j h => by rcases h with rfl | rfl; exact heap_lt hBW; exact heap_lt k3W)).mono ?_
  rintro e w' hR
  have HXZ := Lib.hid (ext_trans HX1.out hR.ext)
  obtain ⟨v', F', rfl, hX, hp, hbn, hsub, hnF, hbq⟩ := hR.tail (G := (fun j => j = B1 ∨ j = B3)) (w.heap.size + 1) hE (heap_lt hb1) (fun h => by rcases h with h | h; omega; omega) (fun _ h => .inl h)
  have hbx := hbq.trans hb1
  clear hbq hR
  go_wp2
  refine mixQ_mk (over_of HXZ.out) (mix_late ?_)
  clear hE hb1 hW c0 c1 c2 c3 c4 c5 lt d2 d3 e2 e3 hN hB hBW k2 k3 k2W k3W
  obtain ⟨y, a2, fn2, rfl, hfn⟩ := shI hp
  have hXX := put7_ext (b := w.heap.size + 1) (.int .i64 y) (.int .i64 a2.op) (.int .i64 a2.at_) (.int .u64 (U a2.a)) (.int .u64 (U a2.b)) (fn2) (.pointer none) hX (by omega)
  have hB := put7_block (.int .i64 y) (.int .i64 a2.op) (.int .i64 a2.at_) (.int .u64 (U a2.a)) (.int .u64 (U a2.b)) (fn2) (.pointer none) hbx
  have hP := hp.agr (Agr.of_put7 (b := w.heap.size + 1) (.int .i64 y) (.int .i64 a2.op) (.int .i64 a2.at_) (.int .u64 (U a2.a)) (.int .u64 (U a2.b)) (fn2) (.pointer none) hnF)
  have hS : (put7 (w.heap.size + 1) (.int .i64 y) (.int .i64 a2.op) (.int .i64 a2.at_) (.int .u64 (U a2.a)) (.int .u64 (U a2.b)) (fn2) (.pointer none) w').heap.size = w'.heap.size := put7_size (.int .i64 y) (.int .i64 a2.op) (.int .i64 a2.at_) (.int .u64 (U a2.a)) (.int .u64 (U a2.b)) (fn2) (.pointer none)
  obtain ⟨c0, c1, c2, c3, c4, c5, c6, cz, ll⟩ := sev_of hbx
  rw [put7] at hXX hB hP hS
  have HX := Lib.hid (And.intro hXX (And.intro hB (And.intro hP hS)))
  have HFN := Lib.hid hfn
  have HBN := Lib.hid hbn
  have HSUB := Lib.hid hsub
  clear hXX hB hP hS hX hbx hp hfn hbn hsub hnF
  rcases HFN.out with rfl | ⟨g', caps', rfl⟩
  all_goals
    go_wp2
    refine lateQ_mk (fun _ => True) trivial (mix_end ?_)
    clear c0 c1 c2 c3 c4 c5 c6 cz ll
    obtain ⟨hX, hB, hP, hS⟩ := HX.out
    clear HX
    generalize (World.setCell _ (⟨w.heap.size + 1, 6, none⟩ : Addr) _) = Z at hX hB hP hS ⊢
    obtain ⟨c0, c1, c2, c3, c4, c5, c6, cz, ll⟩ := sev_of hB
    go_wp2
    exact bodyPost_ret (by simp only [results, Try.results45, go_sem]; simp [go_sem, c0, c1, c2, c3, c4, c5, c6]) rfl ⟨_, F', rfl, hX, hP, fun j hj => by rw [hS]; exact HBN.out j hj, HSUB.out⟩
theorem push2_CT (p : Pl) (h : BitVec 64) (n : Int) (t : Tr Int) (B1 B2 B3 : Nat) (w : World) (h0 : 0 ≤ n) (h1 : n < 4611686018427387904) (hB : PBox B1 p w) (k2 : w.heap[B2]? = some (.cells #[.int .u64 (U h)] 33 (0, 0))) (k3 : w.heap[B3]? = some (.cells #[.int .i64 n] 3 (0, 0))) (hN : ∀ W, Calls Try.prog 18 #[plV p, .int .i64 n] W (RetP (PT kI t) noF W)) :
    CT kN kI (fun _ => swT p h (nameW n) n t) (fun j => j = B1 ∨ j = B2 ∨ j = B3) (.func (.func 45) #[] #[.pointer (some ⟨B1, 0, none⟩), .pointer (some ⟨B2, 0, none⟩), .pointer (some ⟨B3, 0, none⟩)]) w :=
  ⟨_, _, rfl, enters_of Try.func45 (by kernel_rfl) rfl, fun _ w' ha => (push2_PT p h n t B1 B2 B3 w' h0 h1 ((ha B1 (.inl rfl)).trans hB) ((ha B2 (.inr (.inl rfl))).trans k2) ((ha B3 (.inr (.inr rfl))).trans k3) hN).mono fun _ _ h => h.mono fun _ h => h.elim .inl fun h => .inr (.inr h)⟩
set_option maxRecDepth 8000 in
set_option maxHeartbeats 2000000 in
theorem push1_PT (p : Pl) (h : BitVec 64) (n : Int) (t : Tr Int) (B1 B2 : Nat) (w : World) (h0 : 0 ≤ n) (h1 : n < 4611686018427387904) (hB : PBox B1 p w) (k2 : w.heap[B2]? = some (.cells #[.int .i64 n] 3 (0, 0))) (hN : ∀ W, Calls Try.prog 18 #[plV p, .int .i64 n] W (RetP (PT kI t) noF W)) :
    Calls Try.prog 42 #[.int .u64 (U h), .pointer (some ⟨B1, 0, none⟩), .pointer (some ⟨B2, 0, none⟩)] w (RetP (PT kI (push1T p n t h)) (fun j => j = B1 ∨ j = B2) w) := by
  have l1 := heap_lt hB
  have l2 := heap_lt k2
  replace hB := Lib.hid hB
  replace k2 := Lib.hid k2
  replace hN := Lib.hid hN
  go_enter Try.func42, Try.ntmps42
  go_wp2
  have hE : Ext w ((w.alloc (.cells #[.int .u64 (U h)] 33)).alloc (.cells #[.int .i64 0, .int .i64 0, .int .i64 0, .int .u64 0, .int .u64 0, .nilFunc, .pointer none] 39)) := by repeat (first | exact ext_refl _ | apply ext_alloc)
  have hb0 : ((w.alloc (.cells #[.int .u64 (U h)] 33)).alloc (.cells #[.int .i64 0, .int .i64 0, .int .i64 0, .int .u64 0, .int .u64 0, .nilFunc, .pointer none] 39)).heap[w.heap.size]? = some (.cells #[.int .u64 (U h)] 33) := (Below.heap_alloc _ _ _ (by simp <;> omega)).trans (heap_at _ _ _ (by simp))
  have hb1 : ((w.alloc (.cells #[.int .u64 (U h)] 33)).alloc (.cells #[.int .i64 0, .int .i64 0, .int .i64 0, .int .u64 0, .int .u64 0, .nilFunc, .pointer none] 39)).heap[w.heap.size + 1]? = some (.cells #[.int .i64 0, .int .i64 0, .int .i64 0, .int .u64 0, .int .u64 0, .nilFunc, .pointer none] 39) := heap_at _ _ _ (by simp)
  have hW : ((w.alloc (.cells #[.int .u64 (U h)] 33)).alloc (.cells #[.int .i64 0, .int .i64 0, .int .i64 0, .int .u64 0, .int .u64 0, .nilFunc, .pointer none] 39)).heap.size = w.heap.size + 1 + 1 := by simp
  generalize ((w.alloc (.cells #[.int .u64 (U h)] 33)).alloc (.cells #[.int .i64 0, .int .i64 0, .int .i64 0, .int .u64 0, .int .u64 0, .nilFunc, .pointer none] 39)) = W at hE hb0 hb1 hW ⊢
  have hBW := hB.out.ext hE
  have k2W := (hE.block _ (heap_lt k2.out)).trans k2.out
  have ⟨c0, c1, c2, c3, c4, c5, lt⟩ := hBW.plc
  have d2 := cell_at (o := 0) k2W rfl
  have d3 := cell_at (o := 0) hb0 rfl
  have e2 := cell_lt d2
  have e3 := cell_lt d3
  replace hE := Lib.hid hE
  replace hb0 := Lib.hid hb0
  replace hb1 := Lib.hid hb1
  replace hBW := Lib.hid hBW
  replace k2W := Lib.hid k2W
  replace hW := Lib.hid hW
  refine wp_region_mix (fun w' => ∃ s, w' = over W s) [(0, [0, 1, 4, 7]), (1, [2]), (1, [3]), (1, [5]), (1, [6]), (1, [8]), (2, [9])] (by kernel_rfl) (by kernel_rfl) (over_of (ext_drew (ext_refl W))) ?_
  simp only [pieces, pickL, List.map_cons, List.map_nil, List.getD_cons_zero, List.getD_cons_succ]
  refine mix_reads ?_
  repeat (go_big_quiet_step (fail))
  refine wpQuiet_nil (mix_acts ?_)
  have HX0 := Lib.hid (ext_drew (ext_refl W))
  go_wp2_with (go_at_call 27; refine (next_any p n _).mono ?_; rintro e w1 ⟨rfl, hx⟩; have HX1 := Lib.hid (ext_trans HX0.out hx); clear hx)
  refine mixQ_mk (over_of HX1.out) (mix_acts ?_)
  go_wp2_with (go_at_call 21; refine (nodeField_any _).mono ?_; rintro e w2 ⟨rfl, hx⟩; have HX2 := Lib.hid (ext_trans HX1.out hx); clear hx)
  refine mixQ_mk (over_of HX2.out) (mix_acts ?_)
  go_wp2_with (go_at_call 22; refine (getNd_any h _).mono ?_; rintro e w3 ⟨rfl, hx⟩; have HX3 := Lib.hid (ext_trans HX2.out hx); clear hx)
  refine mixQ_mk (over_of HX3.out) (mix_acts ?_)
  go_wp2_with (go_at_call 44; refine (set_PT (p.nxF n) (ndW h) _).mono ?_; rintro e w4 ⟨v1, F1, rfl, hx, hp1, hbn1, hsub1⟩; refine Hid.out ?_)
  refine Lib.hid ?_
  replace hE := hE.out
  replace hb0 := hb0.out
  replace hb1 := hb1.out
  replace hBW := hBW.out
  replace k2W := k2W.out
  replace hW := hW.out
  have hn1 : ¬ F1 (w.heap.size + 1) := fun h => (hsub1 _ h).elim (fun h => h) fun h => by have := heap_lt hb1; have := HX3.out.size; omega
  have hs1 : ∀ j, F1 j → noF j ∨ w.heap.size ≤ j := fun j hj => (hsub1 j hj).imp_right fun h => Nat.le_trans (Nat.le_trans hE.size HX3.out.size) h
  have HX4 := Lib.hid (ext_trans HX3.out hx)
  replace hBW := hBW.ext HX4.out
  replace k2W := (HX4.out.block _ (heap_lt k2W)).trans k2W
  replace hb0 := (HX4.out.block _ (heap_lt hb0)).trans hb0
  replace hb1 := (HX4.out.block _ (heap_lt hb1)).trans hb1
  replace hE := ext_trans hE HX4.out
  clear hx hsub1
  replace hE := Lib.hid hE
  replace hb0 := Lib.hid hb0
  replace hb1 := Lib.hid hb1
  replace hBW := Lib.hid hBW
  replace k2W := Lib.hid k2W
  replace hW := Lib.hid hW
  replace hp1 := Lib.hid hp1
  replace hbn1 := Lib.hid hbn1
  replace hs1 := Lib.hid hs1
  replace hn1 := Lib.hid hn1
  go_wp2
  refine mixQ_mk (over_of HX4.out) (mix_acts ?_)
  go_wp2_with (go_at_call 43; refine Hid.out ?_)
  refine Lib.hid ?_
  replace hE := hE.out
  replace hb0 := hb0.out
  replace hb1 := hb1.out
  replace hBW := hBW.out
  replace k2W := k2W.out
  replace hW := hW.out
  replace hp1 := hp1.out
  replace hbn1 := hbn1.out
  replace hs1 := hs1.out
  replace hn1 := hn1.out
  have hCT := push2_CT p h n t B1 w.heap.size B2 w4 h0 h1 hBW hb0 k2W hN.out
  refine (then_NI _ _ F1 _ v1 _ w4 hp1 hCT hbn1 (fun j h => by rcases h with rfl | rfl | rfl; exact heap_lt hBW; exact heap_lt hb0; exact heap_lt k2W)).mono ?_
  rintro e w' hR
  have HXZ := Lib.hid (ext_trans HX4.out hR.ext)
  obtain ⟨v', F', rfl, hX, hp, hbn, hsub, hnF, hbq⟩ := hR.tail (G := (fun j => j = B1 ∨ j = B2)) (w.heap.size + 1) hE (heap_lt hb1) (fun h => by rcases h with h | h | h | h; exact hn1 h; omega; omega; omega) (fun j h => by rcases h with h | h | h | h; exact (hs1 j h).imp_left False.elim; exact .inl (.inl h); exact .inr (by omega); exact .inl (.inr h))
  have hbx := hbq.trans hb1
  clear hbq hR
  go_wp2
  refine mixQ_mk (over_of HXZ.out) (mix_late ?_)
  clear hE hb0 hb1 hW c0 c1 c2 c3 c4 c5 lt d2 d3 e2 e3 hN hB hBW k2 k2W hp1 hbn1 hs1 hn1 hCT
  obtain ⟨y, a2, fn2, rfl, hfn⟩ := shI hp
  have hXX := put7_ext (b := w.heap.size + 1) (.int .i64 y) (.int .i64 a2.op) (.int .i64 a2.at_) (.int .u64 (U a2.a)) (.int .u64 (U a2.b)) (fn2) (.pointer none) hX (by omega)
  have hB := put7_block (.int .i64 y) (.int .i64 a2.op) (.int .i64 a2.at_) (.int .u64 (U a2.a)) (.int .u64 (U a2.b)) (fn2) (.pointer none) hbx
  have hP := hp.agr (Agr.of_put7 (b := w.heap.size + 1) (.int .i64 y) (.int .i64 a2.op) (.int .i64 a2.at_) (.int .u64 (U a2.a)) (.int .u64 (U a2.b)) (fn2) (.pointer none) hnF)
  have hS : (put7 (w.heap.size + 1) (.int .i64 y) (.int .i64 a2.op) (.int .i64 a2.at_) (.int .u64 (U a2.a)) (.int .u64 (U a2.b)) (fn2) (.pointer none) w').heap.size = w'.heap.size := put7_size (.int .i64 y) (.int .i64 a2.op) (.int .i64 a2.at_) (.int .u64 (U a2.a)) (.int .u64 (U a2.b)) (fn2) (.pointer none)
  obtain ⟨c0, c1, c2, c3, c4, c5, c6, cz, ll⟩ := sev_of hbx
  rw [put7] at hXX hB hP hS
  have HX := Lib.hid (And.intro hXX (And.intro hB (And.intro hP hS)))
  have HFN := Lib.hid hfn
  have HBN := Lib.hid hbn
  have HSUB := Lib.hid hsub
  clear hXX hB hP hS hX hbx hp hfn hbn hsub hnF
  rcases HFN.out with rfl | ⟨g', caps', rfl⟩
  all_goals
    go_wp2
    refine lateQ_mk (fun _ => True) trivial (mix_end ?_)
    clear c0 c1 c2 c3 c4 c5 c6 cz ll
    obtain ⟨hX, hB, hP, hS⟩ := HX.out
    clear HX
    generalize (World.setCell _ (⟨w.heap.size + 1, 6, none⟩ : Addr) _) = Z at hX hB hP hS ⊢
    obtain ⟨c0, c1, c2, c3, c4, c5, c6, cz, ll⟩ := sev_of hB
    go_wp2
    exact bodyPost_ret (by simp only [results, Try.results42, go_sem]; simp [go_sem, c0, c1, c2, c3, c4, c5, c6]) rfl ⟨_, F', rfl, hX, hP, fun j hj => by rw [hS]; exact HBN.out j hj, HSUB.out⟩
theorem push1_CT (p : Pl) (n : Int) (t : Tr Int) (B1 B2 : Nat) (w : World) (h0 : 0 ≤ n) (h1 : n < 4611686018427387904) (hB : PBox B1 p w) (k2 : w.heap[B2]? = some (.cells #[.int .i64 n] 3 (0, 0))) (hN : ∀ W, Calls Try.prog 18 #[plV p, .int .i64 n] W (RetP (PT kI t) noF W)) :
    CT kU kI (push1T p n t) (fun j => j = B1 ∨ j = B2) (.func (.func 42) #[] #[.pointer (some ⟨B1, 0, none⟩), .pointer (some ⟨B2, 0, none⟩)]) w :=
  ⟨_, _, rfl, enters_of Try.func42 (by kernel_rfl) rfl, fun h w' ha => push1_PT p h n t B1 B2 w' h0 h1 ((ha B1 (.inl rfl)).trans hB) ((ha B2 (.inr rfl)).trans k2) hN⟩
set_option maxRecDepth 8000 in
set_option maxHeartbeats 2000000 in
theorem pushW (p : Pl) (n : Int) (t : Tr Int) (w : World) (hq : p.nxF n ≠ -1) (hN : ∀ v F B B2 W, PBox B p W → W.heap[B2]? = some (.cells #[.int .i64 n] 3 (0, 0)) → PT kU (getT p.headF) F v W → Bnd F W → Calls Try.prog 35 #[v, .func (.func 42) #[] #[.pointer (some ⟨B, 0, none⟩), .pointer (some ⟨B2, 0, none⟩)]] W (RetP (PT kI t) (fun j => F j ∨ j = B ∨ j = B2) W)) :
    Calls Try.prog 18 #[plV p, .int .i64 n] w (RetP (PT kI t) noF w) := by
  replace hN := Lib.hid hN
  go_enter Try.func18, Try.ntmps18
  go_wp2_with (go_at_call 27; refine Hid.out ?_)
  refine Lib.hid ?_
  have hE : Ext w (((w.alloc (.cells #[.int .i64 p.n, .int .i64 p.t, .int .i64 p.r, .int .i64 p.d, .int .i64 p.b, .int .i64 p.g] 23)).alloc (.cells #[.int .i64 n] 3)).alloc (.cells #[.int .i64 0, .int .i64 0, .int .i64 0, .int .u64 0, .int .u64 0, .nilFunc, .pointer none] 39)) := by repeat (first | exact ext_refl _ | apply ext_alloc)
  have hb0 : (((w.alloc (.cells #[.int .i64 p.n, .int .i64 p.t, .int .i64 p.r, .int .i64 p.d, .int .i64 p.b, .int .i64 p.g] 23)).alloc (.cells #[.int .i64 n] 3)).alloc (.cells #[.int .i64 0, .int .i64 0, .int .i64 0, .int .u64 0, .int .u64 0, .nilFunc, .pointer none] 39)).heap[w.heap.size]? = some (.cells #[.int .i64 p.n, .int .i64 p.t, .int .i64 p.r, .int .i64 p.d, .int .i64 p.b, .int .i64 p.g] 23) := (Below.heap_alloc _ _ _ (by simp <;> omega)).trans ((Below.heap_alloc _ _ _ (by simp <;> omega)).trans (heap_at _ _ _ (by simp)))
  have hb1 : (((w.alloc (.cells #[.int .i64 p.n, .int .i64 p.t, .int .i64 p.r, .int .i64 p.d, .int .i64 p.b, .int .i64 p.g] 23)).alloc (.cells #[.int .i64 n] 3)).alloc (.cells #[.int .i64 0, .int .i64 0, .int .i64 0, .int .u64 0, .int .u64 0, .nilFunc, .pointer none] 39)).heap[w.heap.size + 1]? = some (.cells #[.int .i64 n] 3) := (Below.heap_alloc _ _ _ (by simp <;> omega)).trans (heap_at _ _ _ (by simp))
  have hb2 : (((w.alloc (.cells #[.int .i64 p.n, .int .i64 p.t, .int .i64 p.r, .int .i64 p.d, .int .i64 p.b, .int .i64 p.g] 23)).alloc (.cells #[.int .i64 n] 3)).alloc (.cells #[.int .i64 0, .int .i64 0, .int .i64 0, .int .u64 0, .int .u64 0, .nilFunc, .pointer none] 39)).heap[w.heap.size + 1 + 1]? = some (.cells #[.int .i64 0, .int .i64 0, .int .i64 0, .int .u64 0, .int .u64 0, .nilFunc, .pointer none] 39) := heap_at _ _ _ (by simp)
  have hW : (((w.alloc (.cells #[.int .i64 p.n, .int .i64 p.t, .int .i64 p.r, .int .i64 p.d, .int .i64 p.b, .int .i64 p.g] 23)).alloc (.cells #[.int .i64 n] 3)).alloc (.cells #[.int .i64 0, .int .i64 0, .int .i64 0, .int .u64 0, .int .u64 0, .nilFunc, .pointer none] 39)).heap.size = w.heap.size + 1 + 1 + 1 := by simp
  generalize (((w.alloc (.cells #[.int .i64 p.n, .int .i64 p.t, .int .i64 p.r, .int .i64 p.d, .int .i64 p.b, .int .i64 p.g] 23)).alloc (.cells #[.int .i64 n] 3)).alloc (.cells #[.int .i64 0, .int .i64 0, .int .i64 0, .int .u64 0, .int .u64 0, .nilFunc, .pointer none] 39)) = W at hE hb0 hb1 hb2 hW ⊢
  refine (next_any p n W).mono ?_
  rintro e w0 ⟨rfl, hx⟩
  replace hE := ext_trans hE hx
  replace hb0 := (hx.block _ (heap_lt hb0)).trans hb0
  replace hb1 := (hx.block _ (heap_lt hb1)).trans hb1
  replace hb2 := (hx.block _ (heap_lt hb2)).trans hb2
  clear hx hW
  have ⟨c0, c1, c2, c3, c4, c5, lt⟩ := PBox.plc hb0
  replace hE := Lib.hid hE
  replace hb0 := Lib.hid hb0
  replace hb1 := Lib.hid hb1
  replace hb2 := Lib.hid hb2
  go_wp2_with (go_at_call 24; refine Hid.out ?_)
  refine Lib.hid ?_
  refine (head_any p _).mono ?_
  rintro e w1 ⟨rfl, hx⟩
  replace hE := hE.out
  replace hb0 := hb0.out
  replace hb1 := hb1.out
  replace hb2 := hb2.out
  replace hE := ext_trans hE hx
  replace hb0 := (hx.block _ (heap_lt hb0)).trans hb0
  replace hb1 := (hx.block _ (heap_lt hb1)).trans hb1
  replace hb2 := (hx.block _ (heap_lt hb2)).trans hb2
  clear hx
  clear c0 c1 c2 c3 c4 c5 lt
  replace hE := Lib.hid hE
  replace hb0 := Lib.hid hb0
  replace hb1 := Lib.hid hb1
  replace hb2 := Lib.hid hb2
  go_wp2_with (go_at_call 36; refine Hid.out ?_)
  refine Lib.hid ?_
  refine (get_PT p.headF w1).mono ?_
  rintro e w2 ⟨v1, F1, rfl, hx, hp1, hbn1, hsub⟩
  replace hE := hE.out
  replace hb0 := hb0.out
  replace hb1 := hb1.out
  replace hb2 := hb2.out
  have hn1 : ¬ F1 (w.heap.size + 1 + 1) := fun h => (hsub _ h).elim (fun h => h) fun h => by have := heap_lt hb2; omega
  have hs1 : ∀ j, F1 j → noF j ∨ w.heap.size ≤ j := fun j hj => (hsub j hj).imp_right fun h => Nat.le_trans hE.size h
  replace hE := ext_trans hE hx
  replace hb0 := (hx.block _ (heap_lt hb0)).trans hb0
  replace hb1 := (hx.block _ (heap_lt hb1)).trans hb1
  replace hb2 := (hx.block _ (heap_lt hb2)).trans hb2
  clear hx hsub
  replace hE := Lib.hid hE
  replace hb0 := Lib.hid hb0
  replace hb1 := Lib.hid hb1
  replace hb2 := Lib.hid hb2
  replace hp1 := Lib.hid hp1
  replace hbn1 := Lib.hid hbn1
  replace hs1 := Lib.hid hs1
  replace hn1 := Lib.hid hn1
  go_wp2_with (go_at_call 35; refine Hid.out ?_)
  refine Lib.hid ?_
  replace hE := hE.out
  replace hb0 := hb0.out
  replace hb1 := hb1.out
  replace hb2 := hb2.out
  replace hp1 := hp1.out
  replace hbn1 := hbn1.out
  replace hs1 := hs1.out
  replace hn1 := hn1.out
  refine (hN.out v1 F1 w.heap.size (w.heap.size + 1) w2 hb0 hb1 hp1 hbn1).mono ?_
  rintro e w' hR
  obtain ⟨v', F', rfl, hX, hp, hbn, hsub, hnF, hbq⟩ := hR.tail (G := noF) (w.heap.size + 1 + 1) hE (heap_lt hb2) (fun h => by rcases h with h | h | h; exact hn1 h; omega; omega) (fun j h => by rcases h with h | h | h; exact hs1 j h; exact .inr (by omega); exact .inr (by omega))
  have hbx := hbq.trans hb2
  clear hbq hR
  clear hE hb0 hb1 hb2 hp1 hbn1 hs1 hn1 hN
  obtain ⟨y, a2, fn2, rfl, hfn⟩ := shI hp
  have hXX := put7_ext (b := w.heap.size + 1 + 1) (.int .i64 y) (.int .i64 a2.op) (.int .i64 a2.at_) (.int .u64 (U a2.a)) (.int .u64 (U a2.b)) (fn2) (.pointer none) hX (by omega)
  have hB := put7_block (.int .i64 y) (.int .i64 a2.op) (.int .i64 a2.at_) (.int .u64 (U a2.a)) (.int .u64 (U a2.b)) (fn2) (.pointer none) hbx
  have hP := hp.agr (Agr.of_put7 (b := w.heap.size + 1 + 1) (.int .i64 y) (.int .i64 a2.op) (.int .i64 a2.at_) (.int .u64 (U a2.a)) (.int .u64 (U a2.b)) (fn2) (.pointer none) hnF)
  have hS : (put7 (w.heap.size + 1 + 1) (.int .i64 y) (.int .i64 a2.op) (.int .i64 a2.at_) (.int .u64 (U a2.a)) (.int .u64 (U a2.b)) (fn2) (.pointer none) w').heap.size = w'.heap.size := put7_size (.int .i64 y) (.int .i64 a2.op) (.int .i64 a2.at_) (.int .u64 (U a2.a)) (.int .u64 (U a2.b)) (fn2) (.pointer none)
  obtain ⟨c0, c1, c2, c3, c4, c5, c6, cz, ll⟩ := sev_of hbx
  rw [put7] at hXX hB hP hS
  have HX := Lib.hid (And.intro hXX (And.intro hB (And.intro hP hS)))
  have HFN := Lib.hid hfn
  have HBN := Lib.hid hbn
  have HSUB := Lib.hid hsub
  clear hXX hB hP hS hX hbx hp hfn hbn hsub hnF
  rcases HFN.out with rfl | ⟨g', caps', rfl⟩
  all_goals
    go_wp2
    clear c0 c1 c2 c3 c4 c5 c6 cz ll
    obtain ⟨hX, hB, hP, hS⟩ := HX.out
    clear HX
    generalize (World.setCell _ (⟨w.heap.size + 1 + 1, 6, none⟩ : Addr) _) = Z at hX hB hP hS ⊢
    obtain ⟨c0, c1, c2, c3, c4, c5, c6, cz, ll⟩ := sev_of hB
    exact bodyPost_ret (by simp only [results, Try.results18, go_sem]; simp [go_sem, c0, c1, c2, c3, c4, c5, c6]) rfl ⟨_, F', rfl, hX, hP, fun j hj => by rw [hS]; exact HBN.out j hj, HSUB.out⟩
set_option maxRecDepth 8000 in
set_option maxHeartbeats 2000000 in
theorem push_none (p : Pl) (n : Int) (w : World) (hq : p.nxF n = -1) : Calls Try.prog 18 #[plV p, .int .i64 n] w (RetP (PT kI (.done (-1))) noF w) := by
  go_enter Try.func18, Try.ntmps18
  go_wp2_with (go_at_call 27; refine Hid.out ?_)
  refine Lib.hid ?_
  have hE : Ext w (((w.alloc (.cells #[.int .i64 p.n, .int .i64 p.t, .int .i64 p.r, .int .i64 p.d, .int .i64 p.b, .int .i64 p.g] 23)).alloc (.cells #[.int .i64 n] 3)).alloc (.cells #[.int .i64 0, .int .i64 0, .int .i64 0, .int .u64 0, .int .u64 0, .nilFunc, .pointer none] 39)) := by repeat (first | exact ext_refl _ | apply ext_alloc)
  have hb0 : (((w.alloc (.cells #[.int .i64 p.n, .int .i64 p.t, .int .i64 p.r, .int .i64 p.d, .int .i64 p.b, .int .i64 p.g] 23)).alloc (.cells #[.int .i64 n] 3)).alloc (.cells #[.int .i64 0, .int .i64 0, .int .i64 0, .int .u64 0, .int .u64 0, .nilFunc, .pointer none] 39)).heap[w.heap.size]? = some (.cells #[.int .i64 p.n, .int .i64 p.t, .int .i64 p.r, .int .i64 p.d, .int .i64 p.b, .int .i64 p.g] 23) := (Below.heap_alloc _ _ _ (by simp <;> omega)).trans ((Below.heap_alloc _ _ _ (by simp <;> omega)).trans (heap_at _ _ _ (by simp)))
  have hb1 : (((w.alloc (.cells #[.int .i64 p.n, .int .i64 p.t, .int .i64 p.r, .int .i64 p.d, .int .i64 p.b, .int .i64 p.g] 23)).alloc (.cells #[.int .i64 n] 3)).alloc (.cells #[.int .i64 0, .int .i64 0, .int .i64 0, .int .u64 0, .int .u64 0, .nilFunc, .pointer none] 39)).heap[w.heap.size + 1]? = some (.cells #[.int .i64 n] 3) := (Below.heap_alloc _ _ _ (by simp <;> omega)).trans (heap_at _ _ _ (by simp))
  have hb2 : (((w.alloc (.cells #[.int .i64 p.n, .int .i64 p.t, .int .i64 p.r, .int .i64 p.d, .int .i64 p.b, .int .i64 p.g] 23)).alloc (.cells #[.int .i64 n] 3)).alloc (.cells #[.int .i64 0, .int .i64 0, .int .i64 0, .int .u64 0, .int .u64 0, .nilFunc, .pointer none] 39)).heap[w.heap.size + 1 + 1]? = some (.cells #[.int .i64 0, .int .i64 0, .int .i64 0, .int .u64 0, .int .u64 0, .nilFunc, .pointer none] 39) := heap_at _ _ _ (by simp)
  have hW : (((w.alloc (.cells #[.int .i64 p.n, .int .i64 p.t, .int .i64 p.r, .int .i64 p.d, .int .i64 p.b, .int .i64 p.g] 23)).alloc (.cells #[.int .i64 n] 3)).alloc (.cells #[.int .i64 0, .int .i64 0, .int .i64 0, .int .u64 0, .int .u64 0, .nilFunc, .pointer none] 39)).heap.size = w.heap.size + 1 + 1 + 1 := by simp
  generalize (((w.alloc (.cells #[.int .i64 p.n, .int .i64 p.t, .int .i64 p.r, .int .i64 p.d, .int .i64 p.b, .int .i64 p.g] 23)).alloc (.cells #[.int .i64 n] 3)).alloc (.cells #[.int .i64 0, .int .i64 0, .int .i64 0, .int .u64 0, .int .u64 0, .nilFunc, .pointer none] 39)) = W at hE hb0 hb1 hb2 hW ⊢
  refine (next_any p n W).mono ?_
  rintro e w0 ⟨rfl, hx⟩
  replace hE := ext_trans hE hx
  replace hb2 := (hx.block _ (heap_lt hb2)).trans hb2
  clear hx hW hb0 hb1
  replace hE := Lib.hid hE
  replace hb2 := Lib.hid hb2
  go_wp2_with (go_at_call 38; refine Hid.out ?_)
  refine Lib.hid ?_
  replace hE := hE.out
  replace hb2 := hb2.out
  refine (doneI_PT (-1) w0).mono ?_
  rintro e w' hR
  obtain ⟨v', F', rfl, hX, hp, hbn, hsub, hnF, hbq⟩ := hR.tail (G := noF) (w.heap.size + 1 + 1) hE (heap_lt hb2) (fun h => h) (fun _ h => h.elim)
  have hbx := hbq.trans hb2
  clear hbq hR
  clear hE hb2
  obtain ⟨y, a2, fn2, rfl, hfn⟩ := shI hp
  have hXX := put7_ext (b := w.heap.size + 1 + 1) (.int .i64 y) (.int .i64 a2.op) (.int .i64 a2.at_) (.int .u64 (U a2.a)) (.int .u64 (U a2.b)) (fn2) (.pointer none) hX (by omega)
  have hB := put7_block (.int .i64 y) (.int .i64 a2.op) (.int .i64 a2.at_) (.int .u64 (U a2.a)) (.int .u64 (U a2.b)) (fn2) (.pointer none) hbx
  have hP := hp.agr (Agr.of_put7 (b := w.heap.size + 1 + 1) (.int .i64 y) (.int .i64 a2.op) (.int .i64 a2.at_) (.int .u64 (U a2.a)) (.int .u64 (U a2.b)) (fn2) (.pointer none) hnF)
  have hS : (put7 (w.heap.size + 1 + 1) (.int .i64 y) (.int .i64 a2.op) (.int .i64 a2.at_) (.int .u64 (U a2.a)) (.int .u64 (U a2.b)) (fn2) (.pointer none) w').heap.size = w'.heap.size := put7_size (.int .i64 y) (.int .i64 a2.op) (.int .i64 a2.at_) (.int .u64 (U a2.a)) (.int .u64 (U a2.b)) (fn2) (.pointer none)
  obtain ⟨c0, c1, c2, c3, c4, c5, c6, cz, ll⟩ := sev_of hbx
  rw [put7] at hXX hB hP hS
  have HX := Lib.hid (And.intro hXX (And.intro hB (And.intro hP hS)))
  have HFN := Lib.hid hfn
  have HBN := Lib.hid hbn
  have HSUB := Lib.hid hsub
  clear hXX hB hP hS hX hbx hp hfn hbn hsub hnF
  rcases HFN.out with rfl | ⟨g', caps', rfl⟩
  all_goals
    go_wp2
    clear c0 c1 c2 c3 c4 c5 c6 cz ll
    obtain ⟨hX, hB, hP, hS⟩ := HX.out
    clear HX
    generalize (World.setCell _ (⟨w.heap.size + 1 + 1, 6, none⟩ : Addr) _) = Z at hX hB hP hS ⊢
    obtain ⟨c0, c1, c2, c3, c4, c5, c6, cz, ll⟩ := sev_of hB
    exact bodyPost_ret (by simp only [results, Try.results18, go_sem]; simp [go_sem, c0, c1, c2, c3, c4, c5, c6]) rfl ⟨_, F', rfl, hX, hP, fun j hj => by rw [hS]; exact HBN.out j hj, HSUB.out⟩
theorem nxF_in {p : Pl} {n : Int} (h : p.nxF n ≠ -1) : p.ok ∧ 0 ≤ n ∧ n < p.n := by
  by_cases hc : p.ok ∧ 0 ≤ n ∧ n < p.n
  · exact hc
  · exact absurd (by unfold Pl.nxF; rw [if_neg hc]) h
theorem push_PT (p : Pl) (n : Int) : ∀ (N : Nat) (w : World), Calls Try.prog 18 #[plV p, .int .i64 n] w (RetP (PT kI (pushT p n N)) noF w)
  | 0, w => by
    unfold pushT
    split
    · rename_i hq
      exact push_none p n w hq
    · rename_i hq
      exact pushW p n _ w hq fun v F B B2 W hB h2 hp hb => (thenM_UI F v _ _ W hp.more).mono fun _ _ h => h.mono fun _ h => h.elim
  | N + 1, w => by
    unfold pushT
    split
    · rename_i hq
      exact push_none p n w hq
    · rename_i hq
      obtain ⟨h1, h2, h3⟩ := nxF_in hq
      have h4 : n < 4611686018427387904 := by unfold Pl.ok at h1; omega
      exact pushW p n _ w hq fun v F B B2 W hB hB2 hp hb => then_UI _ _ F _ v _ W hp (push1_CT p n (pushT p n N) B B2 W h2 h4 hB hB2 fun W => push_PT p n N W) hb (fun j h => by rcases h with rfl | rfl; exact heap_lt hB; exact heap_lt hB2)
end Go.Proofs.Ytpidmbclgfnekaa

/-
  What the call of List comes to. Conditions: a formed plan, whose list stands in the memory.
-/
namespace Go.Proofs.Ytpidmbclgfnekaa
open Go Go.RowKit

theorem wrap64u (x : Int) (h0 : 0 ≤ x) (h1 : x < 18446744073709551616) : IntKind.u64.wrap x = x := by
  rw [IntKind.wrap_u64]
  omega
theorem Ch.at {p : Pl} {M : MS} {n : Int} {l3 : List Int} : ∀ {l1 : List Int}, Ch p M (l1 ++ n :: l3) → M.wd 0 (nxN p n) = nmL l3
  | [], h => h.1
  | _ :: l1, h => Ch.at (l1 := l1) h.2
set_option maxHeartbeats 1000000 in
theorem named_no (p : Pl) (w : World) : Calls Try.prog 25 #[plV p, .int .u64 0] w (Ret (.bool false) w) := by
  go_enter Try.func25, Try.ntmps25
  go_wp2
  go_ret
  exact Ret.mk (by repeat (first | exact ext_refl _ | apply ext_alloc))
set_option maxHeartbeats 1000000 in
theorem named_yes (p : Pl) (n : Int) (h0 : 0 ≤ n) (h1 : n < p.n) (h2 : p.n ≤ 1048576) (w : World) : Calls Try.prog 25 #[plV p, .int .u64 (n + 1)] w (Ret (.bool true) w) := by
  have e0 : ((n + 1 : Int) == 0) = false := by simp; omega
  have e0' : ¬ n + 1 = 0 := by omega
  have e1 : IntKind.u64.wrap p.n = p.n := wrap64u p.n (by omega) (by omega)
  have e2 : decide (n + 1 ≤ p.n) = true := by simp; omega
  go_enter Try.func25, Try.ntmps25
  go_wp2
  go_ret
  exact Ret.bool (y := (n + 1 != 0)) (by simp; omega) (by repeat (first | exact ext_refl _ | apply ext_alloc))
set_option maxHeartbeats 1000000 in
theorem node_int (n : Int) (h0 : 0 ≤ n) (h1 : n < 2097152) (w : World) : Calls Try.prog 26 #[.int .u64 (n + 1)] w (Ret (.int .i64 n) w) := by
  have hu := U_nameW h0 (by omega : n < 4611686018427387904)
  have h := node_PT (nameW n) (nameW_ne0 h0 (by omega)) (by omega) w
  rw [hu, node_name h0 (by omega)] at h
  exact h
def lenV : Value → Nat
  | .slice _ n _ => n
  | _ => 0
theorem lenV_slice (a : Option Addr) (n c : Nat) : lenV (.slice a n c) = n := rfl
theorem newy (w : World) (x : Value) (t : TypeId) (b : Nat) (hb : b = w.heap.size) : (w.alloc (.cells #[x] t)).cell? ⟨b, 0, none⟩ = some x := by
  subst hb
  exact cell_at (hp_at w _ _ rfl) rfl
/-- In the midst of List. -/
structure LstIn (p : Pl) (lo hi : Nat) (L : Lay) (M : MS) (l : List Int) (w : World) (l1 l2 : List Int) (vl : Value) (x : Int) (wr : World) : Prop where
  e : l = l1 ++ l2
  r : IR (w.heap.size + 1) vl l1 wr
  x : x = U (nmL l2)
  ex : Ext w wr
  pb : PBox w.heap.size p wr
  m : MemIn lo hi L M wr
def LstRel (p : Pl) (lo hi : Nat) (L : Lay) (M : MS) (l : List Int) (w : World) (vl vw : Value) (wr : World) : Prop := ∃ l1 l2 x, vw = .int .u64 x ∧ LstIn p lo hi L M l w l1 l2 vl x wr
set_option maxRecDepth 8000 in
set_option maxHeartbeats 2000000 in
theorem flist_any {lo hi : Nat} {L : Lay} {M : MS} {w : World} (p : Pl) (hp : p.ok) (l : List Int) (T : Nat) (hL : FL p M l T) (hM : MemIn lo hi L M w) :
    Calls Try.prog 10 #[plV p, .pointer (some ⟨L.bm, 0, none⟩), .int .i64 0] w (fun e w' => ∃ v, e = .returned v ∧ IR w.heap.size v l w' ∧ Ext w w') := by
  have hz := Lib.hid (head_zero hp)
  have hsp := size_pos hp
  have hn1 : p.n ≤ 1048576 := hp.1.2
  have hn0 : 1 ≤ p.n := hp.1.1
  have hhi := hM.top
  have hle : (l.length : Int) ≤ p.n := nodup_le (by omega) hL.nd hL.rg
  have hsz : M.sz 0 = p.sizeF.toNat := hL.mg.s
  have hM1 : M.n = 1 := hL.mg.n
  have hr0 : (0 : Int) < M.n := by rw [hM1]; omega
  have hr1 : (0 : Int) < M.sz (0 : Int).toNat := by show (0 : Int) < M.sz 0; rw [hsz]; omega
  have HL := Lib.hid hL
  have HM := Lib.hid hM
  have HP := Lib.hid hp
  clear hL hM hp
  go_enter Try.func10, Try.ntmps10
  go_wp2
  have hE : Ext w (w.alloc (.cells #[.int .i64 p.n, .int .i64 p.t, .int .i64 p.r, .int .i64 p.d, .int .i64 p.b, .int .i64 p.g] 23)) := ext_alloc _ (ext_refl w)
  have hb0 : PBox w.heap.size p (w.alloc (.cells #[.int .i64 p.n, .int .i64 p.t, .int .i64 p.r, .int .i64 p.d, .int .i64 p.b, .int .i64 p.g] 23)) := heap_at _ _ _ rfl
  generalize w.alloc (.cells #[.int .i64 p.n, .int .i64 p.t, .int .i64 p.r, .int .i64 p.d, .int .i64 p.b, .int .i64 p.g] 23) = W at hE hb0 ⊢
  have ⟨c0, c1, c2, c3, c4, c5, lt⟩ := hb0.plc
  have HMW := Lib.hid (HM.out.ext hE)
  have HE := Lib.hid hE
  have HB0 := Lib.hid hb0
  clear hE hb0
  refine wp_region_over (by kernel_rfl) (by kernel_rfl) ?_
  repeat (go_big_quiet_step (first | (go_at_call 21; exact over_call (nodeField_any _)) | (go_at_call 24; exact over_call (head_is p _ 0 hz)) | (go_at_call 23; exact over_call (peek_int (HMW.out.over _) 0 0 (U (M.wd 0 0)) (by omega) hr0 (by omega) hr1 (Lib.hid rfl))) | (go_at_call 22; exact over_call (getNd_any (M.wd 0 0) _))))
  refine wpQuiet_nil ?_
  intro _ hw'
  obtain ⟨s1, hw''⟩ := hw'
  subst hw''
  clear c0 c1 c2 c3 c4 c5 lt
  have HI : Hid (LstIn p lo hi L M l w [] l (.slice none 0 0) (U (ndW (M.wd 0 0))) (over W s1)) :=
    Lib.hid ⟨rfl, IR.nil _ _, by rw [HL.out.hd], ext_over s1 HE.out, HB0.out.ext (over_below W s1), HMW.out.over s1⟩
  clear HMW HE HB0
  generalize over W s1 = w1 at HI ⊢
  go_wp2
  go_loopw [7, 8] (fun vl vw wr => LstRel p lo hi L M l w vl vw wr) (fun vl _ _ => l.length - lenV vl)
  case atStart => exact ⟨[], l, _, rfl, HI.out⟩
  case round =>
    obtain ⟨l1, l2, x, rfl, hR⟩ := hrel
    have HR := Lib.hid hR
    obtain ⟨va, vc, rfl⟩ := hR.r.slice
    have ⟨c0, c1, c2, c3, c4, c5, lt⟩ := hR.pb.plc
    have he := hR.e
    have hx := hR.x
    have hsx := hR.ex.size
    clear hR HI
    cases l2 with
    | nil =>
      have hx0 : x = 0 := by rw [hx]; exact U_0
      subst hx0
      clear hx
      go_wp2_with (go_at_call 25; refine (named_no p _).mono ?_; rintro e w2 ⟨rfl, hx2⟩; have HX2 := Lib.hid hx2; clear hx2)
      go_ret
      rw [List.append_nil] at he
      subst he
      exact ⟨_, rfl, (HR.out.r.ext HX2.out).mono (Nat.le_succ _), ext_trans HR.out.ex HX2.out⟩
    | cons n l3 =>
      have hlen : l.length = l1.length + (l3.length + 1) := by rw [he]; simp
      have hn : InR p n := HL.out.rg n (by rw [he]; simp)
      have hxn : x = n + 1 := by rw [hx]; exact U_nameW hn.1 (by have := hn.2; omega)
      subst hxn
      have hnx := nx_in HP.out hn
      have q1 : decide ((l1.length : Int) < p.n) = true := by simp; omega
      have hch : M.wd 0 (nxN p n) = nmL l3 := Ch.at (l1 := l1) (by rw [← he]; exact HL.out.ch)
      have hpk : Hid (U (M.wd (0 : Int).toNat (p.nxF n).toNat) = U (nmL l3)) := Lib.hid (by rw [← hch]; rfl)
      have hr2 : p.nxF n < M.sz (0 : Int).toNat := by show p.nxF n < M.sz 0; rw [hsz]; omega
      have HE := Lib.hid he
      have hl1 : l1.length ≤ 2000000 := by omega
      have hnl := hn.1
      have hnu := hn.2
      clear he hx hch
      go_wp2_with (first
        | (go_at_call 25; refine (named_yes p n hn.1 hn.2 hn1 _).mono ?_; rintro e w2 ⟨rfl, hx2⟩; have c0 := ext_cell hx2 c0; have lt := cell_lt c0; have HX2 := Lib.hid hx2; clear hx2)
        | (go_at_call 26; refine (node_int n hn.1 (by omega) _).mono ?_; rintro e w3 ⟨rfl, hx3⟩; have HX3 := Lib.hid (ext_trans HX2.out hx3); clear hx3)
        | (at_builtin; refine wpList_irow rfl (.tmp 29) (.tmp 31) rfl (w.heap.size + 1) _ l1 rfl (HR.out.r.ext (ext_alloc _ HX3.out)) ⟨w3.heap.size, 0, none⟩ n rfl (newy _ _ _ _ rfl) hl1 (by have := heap_lt HR.out.pb; have := HX3.out.size; simp; omega) ?_; intro v4 w4 hv4 hg4 hn4; refine Hid.out ?_))
      refine Lib.hid ?_
      have hI3 := HR.out.r.ext (ext_alloc (.cells #[.int .i64 n] 3) HX3.out)
      have hX4 := grown_ext (ext_trans HR.out.ex (ext_alloc (.cells #[.int .i64 n] 3) HX3.out)) hI3 hg4 (Nat.le_succ _)
      have hlt4 := heap_lt (HR.out.pb.ext (ext_alloc (.cells #[.int .i64 n] 3) HX3.out))
      have hP4 : PBox w.heap.size p w4 := (grown_at hI3 hg4 hlt4 (Nat.lt_succ_self _)).trans (HR.out.pb.ext (ext_alloc (.cells #[.int .i64 n] 3) HX3.out))
      have hM4 : MemIn lo hi L M w4 := (HR.out.m.ext (ext_alloc (.cells #[.int .i64 n] 3) HX3.out)).keep hg4.size fun k _ hk => grown_at hI3 hg4 (by omega) (by omega)
      clear c1 c2 c3 c4 c5
      have ⟨c0, c1, c2, c3, c4, c5, lt⟩ := hP4.plc
      have HV4 := Lib.hid hv4
      have HX4 := Lib.hid hX4
      have HP4 := Lib.hid hP4
      have HM4 := Lib.hid hM4
      obtain ⟨v4a, v4c, rfl⟩ := hv4.slice
      clear hv4 hg4 hn4 hI3 hX4 hP4 hM4
      go_wp2_with (first
        | (go_at_call 27; refine (next_any p n _).mono ?_; rintro e w5 ⟨rfl, hx5⟩; have HX5 := Lib.hid hx5; clear hx5)
        | (go_at_call 23; refine (peek_int (HM4.out.ext HX5.out) 0 (p.nxF n) _ (by omega) hr0 (by omega) hr2 hpk).mono ?_; rintro e w6 ⟨rfl, hx6⟩; have HX6 := Lib.hid (ext_trans HX5.out hx6); clear hx6))
      refine ⟨⟨l1 ++ [n], l3, _, rfl, ?_⟩, ?_⟩
      · exact ⟨by rw [HE.out]; simp, by simpa using HV4.out.ext HX6.out, rfl, ext_trans HX4.out HX6.out, HP4.out.ext HX6.out, HM4.out.ext HX6.out⟩
      · simp [lenV]
        omega
end Go.Proofs.Ytpidmbclgfnekaa
