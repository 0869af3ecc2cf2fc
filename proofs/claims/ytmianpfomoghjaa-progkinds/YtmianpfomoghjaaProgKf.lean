/-
  What the calls of ask, Get, Then, Set and Try come to. Conditions: those of each theorem.
-/
import Derived.Test.YtmianpfomoghjaaProgKd
namespace Go.Proofs.Ytmianpfomoghjaa
open Go Go.RowKit

set_option maxRecDepth 8000 in
set_option maxHeartbeats 1000000 in
theorem overNU (x : Int) (a : Acc) (f : Fn) (y z : Array Value) (w : World) : Calls Try.prog 57 #[.agg #[.int .u64 x, .int .i64 a.op, .int .i64 a.at_, .int .u64 (U a.a), .int .u64 (U a.b), .func f y z, .pointer none]] w (Ret (.tuple #[.int .u64 0, .bool false]) w) := by
  have n0 : ∀ f x y w, (binOp .neq 81 (.func f x y) .nilFunc).run Try.prog w = .ok (.bool true) w := fun f x y w => neq_fn w fnU f x y
  go_enter Try.func57, Try.ntmps57
  go_wp2
  go_ret2
  exact Ret.mk (ext_alloc _ (ext_refl w))
theorem fnDone (D : Nat → Prop) (w : World) : FnX D (.func (.func 69) #[] #[]) (fun x => .agg #[.int .u64 (U x), .int .i64 0, .int .i64 0, .int .u64 0, .int .u64 0, .nilFunc, .pointer none]) w :=
  ⟨_, _, rfl, enters_of Try.func69 (by kernel_rfl) rfl, fun x w' _ => doneU (U x) w'⟩
set_option maxRecDepth 8000 in
set_option maxHeartbeats 1000000 in
theorem ask_any (a : Acc) (w : World) : Calls Try.prog 48 #[.agg #[.int .i64 a.op, .int .i64 a.at_, .int .u64 (U a.a), .int .u64 (U a.b)]] w (Ret (.agg #[.int .u64 0, .int .i64 a.op, .int .i64 a.at_, .int .u64 (U a.a), .int .u64 (U a.b), .func (.func 69) #[] #[], .pointer none]) w) := by
  go_enter Try.func48, Try.ntmps48
  go_wp2
  exact bodyPost_ret (v := .agg #[.int .u64 0, .int .i64 a.op, .int .i64 a.at_, .int .u64 (U a.a), .int .u64 (U a.b), .func (.func 69) #[] #[], .pointer none]) (by simp [results, Try.results48, go_sem]) rfl (Ret.mk (ext_alloc _ (ext_alloc _ (ext_refl w))))

set_option maxRecDepth 8000 in
set_option maxHeartbeats 1000000 in
theorem thenON (g : FuncId) (caps : Array Value)  (x : BitVec 64) (w : World) (hg : ∀ args w, (callFunc g args).run Try.prog w = .ok (.enter g args) w) (hN : ∀ W, Ext w W → Calls Try.prog g (#[.int .u64 (U x)] ++ caps) W (Ret (.agg #[.int .i64 0, .int .i64 0, .int .u64 0, .int .u64 0, .nilFunc, .pointer none]) W)) :
    Calls Try.prog 47 #[.agg #[.int .u64 (U x), .int .i64 0, .int .i64 0, .int .u64 0, .int .u64 0, .nilFunc, .pointer none], .func (.func g) #[] caps] w (Ret (.agg #[.int .i64 0, .int .i64 0, .int .u64 0, .int .u64 0, .nilFunc, .pointer none]) w) := by
  have HN := Lib.hid hN
  clear hN
  go_enter Try.func47, Try.ntmps47
  go_wp2_with (go_at_call 57; refine (overYU (U x) 0 0 0 0 _).mono ?_; rintro e w1 ⟨rfl, hx⟩; refine Hid.out ?_)
  refine Lib.hid ?_
  have hb2 := (hx.block (w.heap.size + 1) (by simp)).trans ((Below.heap_alloc _ _ _ (by simp)).trans (heap_at (w.alloc (.cells #[.int .u64 (U x), .int .i64 0, .int .i64 0, .int .u64 0, .int .u64 0, .nilFunc, .pointer none] 83)) _ _ (by simp)))
  have hb3 := (hx.block (w.heap.size + 1 + 1) (by simp)).trans (heap_at ((w.alloc (.cells #[.int .u64 (U x), .int .i64 0, .int .i64 0, .int .u64 0, .int .u64 0, .nilFunc, .pointer none] 83)).alloc (.cells #[.func (.func g) #[] caps] 69)) _ _ (by simp))
  have hE : Ext w w1 := ext_trans (ext_alloc _ (ext_alloc _ (ext_alloc _ (ext_refl w)))) hx
  have k0 := cell_at (o := 0) hb2 rfl
  have l0 := heap_lt hb2
  have HE := Lib.hid hE
  have HB3 := Lib.hid hb3
  have HCX := Lib.hid (HN.out w1 hE)
  clear hx hb2 hb3 hE HN
  go_wp2_with (refine HCX.out.mono ?_; rintro e2 w2 ⟨rfl, hx⟩; refine Hid.out ?_)
  refine Lib.hid ?_
  have hbx := (hx.block _ (heap_lt HB3.out)).trans HB3.out
  have hX := put6_ext (b := w.heap.size + 1 + 1) (.int .i64 0) (.int .i64 0) (.int .u64 0) (.int .u64 0) (.nilFunc) (.pointer none) (ext_trans HE.out hx) (by omega)
  have hB := put6_block (.int .i64 0) (.int .i64 0) (.int .u64 0) (.int .u64 0) (.nilFunc) (.pointer none) hbx
  obtain ⟨c0, c1, c2, c3, c4, c5, cz, ll⟩ := six_of hbx
  rw [put6] at hX hB
  have HX := Lib.hid hX
  have HB := Lib.hid hB
  clear hX hB hx hbx
  go_wp2
  clear c0 c1 c2 c3 c4 c5 cz ll
  replace HX := HX.out
  replace HB := HB.out
  generalize (World.setCell _ (⟨w.heap.size + 1 + 1, 5, none⟩ : Addr) _) = Z at HB HX ⊢
  obtain ⟨c0, c1, c2, c3, c4, c5, cz, ll⟩ := six_of HB
  exact bodyPost_ret (by simp only [results, Try.results47, go_sem]; simp [go_sem, c0, c1, c2, c3, c4, c5]) rfl (Ret.mk HX)

set_option maxRecDepth 8000 in
set_option maxHeartbeats 1000000 in
theorem thenAN (a : Acc) (g : FuncId) (caps : Array Value) (w : World) :
    Calls Try.prog 47 #[.agg #[.int .u64 0, .int .i64 a.op, .int .i64 a.at_, .int .u64 (U a.a), .int .u64 (U a.b), .func (.func 69) #[] #[], .pointer none], .func (.func g) #[] caps] w fun e w' => e = .returned (.agg #[.int .i64 a.op, .int .i64 a.at_, .int .u64 (U a.a), .int .u64 (U a.b), .func (.func 68) #[] #[.pointer (some ⟨w.heap.size, 0, none⟩), .pointer (some ⟨w.heap.size + 1, 0, none⟩)], .pointer none]) ∧ Ext w w' ∧ w'.cell? ⟨w.heap.size, 5, none⟩ = some (.func (.func 69) #[] #[]) ∧ w'.cell? ⟨w.heap.size + 1, 0, none⟩ = some (.func (.func g) #[] caps) := by
  go_enter Try.func47, Try.ntmps47
  go_wp2_with (go_at_call 57; refine (overNU 0 a _ _ _ _).mono ?_; rintro e w1 ⟨rfl, hx⟩; refine Hid.out ?_)
  refine Lib.hid ?_
  have hb1 := (hx.block w.heap.size (by simp; omega)).trans ((Below.heap_alloc _ _ _ (by simp; omega)).trans ((Below.heap_alloc _ _ _ (by simp)).trans (heap_at w (.cells #[.int .u64 0, .int .i64 a.op, .int .i64 a.at_, .int .u64 (U a.a), .int .u64 (U a.b), .func (.func 69) #[] #[], .pointer none] 83) _ rfl)))
  have hb2 := (hx.block (w.heap.size + 1) (by simp)).trans ((Below.heap_alloc _ _ _ (by simp)).trans (heap_at (w.alloc (.cells #[.int .u64 0, .int .i64 a.op, .int .i64 a.at_, .int .u64 (U a.a), .int .u64 (U a.b), .func (.func 69) #[] #[], .pointer none] 83)) _ _ (by simp)))
  have hb3 := (hx.block (w.heap.size + 1 + 1) (by simp)).trans (heap_at ((w.alloc (.cells #[.int .u64 0, .int .i64 a.op, .int .i64 a.at_, .int .u64 (U a.a), .int .u64 (U a.b), .func (.func 69) #[] #[], .pointer none] 83)).alloc (.cells #[.func (.func g) #[] caps] 69)) _ _ (by simp))
  have hE : Ext w w1 := ext_trans (ext_alloc _ (ext_alloc _ (ext_alloc _ (ext_refl w)))) hx
  obtain ⟨d0, d1, d2, d3, d4, d5, d6, dz, dl⟩ := sev_of hb1
  have hX := put6_ext (b := w.heap.size + 1 + 1) (.int .i64 a.op) (.int .i64 a.at_) (.int .u64 (U a.a)) (.int .u64 (U a.b)) (.func (.func 68) #[] #[.pointer (some ⟨w.heap.size, 0, none⟩), .pointer (some ⟨w.heap.size + 1, 0, none⟩)]) (.pointer none) hE (by omega)
  have hB := put6_block (.int .i64 a.op) (.int .i64 a.at_) (.int .u64 (U a.a)) (.int .u64 (U a.b)) (.func (.func 68) #[] #[.pointer (some ⟨w.heap.size, 0, none⟩), .pointer (some ⟨w.heap.size + 1, 0, none⟩)]) (.pointer none) hb3
  have hA1 := (put6_other (w := w1) (b := w.heap.size + 1 + 1) (k := w.heap.size) (.int .i64 a.op) (.int .i64 a.at_) (.int .u64 (U a.a)) (.int .u64 (U a.b)) (.func (.func 68) #[] #[.pointer (some ⟨w.heap.size, 0, none⟩), .pointer (some ⟨w.heap.size + 1, 0, none⟩)]) (.pointer none) (by omega)).trans hb1
  have hA2 := (put6_other (w := w1) (b := w.heap.size + 1 + 1) (k := w.heap.size + 1) (.int .i64 a.op) (.int .i64 a.at_) (.int .u64 (U a.a)) (.int .u64 (U a.b)) (.func (.func 68) #[] #[.pointer (some ⟨w.heap.size, 0, none⟩), .pointer (some ⟨w.heap.size + 1, 0, none⟩)]) (.pointer none) (by omega)).trans hb2
  obtain ⟨c0, c1, c2, c3, c4, c5, cz, ll⟩ := six_of hb3
  rw [put6] at hX hB hA1 hA2
  have HX := Lib.hid (And.intro hX (And.intro hB (And.intro hA1 hA2)))
  clear hX hB hA1 hA2 hb1 hb2 hb3 hE hx
  go_wp2
  clear c0 c1 c2 c3 c4 c5 cz ll
  obtain ⟨hX, hB, hA1, hA2⟩ := HX.out
  clear HX
  generalize (World.setCell _ (⟨w.heap.size + 1 + 1, 5, none⟩ : Addr) _) = Z at hX hB hA1 hA2 ⊢
  obtain ⟨c0, c1, c2, c3, c4, c5, cz, ll⟩ := six_of hB
  exact bodyPost_ret (by simp only [results, Try.results47, go_sem]; simp [go_sem, c0, c1, c2, c3, c4, c5]) rfl ⟨rfl, hX, cell_at hA1 rfl, cell_at hA2 rfl⟩
set_option maxRecDepth 8000 in
set_option maxHeartbeats 1000000 in
theorem then1N (g : FuncId) (caps : Array Value)  (x : BitVec 64) (B1 B2 : Nat) (w : World) (k1 : w.cell? ⟨B1, 5, none⟩ = some (.func (.func 69) #[] #[])) (k2 : w.cell? ⟨B2, 0, none⟩ = some (.func (.func g) #[] caps)) (hg : ∀ args w, (callFunc g args).run Try.prog w = .ok (.enter g args) w) (hN : ∀ W, Ext w W → Calls Try.prog g (#[.int .u64 (U x)] ++ caps) W (Ret (.agg #[.int .i64 0, .int .i64 0, .int .u64 0, .int .u64 0, .nilFunc, .pointer none]) W)) :
    Calls Try.prog 68 #[.int .u64 (U x), .pointer (some ⟨B1, 0, none⟩), .pointer (some ⟨B2, 0, none⟩)] w (Ret (.agg #[.int .i64 0, .int .i64 0, .int .u64 0, .int .u64 0, .nilFunc, .pointer none]) w) := by
  have HN := Lib.hid hN
  have HG := Lib.hid hg
  have l1 := cell_lt k1
  have l2 := cell_lt k2
  clear hN hg
  go_enter Try.func68, Try.ntmps68
  go_wp2
  have m1 := ext_cell (ext_alloc (.cells #[.int .i64 0, .int .i64 0, .int .u64 0, .int .u64 0, .nilFunc, .pointer none] 71) (ext_refl w)) k1
  have m2 := ext_cell (ext_alloc (.cells #[.int .i64 0, .int .i64 0, .int .u64 0, .int .u64 0, .nilFunc, .pointer none] 71) (ext_refl w)) k2
  have hE : Ext w (w.alloc (.cells #[.int .i64 0, .int .i64 0, .int .u64 0, .int .u64 0, .nilFunc, .pointer none] 71)) := ext_alloc _ (ext_refl w)
  have hb := heap_at w (.cells #[.int .i64 0, .int .i64 0, .int .u64 0, .int .u64 0, .nilFunc, .pointer none] 71) w.heap.size rfl
  generalize w.alloc (.cells #[.int .i64 0, .int .i64 0, .int .u64 0, .int .u64 0, .nilFunc, .pointer none] 71) = W at m1 m2 hE hb ⊢
  have n1 := cell_lt m1
  have n2 := cell_lt m2
  have HE := Lib.hid hE
  have HB := Lib.hid hb
  clear hE hb
  refine wp_region_mix (fun w' => ∃ s, w' = over W s) [(0, [0, 1, 2, 4]), (1, [3]), (1, [5]), (2, [6])] (by kernel_rfl) (by kernel_rfl) (over_of (ext_drew (ext_refl W))) ?_
  simp only [pieces, pickL, List.map_cons, List.map_nil, List.getD_cons_zero, List.getD_cons_succ]
  refine mix_reads ?_
  repeat (go_big_quiet_step (fail))
  refine wpQuiet_nil (mix_acts ?_)
  go_wp2_with (go_at_call 69; refine (doneU (U x) _).mono ?_; rintro e w1 ⟨rfl, hx⟩; have HX1 := Lib.hid (ext_trans (ext_drew (ext_refl W)) hx); clear hx)
  refine mixQ_mk (over_of HX1.out) (mix_acts ?_)
  go_wp2_with (go_at_call 47; refine (thenON g caps  x w1 HG.out (fun V hV => HN.out V (ext_trans (ext_trans HE.out HX1.out) hV))).mono ?_; rintro e w2 ⟨rfl, hx⟩; have HX2 := Lib.hid (ext_trans HX1.out hx); clear hx)
  refine mixQ_mk (over_of HX2.out) (mix_late ?_)
  have hbx := (HX2.out.block _ (heap_lt HB.out)).trans HB.out
  have hX := put6_ext (b := w.heap.size) (.int .i64 0) (.int .i64 0) (.int .u64 0) (.int .u64 0) (.nilFunc) (.pointer none) (ext_trans HE.out HX2.out) (Nat.le_refl _)
  have hB := put6_block (.int .i64 0) (.int .i64 0) (.int .u64 0) (.int .u64 0) (.nilFunc) (.pointer none) hbx
  obtain ⟨c0, c1, c2, c3, c4, c5, cz, ll⟩ := six_of hbx
  rw [put6] at hX hB
  have HX := Lib.hid hX
  have HBB := Lib.hid hB
  clear hX hB hbx
  go_wp2
  refine lateQ_mk (fun _ => True) trivial (mix_end ?_)
  clear c0 c1 c2 c3 c4 c5 cz ll
  replace HX := HX.out
  replace HBB := HBB.out
  generalize (World.setCell _ (⟨w.heap.size, 5, none⟩ : Addr) _) = Z at HBB HX ⊢
  obtain ⟨c0, c1, c2, c3, c4, c5, cz, ll⟩ := six_of HBB
  go_wp2
  exact bodyPost_ret (by simp only [results, Try.results68, go_sem]; simp [go_sem, c0, c1, c2, c3, c4, c5]) rfl (Ret.mk HX)

set_option maxRecDepth 8000 in
set_option maxHeartbeats 1000000 in
theorem thenOB (g : FuncId) (caps : Array Value) (y : BitVec 64 → Bool) (x : BitVec 64) (w : World) (hg : ∀ args w, (callFunc g args).run Try.prog w = .ok (.enter g args) w) (hN : ∀ W, Ext w W → Calls Try.prog g (#[.int .u64 (U x)] ++ caps) W (Ret (.agg #[.bool (y x), .int .i64 0, .int .i64 0, .int .u64 0, .int .u64 0, .nilFunc, .pointer none]) W)) :
    Calls Try.prog 53 #[.agg #[.int .u64 (U x), .int .i64 0, .int .i64 0, .int .u64 0, .int .u64 0, .nilFunc, .pointer none], .func (.func g) #[] caps] w (Ret (.agg #[.bool (y x), .int .i64 0, .int .i64 0, .int .u64 0, .int .u64 0, .nilFunc, .pointer none]) w) := by
  have HN := Lib.hid hN
  clear hN
  go_enter Try.func53, Try.ntmps53
  go_wp2_with (go_at_call 57; refine (overYU (U x) 0 0 0 0 _).mono ?_; rintro e w1 ⟨rfl, hx⟩; refine Hid.out ?_)
  refine Lib.hid ?_
  have hb2 := (hx.block (w.heap.size + 1) (by simp)).trans ((Below.heap_alloc _ _ _ (by simp)).trans (heap_at (w.alloc (.cells #[.int .u64 (U x), .int .i64 0, .int .i64 0, .int .u64 0, .int .u64 0, .nilFunc, .pointer none] 83)) _ _ (by simp)))
  have hb3 := (hx.block (w.heap.size + 1 + 1) (by simp)).trans (heap_at ((w.alloc (.cells #[.int .u64 (U x), .int .i64 0, .int .i64 0, .int .u64 0, .int .u64 0, .nilFunc, .pointer none] 83)).alloc (.cells #[.func (.func g) #[] caps] 75)) _ _ (by simp))
  have hE : Ext w w1 := ext_trans (ext_alloc _ (ext_alloc _ (ext_alloc _ (ext_refl w)))) hx
  have k0 := cell_at (o := 0) hb2 rfl
  have l0 := heap_lt hb2
  have HE := Lib.hid hE
  have HB3 := Lib.hid hb3
  have HCX := Lib.hid (HN.out w1 hE)
  clear hx hb2 hb3 hE HN
  go_wp2_with (refine HCX.out.mono ?_; rintro e2 w2 ⟨rfl, hx⟩; refine Hid.out ?_)
  refine Lib.hid ?_
  have hbx := (hx.block _ (heap_lt HB3.out)).trans HB3.out
  have hX := put7_ext (b := w.heap.size + 1 + 1) (.bool (y x)) (.int .i64 0) (.int .i64 0) (.int .u64 0) (.int .u64 0) (.nilFunc) (.pointer none) (ext_trans HE.out hx) (by omega)
  have hB := put7_block (.bool (y x)) (.int .i64 0) (.int .i64 0) (.int .u64 0) (.int .u64 0) (.nilFunc) (.pointer none) hbx
  obtain ⟨c0, c1, c2, c3, c4, c5, c6, cz, ll⟩ := sev_of hbx
  rw [put7] at hX hB
  have HX := Lib.hid hX
  have HB := Lib.hid hB
  clear hX hB hx hbx
  go_wp2
  clear c0 c1 c2 c3 c4 c5 c6 cz ll
  replace HX := HX.out
  replace HB := HB.out
  generalize (World.setCell _ (⟨w.heap.size + 1 + 1, 6, none⟩ : Addr) _) = Z at HB HX ⊢
  obtain ⟨c0, c1, c2, c3, c4, c5, c6, cz, ll⟩ := sev_of HB
  exact bodyPost_ret (by simp only [results, Try.results53, go_sem]; simp [go_sem, c0, c1, c2, c3, c4, c5, c6]) rfl (Ret.mk HX)

set_option maxRecDepth 8000 in
set_option maxHeartbeats 1000000 in
theorem thenAB (a : Acc) (g : FuncId) (caps : Array Value) (w : World) :
    Calls Try.prog 53 #[.agg #[.int .u64 0, .int .i64 a.op, .int .i64 a.at_, .int .u64 (U a.a), .int .u64 (U a.b), .func (.func 69) #[] #[], .pointer none], .func (.func g) #[] caps] w fun e w' => e = .returned (.agg #[.bool false, .int .i64 a.op, .int .i64 a.at_, .int .u64 (U a.a), .int .u64 (U a.b), .func (.func 71) #[] #[.pointer (some ⟨w.heap.size, 0, none⟩), .pointer (some ⟨w.heap.size + 1, 0, none⟩)], .pointer none]) ∧ Ext w w' ∧ w'.cell? ⟨w.heap.size, 5, none⟩ = some (.func (.func 69) #[] #[]) ∧ w'.cell? ⟨w.heap.size + 1, 0, none⟩ = some (.func (.func g) #[] caps) := by
  go_enter Try.func53, Try.ntmps53
  go_wp2_with (go_at_call 57; refine (overNU 0 a _ _ _ _).mono ?_; rintro e w1 ⟨rfl, hx⟩; refine Hid.out ?_)
  refine Lib.hid ?_
  have hb1 := (hx.block w.heap.size (by simp; omega)).trans ((Below.heap_alloc _ _ _ (by simp; omega)).trans ((Below.heap_alloc _ _ _ (by simp)).trans (heap_at w (.cells #[.int .u64 0, .int .i64 a.op, .int .i64 a.at_, .int .u64 (U a.a), .int .u64 (U a.b), .func (.func 69) #[] #[], .pointer none] 83) _ rfl)))
  have hb2 := (hx.block (w.heap.size + 1) (by simp)).trans ((Below.heap_alloc _ _ _ (by simp)).trans (heap_at (w.alloc (.cells #[.int .u64 0, .int .i64 a.op, .int .i64 a.at_, .int .u64 (U a.a), .int .u64 (U a.b), .func (.func 69) #[] #[], .pointer none] 83)) _ _ (by simp)))
  have hb3 := (hx.block (w.heap.size + 1 + 1) (by simp)).trans (heap_at ((w.alloc (.cells #[.int .u64 0, .int .i64 a.op, .int .i64 a.at_, .int .u64 (U a.a), .int .u64 (U a.b), .func (.func 69) #[] #[], .pointer none] 83)).alloc (.cells #[.func (.func g) #[] caps] 75)) _ _ (by simp))
  have hE : Ext w w1 := ext_trans (ext_alloc _ (ext_alloc _ (ext_alloc _ (ext_refl w)))) hx
  obtain ⟨d0, d1, d2, d3, d4, d5, d6, dz, dl⟩ := sev_of hb1
  have hX := put7_ext (b := w.heap.size + 1 + 1) (.bool false) (.int .i64 a.op) (.int .i64 a.at_) (.int .u64 (U a.a)) (.int .u64 (U a.b)) (.func (.func 71) #[] #[.pointer (some ⟨w.heap.size, 0, none⟩), .pointer (some ⟨w.heap.size + 1, 0, none⟩)]) (.pointer none) hE (by omega)
  have hB := put7_block (.bool false) (.int .i64 a.op) (.int .i64 a.at_) (.int .u64 (U a.a)) (.int .u64 (U a.b)) (.func (.func 71) #[] #[.pointer (some ⟨w.heap.size, 0, none⟩), .pointer (some ⟨w.heap.size + 1, 0, none⟩)]) (.pointer none) hb3
  have hA1 := (put7_other (w := w1) (b := w.heap.size + 1 + 1) (k := w.heap.size) (.bool false) (.int .i64 a.op) (.int .i64 a.at_) (.int .u64 (U a.a)) (.int .u64 (U a.b)) (.func (.func 71) #[] #[.pointer (some ⟨w.heap.size, 0, none⟩), .pointer (some ⟨w.heap.size + 1, 0, none⟩)]) (.pointer none) (by omega)).trans hb1
  have hA2 := (put7_other (w := w1) (b := w.heap.size + 1 + 1) (k := w.heap.size + 1) (.bool false) (.int .i64 a.op) (.int .i64 a.at_) (.int .u64 (U a.a)) (.int .u64 (U a.b)) (.func (.func 71) #[] #[.pointer (some ⟨w.heap.size, 0, none⟩), .pointer (some ⟨w.heap.size + 1, 0, none⟩)]) (.pointer none) (by omega)).trans hb2
  obtain ⟨c0, c1, c2, c3, c4, c5, c6, cz, ll⟩ := sev_of hb3
  rw [put7] at hX hB hA1 hA2
  have HX := Lib.hid (And.intro hX (And.intro hB (And.intro hA1 hA2)))
  clear hX hB hA1 hA2 hb1 hb2 hb3 hE hx
  go_wp2
  clear c0 c1 c2 c3 c4 c5 c6 cz ll
  obtain ⟨hX, hB, hA1, hA2⟩ := HX.out
  clear HX
  generalize (World.setCell _ (⟨w.heap.size + 1 + 1, 6, none⟩ : Addr) _) = Z at hX hB hA1 hA2 ⊢
  obtain ⟨c0, c1, c2, c3, c4, c5, c6, cz, ll⟩ := sev_of hB
  exact bodyPost_ret (by simp only [results, Try.results53, go_sem]; simp [go_sem, c0, c1, c2, c3, c4, c5, c6]) rfl ⟨rfl, hX, cell_at hA1 rfl, cell_at hA2 rfl⟩
set_option maxRecDepth 8000 in
set_option maxHeartbeats 1000000 in
theorem then1B (g : FuncId) (caps : Array Value) (y : BitVec 64 → Bool) (x : BitVec 64) (B1 B2 : Nat) (w : World) (k1 : w.cell? ⟨B1, 5, none⟩ = some (.func (.func 69) #[] #[])) (k2 : w.cell? ⟨B2, 0, none⟩ = some (.func (.func g) #[] caps)) (hg : ∀ args w, (callFunc g args).run Try.prog w = .ok (.enter g args) w) (hN : ∀ W, Ext w W → Calls Try.prog g (#[.int .u64 (U x)] ++ caps) W (Ret (.agg #[.bool (y x), .int .i64 0, .int .i64 0, .int .u64 0, .int .u64 0, .nilFunc, .pointer none]) W)) :
    Calls Try.prog 71 #[.int .u64 (U x), .pointer (some ⟨B1, 0, none⟩), .pointer (some ⟨B2, 0, none⟩)] w (Ret (.agg #[.bool (y x), .int .i64 0, .int .i64 0, .int .u64 0, .int .u64 0, .nilFunc, .pointer none]) w) := by
  have HN := Lib.hid hN
  have HG := Lib.hid hg
  have l1 := cell_lt k1
  have l2 := cell_lt k2
  clear hN hg
  go_enter Try.func71, Try.ntmps71
  go_wp2
  have m1 := ext_cell (ext_alloc (.cells #[.bool false, .int .i64 0, .int .i64 0, .int .u64 0, .int .u64 0, .nilFunc, .pointer none] 77) (ext_refl w)) k1
  have m2 := ext_cell (ext_alloc (.cells #[.bool false, .int .i64 0, .int .i64 0, .int .u64 0, .int .u64 0, .nilFunc, .pointer none] 77) (ext_refl w)) k2
  have hE : Ext w (w.alloc (.cells #[.bool false, .int .i64 0, .int .i64 0, .int .u64 0, .int .u64 0, .nilFunc, .pointer none] 77)) := ext_alloc _ (ext_refl w)
  have hb := heap_at w (.cells #[.bool false, .int .i64 0, .int .i64 0, .int .u64 0, .int .u64 0, .nilFunc, .pointer none] 77) w.heap.size rfl
  generalize w.alloc (.cells #[.bool false, .int .i64 0, .int .i64 0, .int .u64 0, .int .u64 0, .nilFunc, .pointer none] 77) = W at m1 m2 hE hb ⊢
  have n1 := cell_lt m1
  have n2 := cell_lt m2
  have HE := Lib.hid hE
  have HB := Lib.hid hb
  clear hE hb
  refine wp_region_mix (fun w' => ∃ s, w' = over W s) [(0, [0, 1, 2, 4]), (1, [3]), (1, [5]), (2, [6])] (by kernel_rfl) (by kernel_rfl) (over_of (ext_drew (ext_refl W))) ?_
  simp only [pieces, pickL, List.map_cons, List.map_nil, List.getD_cons_zero, List.getD_cons_succ]
  refine mix_reads ?_
  repeat (go_big_quiet_step (fail))
  refine wpQuiet_nil (mix_acts ?_)
  go_wp2_with (go_at_call 69; refine (doneU (U x) _).mono ?_; rintro e w1 ⟨rfl, hx⟩; have HX1 := Lib.hid (ext_trans (ext_drew (ext_refl W)) hx); clear hx)
  refine mixQ_mk (over_of HX1.out) (mix_acts ?_)
  go_wp2_with (go_at_call 53; refine (thenOB g caps y x w1 HG.out (fun V hV => HN.out V (ext_trans (ext_trans HE.out HX1.out) hV))).mono ?_; rintro e w2 ⟨rfl, hx⟩; have HX2 := Lib.hid (ext_trans HX1.out hx); clear hx)
  refine mixQ_mk (over_of HX2.out) (mix_late ?_)
  have hbx := (HX2.out.block _ (heap_lt HB.out)).trans HB.out
  have hX := put7_ext (b := w.heap.size) (.bool (y x)) (.int .i64 0) (.int .i64 0) (.int .u64 0) (.int .u64 0) (.nilFunc) (.pointer none) (ext_trans HE.out HX2.out) (Nat.le_refl _)
  have hB := put7_block (.bool (y x)) (.int .i64 0) (.int .i64 0) (.int .u64 0) (.int .u64 0) (.nilFunc) (.pointer none) hbx
  obtain ⟨c0, c1, c2, c3, c4, c5, c6, cz, ll⟩ := sev_of hbx
  rw [put7] at hX hB
  have HX := Lib.hid hX
  have HBB := Lib.hid hB
  clear hX hB hbx
  go_wp2
  refine lateQ_mk (fun _ => True) trivial (mix_end ?_)
  clear c0 c1 c2 c3 c4 c5 c6 cz ll
  replace HX := HX.out
  replace HBB := HBB.out
  generalize (World.setCell _ (⟨w.heap.size, 6, none⟩ : Addr) _) = Z at HBB HX ⊢
  obtain ⟨c0, c1, c2, c3, c4, c5, c6, cz, ll⟩ := sev_of HBB
  go_wp2
  exact bodyPost_ret (by simp only [results, Try.results71, go_sem]; simp [go_sem, c0, c1, c2, c3, c4, c5, c6]) rfl (Ret.mk HX)


end Go.Proofs.Ytmianpfomoghjaa
