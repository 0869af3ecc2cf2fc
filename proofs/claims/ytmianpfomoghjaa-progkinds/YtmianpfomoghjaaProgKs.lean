/-
  What the calls of Set, Try and Get come to. Conditions: those of each theorem.
-/
import Derived.Test.YtmianpfomoghjaaProgKf
namespace Go.Proofs.Ytmianpfomoghjaa
open Go Go.RowKit

set_option maxRecDepth 8000 in
set_option maxHeartbeats 1000000 in
theorem set1 (x : BitVec 64) (w : World) : Calls Try.prog 49 #[.int .u64 (U x)] w (Ret (.agg #[.int .i64 0, .int .i64 0, .int .u64 0, .int .u64 0, .nilFunc, .pointer none]) w) := by
  go_enter Try.func49, Try.ntmps49
  go_wp2_with (go_at_call 50; refine (doneN _).mono ?_; rintro e w1 ⟨rfl, hx⟩; refine Hid.out ?_)
  refine Lib.hid ?_
  have hbx := (hx.block w.heap.size (by simp)).trans (heap_at w _ _ rfl)
  have hX := put6_ext (b := w.heap.size) (.int .i64 0) (.int .i64 0) (.int .u64 0) (.int .u64 0) (.nilFunc) (.pointer none) (ext_trans (ext_alloc _ (ext_refl w)) hx) (Nat.le_refl _)
  have hB := put6_block (.int .i64 0) (.int .i64 0) (.int .u64 0) (.int .u64 0) (.nilFunc) (.pointer none) hbx
  obtain ⟨c0, c1, c2, c3, c4, c5, cz, ll⟩ := six_of hbx
  rw [put6] at hX hB
  have HX := Lib.hid hX
  have HB := Lib.hid hB
  clear hX hB hx hbx
  go_wp2
  clear c0 c1 c2 c3 c4 c5 cz ll
  replace HX := HX.out
  replace HB := HB.out
  generalize (World.setCell _ (⟨w.heap.size, 5, none⟩ : Addr) _) = Z at HB HX ⊢
  obtain ⟨c0, c1, c2, c3, c4, c5, cz, ll⟩ := six_of HB
  exact bodyPost_ret (by simp only [results, Try.results49, go_sem]; simp [go_sem, c0, c1, c2, c3, c4, c5]) rfl (Ret.mk HX)

set_option maxRecDepth 8000 in
set_option maxHeartbeats 1000000 in
theorem try1 (x W : BitVec 64) (B : Nat) (w : World) (k : w.cell? ⟨B, 0, none⟩ = some (.int .u64 (U W))) : Calls Try.prog 54 #[.int .u64 (U x), .pointer (some ⟨B, 0, none⟩)] w (Ret (.agg #[.bool (U x == U W), .int .i64 0, .int .i64 0, .int .u64 0, .int .u64 0, .nilFunc, .pointer none]) w) := by
  have l := cell_lt k
  go_enter Try.func54, Try.ntmps54
  go_wp2_with (go_at_call 55; refine Hid.out ?_)
  refine Lib.hid ?_
  refine (doneB (U x == U W) _).mono ?_
  rintro e w1 ⟨rfl, hx⟩
  have hbx := (hx.block w.heap.size (by simp)).trans (heap_at w _ _ rfl)
  have hX := put7_ext (b := w.heap.size) (.bool (U x == U W)) (.int .i64 0) (.int .i64 0) (.int .u64 0) (.int .u64 0) (.nilFunc) (.pointer none) (ext_trans (ext_alloc _ (ext_refl w)) hx) (Nat.le_refl _)
  have hB := put7_block (.bool (U x == U W)) (.int .i64 0) (.int .i64 0) (.int .u64 0) (.int .u64 0) (.nilFunc) (.pointer none) hbx
  obtain ⟨c0, c1, c2, c3, c4, c5, c6, cz, ll⟩ := sev_of hbx
  rw [put7] at hX hB
  generalize hbb : (U x == U W) = bb at hX hB ⊢
  have HBB := Lib.hid hbb
  clear hbb
  have HX := Lib.hid hX
  have HB := Lib.hid hB
  clear hX hB hx hbx
  go_wp2
  clear c0 c1 c2 c3 c4 c5 c6 cz ll
  replace HX := HX.out
  replace HB := HB.out
  generalize (World.setCell _ (⟨w.heap.size, 6, none⟩ : Addr) _) = Z at HB HX ⊢
  obtain ⟨c0, c1, c2, c3, c4, c5, c6, cz, ll⟩ := sev_of HB
  exact bodyPost_ret (v := .agg #[.bool bb, .int .i64 0, .int .i64 0, .int .u64 0, .int .u64 0, .nilFunc, .pointer none]) (by simp only [results, Try.results54, go_sem]; simp [go_sem, c0, c1, c2, c3, c4, c5, c6]) rfl ⟨by rw [HBB.out], HX⟩

def RetK (D : Nat → Prop) (v : Value → Value) (G : BitVec 64 → Value) (w : World) (e : Ending) (w' : World) : Prop := ∃ fn, e = .returned (v fn) ∧ Ext w w' ∧ FnX D fn G w'

set_option maxRecDepth 8000 in
set_option maxHeartbeats 1000000 in
theorem get_any (D : Nat → Prop) (at_ : Int) (w : World) : Calls Try.prog 30 #[.int .i64 at_] w (RetK D (fun fn => .agg #[.int .u64 0, .int .i64 0, .int .i64 at_, .int .u64 (U 0#64), .int .u64 (U 0#64), fn, .pointer none]) (fun x => .agg #[.int .u64 (U x), .int .i64 0, .int .i64 0, .int .u64 0, .int .u64 0, .nilFunc, .pointer none]) w) := by
  have HA : Hid (∀ W, Calls Try.prog 48 #[.agg #[.int .i64 0, .int .i64 at_, .int .u64 0, .int .u64 0]] W (Ret (.agg #[.int .u64 0, .int .i64 0, .int .i64 at_, .int .u64 0, .int .u64 0, .func (.func 69) #[] #[], .pointer none]) W)) := Lib.hid fun W => by
    have h := ask_any ⟨0, at_, 0#64, 0#64⟩ W
    simp only [U_0] at h
    exact h
  go_enter Try.func30, Try.ntmps30
  go_wp2_with (go_at_call 48; refine (HA.out _).mono ?_; rintro e w1 ⟨rfl, hx⟩; refine Hid.out ?_)
  refine Lib.hid ?_
  have hbx := (hx.block w.heap.size (by simp)).trans (heap_at w _ _ rfl)
  have hX := put7_ext (b := w.heap.size) (.int .u64 0) (.int .i64 0) (.int .i64 at_) (.int .u64 0) (.int .u64 0) (.func (.func 69) #[] #[]) (.pointer none) (ext_trans (ext_alloc _ (ext_refl w)) hx) (Nat.le_refl _)
  have hB := put7_block (.int .u64 0) (.int .i64 0) (.int .i64 at_) (.int .u64 0) (.int .u64 0) (.func (.func 69) #[] #[]) (.pointer none) hbx
  obtain ⟨c0, c1, c2, c3, c4, c5, c6, cz, ll⟩ := sev_of hbx
  rw [put7] at hX hB
  have HX := Lib.hid hX
  have HB := Lib.hid hB
  clear hX hB hx hbx
  go_wp2
  clear c0 c1 c2 c3 c4 c5 c6 cz ll
  replace HX := HX.out
  replace HB := HB.out
  generalize (World.setCell _ (⟨w.heap.size, 6, none⟩ : Addr) _) = Z at HB HX ⊢
  obtain ⟨c0, c1, c2, c3, c4, c5, c6, cz, ll⟩ := sev_of HB
  exact bodyPost_ret (v := .agg #[.int .u64 0, .int .i64 0, .int .i64 at_, .int .u64 0, .int .u64 0, .func (.func 69) #[] #[], .pointer none]) (by simp only [results, Try.results30, go_sem]; simp [go_sem, c0, c1, c2, c3, c4, c5, c6]) rfl ⟨_, by rw [U_0], HX, fnDone D Z⟩

set_option maxRecDepth 8000 in
set_option maxHeartbeats 1000000 in
theorem set_any (D : Nat → Prop) (at_ : Int) (Wd : BitVec 64) (w : World) (hb : ∀ k, D k → k < w.heap.size) : Calls Try.prog 26 #[.int .i64 at_, .int .u64 (U Wd)] w (RetK D (fun fn => .agg #[.int .i64 1, .int .i64 at_, .int .u64 (U Wd), .int .u64 (U 0#64), fn, .pointer none]) (fun _ => .agg #[.int .i64 0, .int .i64 0, .int .u64 0, .int .u64 0, .nilFunc, .pointer none]) w) := by
  have HA : Hid (∀ W, Calls Try.prog 48 #[.agg #[.int .i64 1, .int .i64 at_, .int .u64 (U Wd), .int .u64 0]] W (Ret (.agg #[.int .u64 0, .int .i64 1, .int .i64 at_, .int .u64 (U Wd), .int .u64 0, .func (.func 69) #[] #[], .pointer none]) W)) := Lib.hid fun W => by
    have h := ask_any ⟨1, at_, Wd, 0#64⟩ W
    simp only [U_0] at h
    exact h
  have HT : Hid (∀ W, Calls Try.prog 47 #[.agg #[.int .u64 0, .int .i64 1, .int .i64 at_, .int .u64 (U Wd), .int .u64 0, .func (.func 69) #[] #[], .pointer none], .func (.func 49) #[] #[]] W fun e w' => e = .returned (.agg #[.int .i64 1, .int .i64 at_, .int .u64 (U Wd), .int .u64 0, .func (.func 68) #[] #[.pointer (some ⟨W.heap.size, 0, none⟩), .pointer (some ⟨W.heap.size + 1, 0, none⟩)], .pointer none]) ∧ Ext W w' ∧ w'.cell? ⟨W.heap.size, 5, none⟩ = some (.func (.func 69) #[] #[]) ∧ w'.cell? ⟨W.heap.size + 1, 0, none⟩ = some (.func (.func 49) #[] #[])) := Lib.hid fun W => by
    have h := thenAN ⟨1, at_, Wd, 0#64⟩ 49 #[] W
    simp only [U_0] at h
    exact h
  go_enter Try.func26, Try.ntmps26
  go_wp2_with (first
    | (go_at_call 48; refine (HA.out _).mono ?_; rintro e w1 ⟨rfl, hx⟩; have HX1 := Lib.hid hx; clear hx)
    | (go_at_call 47; refine (HT.out _).mono ?_; rintro e w2 ⟨rfl, hx, q1, q2⟩; refine Hid.out ?_))
  refine Lib.hid ?_
  have hx2 := ext_trans HX1.out hx
  have hbx := (hx2.block w.heap.size (by simp)).trans (heap_at w _ _ rfl)
  have hs := HX1.out.size
  simp at hs
  generalize hB1 : w1.heap.size = B1 at q1 q2 ⊢
  have hX := put6_ext (b := w.heap.size) (.int .i64 1) (.int .i64 at_) (.int .u64 (U Wd)) (.int .u64 0) (.func (.func 68) #[] #[.pointer (some ⟨B1, 0, none⟩), .pointer (some ⟨B1 + 1, 0, none⟩)]) (.pointer none) (ext_trans (ext_alloc _ (ext_refl w)) hx2) (Nat.le_refl _)
  have hB := put6_block (.int .i64 1) (.int .i64 at_) (.int .u64 (U Wd)) (.int .u64 0) (.func (.func 68) #[] #[.pointer (some ⟨B1, 0, none⟩), .pointer (some ⟨B1 + 1, 0, none⟩)]) (.pointer none) hbx
  have hq1 := (World.cell?_of_block (a := ⟨B1, 5, none⟩) (put6_other (w := w2) (b := w.heap.size) (k := B1) (.int .i64 1) (.int .i64 at_) (.int .u64 (U Wd)) (.int .u64 0) (.func (.func 68) #[] #[.pointer (some ⟨B1, 0, none⟩), .pointer (some ⟨B1 + 1, 0, none⟩)]) (.pointer none) (by omega))).trans q1
  have hq2 := (World.cell?_of_block (a := ⟨B1 + 1, 0, none⟩) (put6_other (w := w2) (b := w.heap.size) (k := B1 + 1) (.int .i64 1) (.int .i64 at_) (.int .u64 (U Wd)) (.int .u64 0) (.func (.func 68) #[] #[.pointer (some ⟨B1, 0, none⟩), .pointer (some ⟨B1 + 1, 0, none⟩)]) (.pointer none) (by omega))).trans q2
  obtain ⟨c0, c1, c2, c3, c4, c5, cz, ll⟩ := six_of hbx
  rw [put6] at hX hB hq1 hq2
  have HX := Lib.hid (And.intro hX (And.intro hB (And.intro hq1 hq2)))
  have hBw : w.heap.size + 1 ≤ B1 := by omega
  clear hX hB hx hbx hq1 hq2 q1 q2 hx2 HX1 hB1 hs
  go_wp2
  clear c0 c1 c2 c3 c4 c5 cz ll
  obtain ⟨hX, hB, hq1, hq2⟩ := HX.out
  generalize (World.setCell _ (⟨w.heap.size, 5, none⟩ : Addr) _) = Z at hX hB hq1 hq2 ⊢
  obtain ⟨c0, c1, c2, c3, c4, c5, cz, ll⟩ := six_of hB
  refine bodyPost_ret (v := .agg #[.int .i64 1, .int .i64 at_, .int .u64 (U Wd), .int .u64 0, .func (.func 68) #[] #[.pointer (some ⟨B1, 0, none⟩), .pointer (some ⟨B1 + 1, 0, none⟩)], .pointer none]) (by simp only [results, Try.results26, go_sem]; simp [go_sem, c0, c1, c2, c3, c4, c5]) rfl ⟨_, by rw [U_0], hX, _, _, rfl, enters_of Try.func68 (by kernel_rfl) rfl, fun x V hV => ?_⟩
  have nd : ∀ j, w.heap.size ≤ j → ¬ D j := fun j hj h => by have := hb j h; omega
  exact then1N 49 #[] x B1 (B1 + 1) V (by rw [hV.cell (cell_lt hq1) (nd _ (by omega))]; exact hq1) (by rw [hV.cell (cell_lt hq2) (nd _ (by omega))]; exact hq2) (enters_of Try.func49 (by kernel_rfl) rfl) (fun W _ => set1 x W)

set_option maxRecDepth 8000 in
set_option maxHeartbeats 1000000 in
theorem try_any (D : Nat → Prop) (at_ : Int) (Wd Vd : BitVec 64) (w : World) (hb : ∀ k, D k → k < w.heap.size) : Calls Try.prog 28 #[.int .i64 at_, .int .u64 (U Wd), .int .u64 (U Vd)] w (RetK D (fun fn => .agg #[.bool false, .int .i64 2, .int .i64 at_, .int .u64 (U Wd), .int .u64 (U Vd), fn, .pointer none]) (fun x => .agg #[.bool (U x == U Wd), .int .i64 0, .int .i64 0, .int .u64 0, .int .u64 0, .nilFunc, .pointer none]) w) := by
  go_enter Try.func28, Try.ntmps28
  go_wp2_with (first
    | (go_at_call 48; refine (ask_any ⟨2, at_, Wd, Vd⟩ _).mono ?_; rintro e w1 ⟨rfl, hx⟩; have HX1 := Lib.hid hx; clear hx)
    | (go_at_call 53; refine (thenAB ⟨2, at_, Wd, Vd⟩ _ _ _).mono ?_; rintro e w2 ⟨rfl, hx, q1, q2⟩; refine Hid.out ?_))
  refine Lib.hid ?_
  have hx2 := ext_trans HX1.out hx
  have hbx := (hx2.block (w.heap.size + 1) (by simp)).trans (heap_at (w.alloc (.cells #[.int .u64 (U Wd)] 35)) _ _ (by simp))
  have hwb := (hx2.block w.heap.size (by simp; omega)).trans ((Below.heap_alloc _ _ _ (by simp)).trans (heap_at w (.cells #[.int .u64 (U Wd)] 35) _ rfl))
  have hs := HX1.out.size
  simp at hs
  generalize hB1 : w1.heap.size = B1 at q1 q2 ⊢
  have hX := put7_ext (b := w.heap.size + 1) (.bool false) (.int .i64 2) (.int .i64 at_) (.int .u64 (U Wd)) (.int .u64 (U Vd)) (.func (.func 71) #[] #[.pointer (some ⟨B1, 0, none⟩), .pointer (some ⟨B1 + 1, 0, none⟩)]) (.pointer none) (ext_trans (ext_alloc _ (ext_alloc _ (ext_refl w))) hx2) (by omega)
  have hB := put7_block (.bool false) (.int .i64 2) (.int .i64 at_) (.int .u64 (U Wd)) (.int .u64 (U Vd)) (.func (.func 71) #[] #[.pointer (some ⟨B1, 0, none⟩), .pointer (some ⟨B1 + 1, 0, none⟩)]) (.pointer none) hbx
  have hq1 := (World.cell?_of_block (a := ⟨B1, 5, none⟩) (put7_other (w := w2) (b := w.heap.size + 1) (k := B1) (.bool false) (.int .i64 2) (.int .i64 at_) (.int .u64 (U Wd)) (.int .u64 (U Vd)) (.func (.func 71) #[] #[.pointer (some ⟨B1, 0, none⟩), .pointer (some ⟨B1 + 1, 0, none⟩)]) (.pointer none) (by omega))).trans q1
  have hq2 := (World.cell?_of_block (a := ⟨B1 + 1, 0, none⟩) (put7_other (w := w2) (b := w.heap.size + 1) (k := B1 + 1) (.bool false) (.int .i64 2) (.int .i64 at_) (.int .u64 (U Wd)) (.int .u64 (U Vd)) (.func (.func 71) #[] #[.pointer (some ⟨B1, 0, none⟩), .pointer (some ⟨B1 + 1, 0, none⟩)]) (.pointer none) (by omega))).trans q2
  have hq3 := (World.cell?_of_block (a := ⟨w.heap.size, 0, none⟩) (put7_other (w := w2) (b := w.heap.size + 1) (k := w.heap.size) (.bool false) (.int .i64 2) (.int .i64 at_) (.int .u64 (U Wd)) (.int .u64 (U Vd)) (.func (.func 71) #[] #[.pointer (some ⟨B1, 0, none⟩), .pointer (some ⟨B1 + 1, 0, none⟩)]) (.pointer none) (by omega))).trans (cell_at hwb rfl)
  obtain ⟨c0, c1, c2, c3, c4, c5, c6, cz, ll⟩ := sev_of hbx
  rw [put7] at hX hB hq1 hq2 hq3
  have HX := Lib.hid (And.intro hX (And.intro hB (And.intro hq1 (And.intro hq2 hq3))))
  have hBw : w.heap.size + 2 ≤ B1 := by omega
  clear hX hB hx hbx hwb hq1 hq2 hq3 q1 q2 hx2 HX1 hB1 hs
  go_wp2
  clear c0 c1 c2 c3 c4 c5 c6 cz ll
  obtain ⟨hX, hB, hq1, hq2, hq3⟩ := HX.out
  generalize (World.setCell _ (⟨w.heap.size + 1, 6, none⟩ : Addr) _) = Z at hX hB hq1 hq2 hq3 ⊢
  obtain ⟨c0, c1, c2, c3, c4, c5, c6, cz, ll⟩ := sev_of hB
  refine bodyPost_ret (v := .agg #[.bool false, .int .i64 2, .int .i64 at_, .int .u64 (U Wd), .int .u64 (U Vd), .func (.func 71) #[] #[.pointer (some ⟨B1, 0, none⟩), .pointer (some ⟨B1 + 1, 0, none⟩)], .pointer none]) (by simp only [results, Try.results28, go_sem]; simp [go_sem, c0, c1, c2, c3, c4, c5, c6]) rfl ⟨_, rfl, hX, _, _, rfl, enters_of Try.func71 (by kernel_rfl) rfl, fun x V hV => ?_⟩
  have nd : ∀ j, w.heap.size ≤ j → ¬ D j := fun j hj h => by have := hb j h; omega
  exact then1B 54 #[.pointer (some ⟨w.heap.size, 0, none⟩)] (fun x => U x == U Wd) x B1 (B1 + 1) V (by rw [hV.cell (cell_lt hq1) (nd _ (by omega))]; exact hq1) (by rw [hV.cell (cell_lt hq2) (nd _ (by omega))]; exact hq2) (enters_of Try.func54 (by kernel_rfl) rfl) (fun W hW => try1 x Wd w.heap.size W (ext_cell hW (by rw [hV.cell (cell_lt hq3) (nd _ (Nat.le_refl _))]; exact hq3)))

end Go.Proofs.Ytmianpfomoghjaa
