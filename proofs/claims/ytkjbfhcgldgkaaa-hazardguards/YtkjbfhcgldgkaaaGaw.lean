/-
  What the call of a Guard's closures comes to. Conditions: those of each theorem.
-/
import Derived.Test.YtkjbfhcgldgkaaaGav
namespace Go.Proofs.Ytkjbfhcgldgkaaa
open Go Go.RowKit

set_option maxRecDepth 8000 in
set_option maxHeartbeats 2000000 in
theorem sty1_PT (x y : BitVec 64) (gf : BitVec 64 → Tr (BitVec 64)) (F : Nat → Prop) (g : FuncId) (caps : Array Value) (B1 B2 : Nat) (w : World) (k1 : w.heap[B1]? = some (.cells #[.int .u64 (U x)] 33 (0, 0))) (k2 : w.heap[B2]? = some (.cells #[.func (.func g) #[] caps] 77 (0, 0))) (hg : Enters g) (hN : ∀ W, Ext w W → Calls Try.prog g (#[.int .u64 (U y)] ++ caps) W (RetP (PT kU (gf y)) F W)) (hF : Bnd F w) :
    Calls Try.prog 105 #[.int .u64 (U y), .pointer (some ⟨B1, 0, none⟩), .pointer (some ⟨B2, 0, none⟩)] w (RetP (PT kU (if y = x then .done x else gf y)) F w) := by
  have c1 := cell_at (o := 0) k1 rfl
  have c2 := cell_at (o := 0) k2 rfl
  have l1 := cell_lt c1
  have l2 := cell_lt c2
  have HN := Lib.hid hN
  unfold Enters at hg
  clear k1 k2 hN
  by_cases hxy : y = x
  · have hU : U y = U x := by rw [hxy]
    rw [if_pos hxy]
    clear HN hg hxy
    go_enter Try.func105, Try.ntmps105
    go_wp2_with (go_at_call 65; refine Hid.out ?_)
    refine Lib.hid ?_
    have hE : Ext w (w.alloc (.cells #[.int .u64 0, .int .i64 0, .int .i64 0, .int .u64 0, .int .u64 0, .nilFunc, .pointer none] 79)) := by repeat (first | exact ext_refl _ | apply ext_alloc)
    have hb0 : (w.alloc (.cells #[.int .u64 0, .int .i64 0, .int .i64 0, .int .u64 0, .int .u64 0, .nilFunc, .pointer none] 79)).heap[w.heap.size]? = some (.cells #[.int .u64 0, .int .i64 0, .int .i64 0, .int .u64 0, .int .u64 0, .nilFunc, .pointer none] 79) := heap_at _ _ _ (by simp)
    have hW : (w.alloc (.cells #[.int .u64 0, .int .i64 0, .int .i64 0, .int .u64 0, .int .u64 0, .nilFunc, .pointer none] 79)).heap.size = w.heap.size + 1 := by simp
    generalize (w.alloc (.cells #[.int .u64 0, .int .i64 0, .int .i64 0, .int .u64 0, .int .u64 0, .nilFunc, .pointer none] 79)) = W at hE hb0 hW ⊢
    replace hW := Lib.hid hW
    first | rw [hU] | skip
    refine (doneU_PT x W).mono ?_
    rintro e w' hR
    obtain ⟨v', F', rfl, hX, hp, hbn, hsub, hnF, hbq⟩ := hR.tail (G := F) (w.heap.size) hE (heap_lt hb0) (fun h => h) (fun _ h => h.elim)
    have hbx := hbq.trans hb0
    clear hbq hR
    clear hE hb0 hW hU
    obtain ⟨y, a2, fn2, rfl, hfn⟩ := shU hp
    have hXX := put7_ext (b := w.heap.size) (.int .u64 y) (.int .i64 a2.op) (.int .i64 a2.at_) (.int .u64 (U a2.a)) (.int .u64 (U a2.b)) (fn2) (.pointer none) hX (by omega)
    have hB := put7_block (.int .u64 y) (.int .i64 a2.op) (.int .i64 a2.at_) (.int .u64 (U a2.a)) (.int .u64 (U a2.b)) (fn2) (.pointer none) hbx
    have hP := hp.agr (Agr.of_put7 (b := w.heap.size) (.int .u64 y) (.int .i64 a2.op) (.int .i64 a2.at_) (.int .u64 (U a2.a)) (.int .u64 (U a2.b)) (fn2) (.pointer none) hnF)
    have hS : (put7 (w.heap.size) (.int .u64 y) (.int .i64 a2.op) (.int .i64 a2.at_) (.int .u64 (U a2.a)) (.int .u64 (U a2.b)) (fn2) (.pointer none) w').heap.size = w'.heap.size := put7_size (.int .u64 y) (.int .i64 a2.op) (.int .i64 a2.at_) (.int .u64 (U a2.a)) (.int .u64 (U a2.b)) (fn2) (.pointer none)
    obtain ⟨c0, c1, c2, c3, c4, c5, c6, cz, ll⟩ := sev_of hbx
    rw [put7] at hXX hB hP hS
    have HX := Lib.hid (And.intro hXX (And.intro hB (And.intro hP hS)))
    have HFN := Lib.hid hfn
    have HBN := Lib.hid hbn
    have HSUB := Lib.hid hsub
    clear hXX hB hP hS hX hbx hp hfn hbn hsub hnF
    rcases HFN.out with rfl | ⟨g', caps', rfl⟩
    all_goals
      go_wp2
      clear c0 c1 c2 c3 c4 c5 c6 cz ll
      obtain ⟨hX, hB, hP, hS⟩ := HX.out
      clear HX
      generalize (World.setCell _ (⟨w.heap.size, 6, none⟩ : Addr) _) = Z at hX hB hP hS ⊢
      obtain ⟨c0, c1, c2, c3, c4, c5, c6, cz, ll⟩ := sev_of hB
      exact bodyPost_ret (by simp only [results, Try.results105, go_sem]; simp [go_sem, c0, c1, c2, c3, c4, c5, c6]) rfl ⟨_, F', rfl, hX, hP, fun j hj => by rw [hS]; exact HBN.out j hj, HSUB.out⟩
  · have hU : ¬ U y = U x := fun e => hxy (U_inj e)
    rw [if_neg hxy]
    have hnF0 : ¬ F w.heap.size := fun h => by have := hF _ h; omega
    replace hnF0 := Lib.hid hnF0
    go_enter Try.func105, Try.ntmps105
    go_wp2_with (refine (HN.out _ (by repeat (first | exact ext_refl _ | apply ext_alloc))).mono ?_; rintro e w' hR; obtain ⟨v', F', rfl, hX, hp, hbn, hsub, hnF, hbq⟩ := hR.tail (G := F) w.heap.size (ext_alloc _ (ext_refl w)) (by simp) hnF0.out (fun j h => .inl h); refine Hid.out ?_)
    refine Lib.hid ?_
    have hbx := hbq.trans (heap_at w _ _ rfl)
    clear hbq hR HN
    obtain ⟨y, a2, fn2, rfl, hfn⟩ := shU hp
    have hXX := put7_ext (b := w.heap.size) (.int .u64 y) (.int .i64 a2.op) (.int .i64 a2.at_) (.int .u64 (U a2.a)) (.int .u64 (U a2.b)) (fn2) (.pointer none) hX (by omega)
    have hB := put7_block (.int .u64 y) (.int .i64 a2.op) (.int .i64 a2.at_) (.int .u64 (U a2.a)) (.int .u64 (U a2.b)) (fn2) (.pointer none) hbx
    have hP := hp.agr (Agr.of_put7 (b := w.heap.size) (.int .u64 y) (.int .i64 a2.op) (.int .i64 a2.at_) (.int .u64 (U a2.a)) (.int .u64 (U a2.b)) (fn2) (.pointer none) hnF)
    have hS : (put7 (w.heap.size) (.int .u64 y) (.int .i64 a2.op) (.int .i64 a2.at_) (.int .u64 (U a2.a)) (.int .u64 (U a2.b)) (fn2) (.pointer none) w').heap.size = w'.heap.size := put7_size (.int .u64 y) (.int .i64 a2.op) (.int .i64 a2.at_) (.int .u64 (U a2.a)) (.int .u64 (U a2.b)) (fn2) (.pointer none)
    obtain ⟨c0, c1, c2, c3, c4, c5, c6, cz, ll⟩ := sev_of hbx
    rw [put7] at hXX hB hP hS
    have HX := Lib.hid (And.intro hXX (And.intro hB (And.intro hP hS)))
    have HFN := Lib.hid hfn
    have HBN := Lib.hid hbn
    have HSUB := Lib.hid hsub
    clear hXX hB hP hS hX hbx hp hfn hbn hsub hnF
    rcases HFN.out with rfl | ⟨g', caps', rfl⟩
    all_goals
      go_wp2
      clear c0 c1 c2 c3 c4 c5 c6 cz ll
      obtain ⟨hX, hB, hP, hS⟩ := HX.out
      clear HX
      generalize (World.setCell _ (⟨w.heap.size, 6, none⟩ : Addr) _) = Z at hX hB hP hS ⊢
      obtain ⟨c0, c1, c2, c3, c4, c5, c6, cz, ll⟩ := sev_of hB
      exact bodyPost_ret (by simp only [results, Try.results105, go_sem]; simp [go_sem, c0, c1, c2, c3, c4, c5, c6]) rfl ⟨_, F', rfl, hX, hP, fun j hj => by rw [hS]; exact HBN.out j hj, HSUB.out⟩
theorem sty1_CT (x : BitVec 64) (gf : BitVec 64 → Tr (BitVec 64)) (F : Nat → Prop) (fn : Value) (B1 B2 : Nat) (w : World) (k1 : w.heap[B1]? = some (.cells #[.int .u64 (U x)] 33 (0, 0))) (k2 : w.heap[B2]? = some (.cells #[fn] 77 (0, 0))) (hC : CT kU kU gf F fn w) (hF : Bnd F w) :
    CT kU kU (fun y => if y = x then .done x else gf y) (fun j => F j ∨ j = B1 ∨ j = B2) (.func (.func 105) #[] #[.pointer (some ⟨B1, 0, none⟩), .pointer (some ⟨B2, 0, none⟩)]) w := by
  obtain ⟨g, caps, rfl, he, hc⟩ := hC
  refine ⟨_, _, rfl, enters_of Try.func105 (by kernel_rfl) rfl, fun y w' ha => ?_⟩
  have hFw : Agr F w w' := ha.sub fun j h => .inl h
  have bF : Bnd F w' := hF.agr hFw
  exact (sty1_PT x y gf F g caps B1 B2 w' ((ha B1 (.inr (.inl rfl))).trans k1) ((ha B2 (.inr (.inr rfl))).trans k2) he (fun W hW => hc y W (hFw.trans (Agr.of_ext hW bF))) bF).mono fun _ _ h => h.mono fun j h => .inl h
set_option maxRecDepth 8000 in
set_option maxHeartbeats 2000000 in
theorem stays_PT (at_ : Int) (x : BitVec 64) (gf : BitVec 64 → Tr (BitVec 64)) (F : Nat → Prop) (fn : Value) (w : World) (hC : CT kU kU gf F fn w) (hF : Bnd F w) :
    Calls Try.prog 68 #[.int .i64 at_, .int .u64 (U x), fn] w (RetP (PT kU (ldT at_ gf x)) F w) := by
  obtain ⟨g, caps, rfl, hg, hc⟩ := id hC
  clear hg hc
  replace hC := Lib.hid hC
  go_enter Try.func68, Try.ntmps68
  go_wp2_with (go_at_call 70; refine Hid.out ?_)
  refine Lib.hid ?_
  have hE : Ext w (((w.alloc (.cells #[.int .u64 (U x)] 33)).alloc (.cells #[.func (.func g) #[] caps] 77)).alloc (.cells #[.int .u64 0, .int .i64 0, .int .i64 0, .int .u64 0, .int .u64 0, .nilFunc, .pointer none] 79)) := by repeat (first | exact ext_refl _ | apply ext_alloc)
  have hb0 : (((w.alloc (.cells #[.int .u64 (U x)] 33)).alloc (.cells #[.func (.func g) #[] caps] 77)).alloc (.cells #[.int .u64 0, .int .i64 0, .int .i64 0, .int .u64 0, .int .u64 0, .nilFunc, .pointer none] 79)).heap[w.heap.size]? = some (.cells #[.int .u64 (U x)] 33) := (Below.heap_alloc _ _ _ (by simp <;> omega)).trans ((Below.heap_alloc _ _ _ (by simp <;> omega)).trans (heap_at _ _ _ (by simp)))
  have hb1 : (((w.alloc (.cells #[.int .u64 (U x)] 33)).alloc (.cells #[.func (.func g) #[] caps] 77)).alloc (.cells #[.int .u64 0, .int .i64 0, .int .i64 0, .int .u64 0, .int .u64 0, .nilFunc, .pointer none] 79)).heap[w.heap.size + 1]? = some (.cells #[.func (.func g) #[] caps] 77) := (Below.heap_alloc _ _ _ (by simp <;> omega)).trans (heap_at _ _ _ (by simp))
  have hb2 : (((w.alloc (.cells #[.int .u64 (U x)] 33)).alloc (.cells #[.func (.func g) #[] caps] 77)).alloc (.cells #[.int .u64 0, .int .i64 0, .int .i64 0, .int .u64 0, .int .u64 0, .nilFunc, .pointer none] 79)).heap[w.heap.size + 1 + 1]? = some (.cells #[.int .u64 0, .int .i64 0, .int .i64 0, .int .u64 0, .int .u64 0, .nilFunc, .pointer none] 79) := heap_at _ _ _ (by simp)
  have hW : (((w.alloc (.cells #[.int .u64 (U x)] 33)).alloc (.cells #[.func (.func g) #[] caps] 77)).alloc (.cells #[.int .u64 0, .int .i64 0, .int .i64 0, .int .u64 0, .int .u64 0, .nilFunc, .pointer none] 79)).heap.size = w.heap.size + 1 + 1 + 1 := by simp
  generalize (((w.alloc (.cells #[.int .u64 (U x)] 33)).alloc (.cells #[.func (.func g) #[] caps] 77)).alloc (.cells #[.int .u64 0, .int .i64 0, .int .i64 0, .int .u64 0, .int .u64 0, .nilFunc, .pointer none] 79)) = W at hE hb0 hb1 hb2 hW ⊢
  clear hW
  refine (get_PT at_ W).mono ?_
  rintro e w1 ⟨v1, F1, rfl, hx, hp1, hbn1, hsub⟩
  have hn1 : ¬ F1 (w.heap.size + 1 + 1) := fun h => (hsub _ h).elim (fun h => h) fun h => by have := heap_lt hb2; omega
  have hs1 : ∀ j, F1 j → noF j ∨ w.heap.size ≤ j := fun j hj => (hsub j hj).imp_right fun h => Nat.le_trans hE.size h
  replace hE := ext_trans hE hx
  replace hb0 := (hx.block _ (heap_lt hb0)).trans hb0
  replace hb1 := (hx.block _ (heap_lt hb1)).trans hb1
  replace hb2 := (hx.block _ (heap_lt hb2)).trans hb2
  clear hx hsub
  replace hE := Lib.hid hE
  replace hb0 := Lib.hid hb0
  replace hb1 := Lib.hid hb1
  replace hb2 := Lib.hid hb2
  replace hp1 := Lib.hid hp1
  replace hbn1 := Lib.hid hbn1
  replace hs1 := Lib.hid hs1
  replace hn1 := Lib.hid hn1
  go_wp2_with (go_at_call 69; refine Hid.out ?_)
  refine Lib.hid ?_
  replace hE := hE.out
  replace hb0 := hb0.out
  replace hb1 := hb1.out
  replace hb2 := hb2.out
  replace hp1 := hp1.out
  replace hbn1 := hbn1.out
  replace hs1 := hs1.out
  replace hn1 := hn1.out
  have hCT := sty1_CT x gf F (.func (.func g) #[] caps) w.heap.size (w.heap.size + 1) w1 hb0 hb1 (hC.out.agr (Agr.of_ext hE hF)) (hF.ext hE.size)
  refine (then_UU _ _ F1 _ v1 _ w1 hp1 hCT hbn1 (fun j h => by rcases h with h | rfl | rfl; exact Nat.lt_of_lt_of_le (hF j h) hE.size; exact heap_lt hb0; exact heap_lt hb1)).mono ?_
  rintro e w' hR
  obtain ⟨v', F', rfl, hX, hp, hbn, hsub, hnF, hbq⟩ := hR.tail (G := F) (w.heap.size + 1 + 1) hE (heap_lt hb2) (fun h => by rcases h with h | h | h | h; exact hn1 h; (have := hF _ h; omega); omega; omega) (fun j h => by rcases h with h | h | h | h; exact (hs1 j h).imp_left False.elim; exact .inl h; exact .inr (by omega); exact .inr (by omega))
  have hbx := hbq.trans hb2
  clear hbq hR
  clear hE hb0 hb1 hb2 hp1 hbn1 hs1 hn1 hCT hC
  obtain ⟨y, a2, fn2, rfl, hfn⟩ := shU hp
  have hXX := put7_ext (b := w.heap.size + 1 + 1) (.int .u64 y) (.int .i64 a2.op) (.int .i64 a2.at_) (.int .u64 (U a2.a)) (.int .u64 (U a2.b)) (fn2) (.pointer none) hX (by omega)
  have hB := put7_block (.int .u64 y) (.int .i64 a2.op) (.int .i64 a2.at_) (.int .u64 (U a2.a)) (.int .u64 (U a2.b)) (fn2) (.pointer none) hbx
  have hP := hp.agr (Agr.of_put7 (b := w.heap.size + 1 + 1) (.int .u64 y) (.int .i64 a2.op) (.int .i64 a2.at_) (.int .u64 (U a2.a)) (.int .u64 (U a2.b)) (fn2) (.pointer none) hnF)
  have hS : (put7 (w.heap.size + 1 + 1) (.int .u64 y) (.int .i64 a2.op) (.int .i64 a2.at_) (.int .u64 (U a2.a)) (.int .u64 (U a2.b)) (fn2) (.pointer none) w').heap.size = w'.heap.size := put7_size (.int .u64 y) (.int .i64 a2.op) (.int .i64 a2.at_) (.int .u64 (U a2.a)) (.int .u64 (U a2.b)) (fn2) (.pointer none)
  obtain ⟨c0, c1, c2, c3, c4, c5, c6, cz, ll⟩ := sev_of hbx
  rw [put7] at hXX hB hP hS
  have HX := Lib.hid (And.intro hXX (And.intro hB (And.intro hP hS)))
  have HFN := Lib.hid hfn
  have HBN := Lib.hid hbn
  have HSUB := Lib.hid hsub
  clear hXX hB hP hS hX hbx hp hfn hbn hsub hnF
  rcases HFN.out with rfl | ⟨g', caps', rfl⟩
  all_goals
    go_wp2
    clear c0 c1 c2 c3 c4 c5 c6 cz ll
    obtain ⟨hX, hB, hP, hS⟩ := HX.out
    clear HX
    generalize (World.setCell _ (⟨w.heap.size + 1 + 1, 6, none⟩ : Addr) _) = Z at hX hB hP hS ⊢
    obtain ⟨c0, c1, c2, c3, c4, c5, c6, cz, ll⟩ := sev_of hB
    exact bodyPost_ret (by simp only [results, Try.results68, go_sem]; simp [go_sem, c0, c1, c2, c3, c4, c5, c6]) rfl ⟨_, F', rfl, hX, hP, fun j hj => by rw [hS]; exact HBN.out j hj, HSUB.out⟩
set_option maxRecDepth 8000 in
set_option maxHeartbeats 2000000 in
theorem grd2_PT (at_ : Int) (x : BitVec 64) (gf : BitVec 64 → Tr (BitVec 64)) (F : Nat → Prop) (g : FuncId) (caps : Array Value) (B1 B2 B3 : Nat) (w : World) (k1 : w.heap[B1]? = some (.cells #[.int .i64 at_] 3 (0, 0))) (k2 : w.heap[B2]? = some (.cells #[.int .u64 (U x)] 33 (0, 0))) (k3 : w.heap[B3]? = some (.cells #[.func (.func g) #[] caps] 77 (0, 0))) (hC : ∀ W, Ext w W → CT kU kU gf F (.func (.func g) #[] caps) W) (hF : Bnd F w) :
    Calls Try.prog 67 #[.agg #[], .pointer (some ⟨B1, 0, none⟩), .pointer (some ⟨B2, 0, none⟩), .pointer (some ⟨B3, 0, none⟩)] w (RetP (PT kU (ldT at_ gf x)) F w) := by
  have c1 := cell_at (o := 0) k1 rfl
  have c2 := cell_at (o := 0) k2 rfl
  have c3 := cell_at (o := 0) k3 rfl
  have l1 := cell_lt c1
  have l2 := cell_lt c2
  have l3 := cell_lt c3
  clear k1 k2 k3
  replace hC := Lib.hid hC
  go_enter Try.func67, Try.ntmps67
  go_wp2_with (go_at_call 68; refine Hid.out ?_)
  refine Lib.hid ?_
  have hE : Ext w ((w.alloc (.cells #[] 54)).alloc (.cells #[.int .u64 0, .int .i64 0, .int .i64 0, .int .u64 0, .int .u64 0, .nilFunc, .pointer none] 79)) := by repeat (first | exact ext_refl _ | apply ext_alloc)
  have hb0 : ((w.alloc (.cells #[] 54)).alloc (.cells #[.int .u64 0, .int .i64 0, .int .i64 0, .int .u64 0, .int .u64 0, .nilFunc, .pointer none] 79)).heap[w.heap.size]? = some (.cells #[] 54) := (Below.heap_alloc _ _ _ (by simp <;> omega)).trans (heap_at _ _ _ (by simp))
  have hb1 : ((w.alloc (.cells #[] 54)).alloc (.cells #[.int .u64 0, .int .i64 0, .int .i64 0, .int .u64 0, .int .u64 0, .nilFunc, .pointer none] 79)).heap[w.heap.size + 1]? = some (.cells #[.int .u64 0, .int .i64 0, .int .i64 0, .int .u64 0, .int .u64 0, .nilFunc, .pointer none] 79) := heap_at _ _ _ (by simp)
  have hW : ((w.alloc (.cells #[] 54)).alloc (.cells #[.int .u64 0, .int .i64 0, .int .i64 0, .int .u64 0, .int .u64 0, .nilFunc, .pointer none] 79)).heap.size = w.heap.size + 1 + 1 := by simp
  generalize ((w.alloc (.cells #[] 54)).alloc (.cells #[.int .u64 0, .int .i64 0, .int .i64 0, .int .u64 0, .int .u64 0, .nilFunc, .pointer none] 79)) = W at hE hb0 hb1 hW ⊢
  refine (stays_PT at_ x gf F _ W (hC.out W hE) (hF.ext hE.size)).mono ?_
  rintro e w' hR
  obtain ⟨v', F', rfl, hX, hp, hbn, hsub, hnF, hbq⟩ := hR.tail (G := F) (w.heap.size + 1) hE (heap_lt hb1) (fun h => by have := hF _ h; omega) (fun _ h => .inl h)
  have hbx := hbq.trans hb1
  clear hbq hR
  clear hE hb0 hb1 hW c1 c2 c3 l1 l2 l3 hC
  obtain ⟨y, a2, fn2, rfl, hfn⟩ := shU hp
  have hXX := put7_ext (b := w.heap.size + 1) (.int .u64 y) (.int .i64 a2.op) (.int .i64 a2.at_) (.int .u64 (U a2.a)) (.int .u64 (U a2.b)) (fn2) (.pointer none) hX (by omega)
  have hB := put7_block (.int .u64 y) (.int .i64 a2.op) (.int .i64 a2.at_) (.int .u64 (U a2.a)) (.int .u64 (U a2.b)) (fn2) (.pointer none) hbx
  have hP := hp.agr (Agr.of_put7 (b := w.heap.size + 1) (.int .u64 y) (.int .i64 a2.op) (.int .i64 a2.at_) (.int .u64 (U a2.a)) (.int .u64 (U a2.b)) (fn2) (.pointer none) hnF)
  have hS : (put7 (w.heap.size + 1) (.int .u64 y) (.int .i64 a2.op) (.int .i64 a2.at_) (.int .u64 (U a2.a)) (.int .u64 (U a2.b)) (fn2) (.pointer none) w').heap.size = w'.heap.size := put7_size (.int .u64 y) (.int .i64 a2.op) (.int .i64 a2.at_) (.int .u64 (U a2.a)) (.int .u64 (U a2.b)) (fn2) (.pointer none)
  obtain ⟨c0, c1, c2, c3, c4, c5, c6, cz, ll⟩ := sev_of hbx
  rw [put7] at hXX hB hP hS
  have HX := Lib.hid (And.intro hXX (And.intro hB (And.intro hP hS)))
  have HFN := Lib.hid hfn
  have HBN := Lib.hid hbn
  have HSUB := Lib.hid hsub
  clear hXX hB hP hS hX hbx hp hfn hbn hsub hnF
  rcases HFN.out with rfl | ⟨g', caps', rfl⟩
  all_goals
    go_wp2
    clear c0 c1 c2 c3 c4 c5 c6 cz ll
    obtain ⟨hX, hB, hP, hS⟩ := HX.out
    clear HX
    generalize (World.setCell _ (⟨w.heap.size + 1, 6, none⟩ : Addr) _) = Z at hX hB hP hS ⊢
    obtain ⟨c0, c1, c2, c3, c4, c5, c6, cz, ll⟩ := sev_of hB
    exact bodyPost_ret (by simp only [results, Try.results67, go_sem]; simp [go_sem, c0, c1, c2, c3, c4, c5, c6]) rfl ⟨_, F', rfl, hX, hP, fun j hj => by rw [hS]; exact HBN.out j hj, HSUB.out⟩
theorem grd2_CT (at_ : Int) (x : BitVec 64) (gf : BitVec 64 → Tr (BitVec 64)) (F : Nat → Prop) (fn : Value) (B1 B2 B3 : Nat) (w : World) (k1 : w.heap[B1]? = some (.cells #[.int .i64 at_] 3 (0, 0))) (k2 : w.heap[B2]? = some (.cells #[.int .u64 (U x)] 33 (0, 0))) (k3 : w.heap[B3]? = some (.cells #[fn] 77 (0, 0))) (hC : CT kU kU gf F fn w) (hF : Bnd F w) :
    CT kN kU (fun _ => ldT at_ gf x) (fun j => F j ∨ j = B1 ∨ j = B2 ∨ j = B3) (.func (.func 67) #[] #[.pointer (some ⟨B1, 0, none⟩), .pointer (some ⟨B2, 0, none⟩), .pointer (some ⟨B3, 0, none⟩)]) w := by
  obtain ⟨g, caps, rfl, he, hc⟩ := id hC
  refine ⟨_, _, rfl, enters_of Try.func67 (by kernel_rfl) rfl, fun _ w' ha => ?_⟩
  have hFw : Agr F w w' := ha.sub fun j h => .inl h
  have bF : Bnd F w' := hF.agr hFw
  exact (grd2_PT at_ x gf F g caps B1 B2 B3 w' ((ha B1 (.inr (.inl rfl))).trans k1) ((ha B2 (.inr (.inr (.inl rfl)))).trans k2) ((ha B3 (.inr (.inr (.inr rfl)))).trans k3) (fun W hW => hC.agr (hFw.trans (Agr.of_ext hW bF))) bF).mono fun _ _ h => h.mono fun j h => .inl h
/-- What a Guard's closure reads: the plan, the thread, the slot, the place, the shift; itself. -/
structure GBx (p : Pl) (t s at_ : Int) (sh : Nat) (B0 B1 B2 B3 B4 B6 : Nat) (w : World) : Prop where
  b0 : PBox B0 p w
  b1 : w.heap[B1]? = some (.cells #[.int .i64 t] 3 (0, 0))
  b2 : w.heap[B2]? = some (.cells #[.int .i64 s] 3 (0, 0))
  b3 : w.heap[B3]? = some (.cells #[.int .i64 at_] 3 (0, 0))
  b4 : w.heap[B4]? = some (.cells #[.int .i64 (sh : Int)] 3 (0, 0))
  b6 : w.heap[B6]? = some (.cells #[(.func (.func 63) #[] #[.pointer (some ⟨B4, 0, none⟩), .pointer (some ⟨B0, 0, none⟩), .pointer (some ⟨B1, 0, none⟩), .pointer (some ⟨B2, 0, none⟩), .pointer (some ⟨B3, 0, none⟩), .pointer (some ⟨B6, 0, none⟩)])] 77 (0, 0))
def gbF (B0 B1 B2 B3 B4 B6 : Nat) : Nat → Prop := fun j => j = B0 ∨ j = B1 ∨ j = B2 ∨ j = B3 ∨ j = B4 ∨ j = B6
theorem GBx.agr {p : Pl} {t s at_ : Int} {sh : Nat} {B0 B1 B2 B3 B4 B6 : Nat} {w w' : World} (h : GBx p t s at_ sh B0 B1 B2 B3 B4 B6 w) (ha : Agr (gbF B0 B1 B2 B3 B4 B6) w w') : GBx p t s at_ sh B0 B1 B2 B3 B4 B6 w' :=
  ⟨(ha _ (.inl rfl)).trans h.b0, (ha _ (.inr (.inl rfl))).trans h.b1, (ha _ (.inr (.inr (.inl rfl)))).trans h.b2, (ha _ (.inr (.inr (.inr (.inl rfl))))).trans h.b3, (ha _ (.inr (.inr (.inr (.inr (.inl rfl)))))).trans h.b4, (ha _ (.inr (.inr (.inr (.inr (.inr rfl)))))).trans h.b6⟩
theorem GBx.bnd {p : Pl} {t s at_ : Int} {sh : Nat} {B0 B1 B2 B3 B4 B6 : Nat} {w : World} (h : GBx p t s at_ sh B0 B1 B2 B3 B4 B6 w) : Bnd (gbF B0 B1 B2 B3 B4 B6) w := fun j hj => by
  rcases hj with rfl | rfl | rfl | rfl | rfl | rfl
  · exact heap_lt h.b0
  · exact heap_lt h.b1
  · exact heap_lt h.b2
  · exact heap_lt h.b3
  · exact heap_lt h.b4
  · exact heap_lt h.b6
theorem GBx.ext {p : Pl} {t s at_ : Int} {sh : Nat} {B0 B1 B2 B3 B4 B6 : Nat} {w w' : World} (h : GBx p t s at_ sh B0 B1 B2 B3 B4 B6 w) (hx : Ext w w') : GBx p t s at_ sh B0 B1 B2 B3 B4 B6 w' := h.agr (Agr.of_ext hx h.bnd)
set_option maxRecDepth 8000 in
set_option maxHeartbeats 2000000 in
theorem gon_none (p : Pl) (t s at_ : Int) (sh : Nat) (hsh : sh < 64) (x : BitVec 64) (B0 B1 B2 B3 B4 B6 : Nat) (w : World) (hG : GBx p t s at_ sh B0 B1 B2 B3 B4 B6 w) (hz : x >>> sh = 0#64) :
    Calls Try.prog 63 #[.int .u64 (U x), .pointer (some ⟨B4, 0, none⟩), .pointer (some ⟨B0, 0, none⟩), .pointer (some ⟨B1, 0, none⟩), .pointer (some ⟨B2, 0, none⟩), .pointer (some ⟨B3, 0, none⟩), .pointer (some ⟨B6, 0, none⟩)] w (RetP (PT kU (.done x)) noF w) := by
  have hz' : U (x >>> sh) = 0 := by rw [hz, U_0]
  clear hz
  have d1 := cell_at (o := 0) hG.b1 rfl
  have d2 := cell_at (o := 0) hG.b2 rfl
  have d3 := cell_at (o := 0) hG.b3 rfl
  have d4 := cell_at (o := 0) hG.b4 rfl
  have m1 := cell_lt d1
  have m2 := cell_lt d2
  have m3 := cell_lt d3
  have m4 := cell_lt d4
  have ⟨c0, c1, c2, c3, c4, c5, lt⟩ := hG.b0.plc
  replace hG := Lib.hid hG
  go_enter Try.func63, Try.ntmps63
  go_wp2_with (go_at_call 64; refine Hid.out ?_)
  refine Lib.hid ?_
  have hE : Ext w ((w.alloc (.cells #[.int .u64 (U x)] 33)).alloc (.cells #[.int .u64 0, .int .i64 0, .int .i64 0, .int .u64 0, .int .u64 0, .nilFunc, .pointer none] 79)) := by repeat (first | exact ext_refl _ | apply ext_alloc)
  have hb0 : ((w.alloc (.cells #[.int .u64 (U x)] 33)).alloc (.cells #[.int .u64 0, .int .i64 0, .int .i64 0, .int .u64 0, .int .u64 0, .nilFunc, .pointer none] 79)).heap[w.heap.size]? = some (.cells #[.int .u64 (U x)] 33) := (Below.heap_alloc _ _ _ (by simp <;> omega)).trans (heap_at _ _ _ (by simp))
  have hb1 : ((w.alloc (.cells #[.int .u64 (U x)] 33)).alloc (.cells #[.int .u64 0, .int .i64 0, .int .i64 0, .int .u64 0, .int .u64 0, .nilFunc, .pointer none] 79)).heap[w.heap.size + 1]? = some (.cells #[.int .u64 0, .int .i64 0, .int .i64 0, .int .u64 0, .int .u64 0, .nilFunc, .pointer none] 79) := heap_at _ _ _ (by simp)
  have hW : ((w.alloc (.cells #[.int .u64 (U x)] 33)).alloc (.cells #[.int .u64 0, .int .i64 0, .int .i64 0, .int .u64 0, .int .u64 0, .nilFunc, .pointer none] 79)).heap.size = w.heap.size + 1 + 1 := by simp
  generalize ((w.alloc (.cells #[.int .u64 (U x)] 33)).alloc (.cells #[.int .u64 0, .int .i64 0, .int .i64 0, .int .u64 0, .int .u64 0, .nilFunc, .pointer none] 79)) = W at hE hb0 hb1 hW ⊢
  refine (hnamed_any x sh hsh W).mono ?_
  rintro e w1 ⟨rfl, hx⟩
  replace hE := ext_trans hE hx
  replace hb0 := (hx.block _ (heap_lt hb0)).trans hb0
  replace hb1 := (hx.block _ (heap_lt hb1)).trans hb1
  clear hx hW d1 d2 d3 d4 m1 m2 m3 m4 c0 c1 c2 c3 c4 c5 lt
  have hG1 := hG.out.ext hE
  have g0 := cell_at (o := 0) hb0 rfl
  have gl := cell_lt g0
  replace hE := Lib.hid hE
  replace hb0 := Lib.hid hb0
  replace hb1 := Lib.hid hb1
  replace hG1 := Lib.hid hG1
  go_wp2_with (go_at_call 65; refine Hid.out ?_)
  refine Lib.hid ?_
  replace hE := hE.out
  replace hb0 := hb0.out
  replace hb1 := hb1.out
  replace hG1 := hG1.out
  refine (doneU_PT x w1).mono ?_
  rintro e w' hR
  obtain ⟨v', F', rfl, hX, hp, hbn, hsub, hnF, hbq⟩ := hR.tail (G := noF) (w.heap.size + 1) hE (heap_lt hb1) (fun h => h) (fun _ h => h.elim)
  have hbx := hbq.trans hb1
  clear hbq hR
  clear hE hb0 hb1 hG1 g0 gl hz' hG
  obtain ⟨y, a2, fn2, rfl, hfn⟩ := shU hp
  have hXX := put7_ext (b := w.heap.size + 1) (.int .u64 y) (.int .i64 a2.op) (.int .i64 a2.at_) (.int .u64 (U a2.a)) (.int .u64 (U a2.b)) (fn2) (.pointer none) hX (by omega)
  have hB := put7_block (.int .u64 y) (.int .i64 a2.op) (.int .i64 a2.at_) (.int .u64 (U a2.a)) (.int .u64 (U a2.b)) (fn2) (.pointer none) hbx
  have hP := hp.agr (Agr.of_put7 (b := w.heap.size + 1) (.int .u64 y) (.int .i64 a2.op) (.int .i64 a2.at_) (.int .u64 (U a2.a)) (.int .u64 (U a2.b)) (fn2) (.pointer none) hnF)
  have hS : (put7 (w.heap.size + 1) (.int .u64 y) (.int .i64 a2.op) (.int .i64 a2.at_) (.int .u64 (U a2.a)) (.int .u64 (U a2.b)) (fn2) (.pointer none) w').heap.size = w'.heap.size := put7_size (.int .u64 y) (.int .i64 a2.op) (.int .i64 a2.at_) (.int .u64 (U a2.a)) (.int .u64 (U a2.b)) (fn2) (.pointer none)
  obtain ⟨c0, c1, c2, c3, c4, c5, c6, cz, ll⟩ := sev_of hbx
  rw [put7] at hXX hB hP hS
  have HX := Lib.hid (And.intro hXX (And.intro hB (And.intro hP hS)))
  have HFN := Lib.hid hfn
  have HBN := Lib.hid hbn
  have HSUB := Lib.hid hsub
  clear hXX hB hP hS hX hbx hp hfn hbn hsub hnF
  rcases HFN.out with rfl | ⟨g', caps', rfl⟩
  all_goals
    go_wp2
    clear c0 c1 c2 c3 c4 c5 c6 cz ll
    obtain ⟨hX, hB, hP, hS⟩ := HX.out
    clear HX
    generalize (World.setCell _ (⟨w.heap.size + 1, 6, none⟩ : Addr) _) = Z at hX hB hP hS ⊢
    obtain ⟨c0, c1, c2, c3, c4, c5, c6, cz, ll⟩ := sev_of hB
    exact bodyPost_ret (by simp only [results, Try.results63, go_sem]; simp [go_sem, c0, c1, c2, c3, c4, c5, c6]) rfl ⟨_, F', rfl, hX, hP, fun j hj => by rw [hS]; exact HBN.out j hj, HSUB.out⟩
set_option maxRecDepth 8000 in
set_option maxHeartbeats 2000000 in
theorem gon_some (p : Pl) (t s at_ : Int) (sh : Nat) (hsh : sh < 64) (x : BitVec 64) (tr : Tr (BitVec 64)) (B0 B1 B2 B3 B4 B6 : Nat) (w : World) (hG : GBx p t s at_ sh B0 B1 B2 B3 B4 B6 w) (hz : x >>> sh ≠ 0#64) (hN : ∀ v F BX W, GBx p t s at_ sh B0 B1 B2 B3 B4 B6 W → W.heap[BX]? = some (.cells #[.int .u64 (U x)] 33 (0, 0)) → PT kN (setT (p.hazF t s) (x >>> sh)) F v W → Bnd F W → Calls Try.prog 66 #[v, .func (.func 67) #[] #[.pointer (some ⟨B3, 0, none⟩), .pointer (some ⟨BX, 0, none⟩), .pointer (some ⟨B6, 0, none⟩)]] W (RetP (PT kU tr) (fun j => F j ∨ gbF B0 B1 B2 B3 B4 B6 j ∨ j = BX) W)) :
    Calls Try.prog 63 #[.int .u64 (U x), .pointer (some ⟨B4, 0, none⟩), .pointer (some ⟨B0, 0, none⟩), .pointer (some ⟨B1, 0, none⟩), .pointer (some ⟨B2, 0, none⟩), .pointer (some ⟨B3, 0, none⟩), .pointer (some ⟨B6, 0, none⟩)] w (RetP (PT kU tr) (gbF B0 B1 B2 B3 B4 B6) w) := by
  have hz' : ¬ U (x >>> sh) = 0 := fun e => hz (U_inj (e.trans U_0.symm))
  have hgb := hG.bnd
  clear hz
  have d1 := cell_at (o := 0) hG.b1 rfl
  have d2 := cell_at (o := 0) hG.b2 rfl
  have d3 := cell_at (o := 0) hG.b3 rfl
  have d4 := cell_at (o := 0) hG.b4 rfl
  have m1 := cell_lt d1
  have m2 := cell_lt d2
  have m3 := cell_lt d3
  have m4 := cell_lt d4
  have ⟨c0, c1, c2, c3, c4, c5, lt⟩ := hG.b0.plc
  replace hG := Lib.hid hG
  replace hN := Lib.hid hN
  replace hgb := Lib.hid hgb
  go_enter Try.func63, Try.ntmps63
  go_wp2_with (go_at_call 64; refine Hid.out ?_)
  refine Lib.hid ?_
  have hE : Ext w ((w.alloc (.cells #[.int .u64 (U x)] 33)).alloc (.cells #[.int .u64 0, .int .i64 0, .int .i64 0, .int .u64 0, .int .u64 0, .nilFunc, .pointer none] 79)) := by repeat (first | exact ext_refl _ | apply ext_alloc)
  have hb0 : ((w.alloc (.cells #[.int .u64 (U x)] 33)).alloc (.cells #[.int .u64 0, .int .i64 0, .int .i64 0, .int .u64 0, .int .u64 0, .nilFunc, .pointer none] 79)).heap[w.heap.size]? = some (.cells #[.int .u64 (U x)] 33) := (Below.heap_alloc _ _ _ (by simp <;> omega)).trans (heap_at _ _ _ (by simp))
  have hb1 : ((w.alloc (.cells #[.int .u64 (U x)] 33)).alloc (.cells #[.int .u64 0, .int .i64 0, .int .i64 0, .int .u64 0, .int .u64 0, .nilFunc, .pointer none] 79)).heap[w.heap.size + 1]? = some (.cells #[.int .u64 0, .int .i64 0, .int .i64 0, .int .u64 0, .int .u64 0, .nilFunc, .pointer none] 79) := heap_at _ _ _ (by simp)
  have hW : ((w.alloc (.cells #[.int .u64 (U x)] 33)).alloc (.cells #[.int .u64 0, .int .i64 0, .int .i64 0, .int .u64 0, .int .u64 0, .nilFunc, .pointer none] 79)).heap.size = w.heap.size + 1 + 1 := by simp
  generalize ((w.alloc (.cells #[.int .u64 (U x)] 33)).alloc (.cells #[.int .u64 0, .int .i64 0, .int .i64 0, .int .u64 0, .int .u64 0, .nilFunc, .pointer none] 79)) = W at hE hb0 hb1 hW ⊢
  refine (hnamed_any x sh hsh W).mono ?_
  rintro e w1 ⟨rfl, hx⟩
  replace hE := ext_trans hE hx
  replace hb0 := (hx.block _ (heap_lt hb0)).trans hb0
  replace hb1 := (hx.block _ (heap_lt hb1)).trans hb1
  clear hx hW d1 d2 d3 d4 m1 m2 m3 m4 c0 c1 c2 c3 c4 c5 lt
  have hG1 := hG.out.ext hE
  have d1 := cell_at (o := 0) hG1.b1 rfl
  have d2 := cell_at (o := 0) hG1.b2 rfl
  have d3 := cell_at (o := 0) hG1.b3 rfl
  have m1 := cell_lt d1
  have m2 := cell_lt d2
  have m3 := cell_lt d3
  have ⟨c0, c1, c2, c3, c4, c5, lt⟩ := hG1.b0.plc
  replace hE := Lib.hid hE
  replace hb0 := Lib.hid hb0
  replace hb1 := Lib.hid hb1
  replace hG1 := Lib.hid hG1
  go_wp2_with (go_at_call 51; refine Hid.out ?_)
  refine Lib.hid ?_
  replace hE := hE.out
  replace hb0 := hb0.out
  replace hb1 := hb1.out
  replace hG1 := hG1.out
  clear d1 d2 d3 m1 m2 m3 c0 c1 c2 c3 c4 c5 lt
  refine (hput_PT p t s (x >>> sh) w1).mono ?_
  rintro e w2 ⟨v1, F1, rfl, hx, hp1, hbn1, hsub⟩
  have hn1 : ¬ F1 (w.heap.size + 1) := fun h => (hsub _ h).elim (fun h => h) fun h => by have := heap_lt hb1; omega
  have hs1 : ∀ j, F1 j → noF j ∨ w.heap.size ≤ j := fun j hj => (hsub j hj).imp_right fun h => Nat.le_trans hE.size h
  replace hE := ext_trans hE hx
  replace hb0 := (hx.block _ (heap_lt hb0)).trans hb0
  replace hb1 := (hx.block _ (heap_lt hb1)).trans hb1
  replace hG1 := hG1.ext hx
  clear hx hsub
  replace hE := Lib.hid hE
  replace hb0 := Lib.hid hb0
  replace hb1 := Lib.hid hb1
  replace hG1 := Lib.hid hG1
  replace hp1 := Lib.hid hp1
  replace hbn1 := Lib.hid hbn1
  replace hs1 := Lib.hid hs1
  replace hn1 := Lib.hid hn1
  go_wp2_with (go_at_call 66; refine Hid.out ?_)
  refine Lib.hid ?_
  replace hE := hE.out
  replace hb0 := hb0.out
  replace hb1 := hb1.out
  replace hG1 := hG1.out
  replace hp1 := hp1.out
  replace hbn1 := hbn1.out
  replace hs1 := hs1.out
  replace hn1 := hn1.out
  refine (hN.out v1 F1 w.heap.size w2 hG1 hb0 hp1 hbn1).mono ?_
  rintro e w' hR
  obtain ⟨v', F', rfl, hX, hp, hbn, hsub, hnF, hbq⟩ := hR.tail (G := (gbF B0 B1 B2 B3 B4 B6)) (w.heap.size + 1) hE (heap_lt hb1) (fun h => by rcases h with h | h | h; exact hn1 h; (have := hgb.out _ h; omega); omega) (fun j h => by rcases h with h | h | h; exact (hs1 j h).imp_left False.elim; exact .inl h; exact .inr (by omega))
  have hbx := hbq.trans hb1
  clear hbq hR
  clear hE hb0 hb1 hG1 hp1 hbn1 hs1 hn1 hN hgb hG hz'
  obtain ⟨y, a2, fn2, rfl, hfn⟩ := shU hp
  have hXX := put7_ext (b := w.heap.size + 1) (.int .u64 y) (.int .i64 a2.op) (.int .i64 a2.at_) (.int .u64 (U a2.a)) (.int .u64 (U a2.b)) (fn2) (.pointer none) hX (by omega)
  have hB := put7_block (.int .u64 y) (.int .i64 a2.op) (.int .i64 a2.at_) (.int .u64 (U a2.a)) (.int .u64 (U a2.b)) (fn2) (.pointer none) hbx
  have hP := hp.agr (Agr.of_put7 (b := w.heap.size + 1) (.int .u64 y) (.int .i64 a2.op) (.int .i64 a2.at_) (.int .u64 (U a2.a)) (.int .u64 (U a2.b)) (fn2) (.pointer none) hnF)
  have hS : (put7 (w.heap.size + 1) (.int .u64 y) (.int .i64 a2.op) (.int .i64 a2.at_) (.int .u64 (U a2.a)) (.int .u64 (U a2.b)) (fn2) (.pointer none) w').heap.size = w'.heap.size := put7_size (.int .u64 y) (.int .i64 a2.op) (.int .i64 a2.at_) (.int .u64 (U a2.a)) (.int .u64 (U a2.b)) (fn2) (.pointer none)
  obtain ⟨c0, c1, c2, c3, c4, c5, c6, cz, ll⟩ := sev_of hbx
  rw [put7] at hXX hB hP hS
  have HX := Lib.hid (And.intro hXX (And.intro hB (And.intro hP hS)))
  have HFN := Lib.hid hfn
  have HBN := Lib.hid hbn
  have HSUB := Lib.hid hsub
  clear hXX hB hP hS hX hbx hp hfn hbn hsub hnF
  rcases HFN.out with rfl | ⟨g', caps', rfl⟩
  all_goals
    go_wp2
    clear c0 c1 c2 c3 c4 c5 c6 cz ll
    obtain ⟨hX, hB, hP, hS⟩ := HX.out
    clear HX
    generalize (World.setCell _ (⟨w.heap.size + 1, 6, none⟩ : Addr) _) = Z at hX hB hP hS ⊢
    obtain ⟨c0, c1, c2, c3, c4, c5, c6, cz, ll⟩ := sev_of hB
    exact bodyPost_ret (by simp only [results, Try.results63, go_sem]; simp [go_sem, c0, c1, c2, c3, c4, c5, c6]) rfl ⟨_, F', rfl, hX, hP, fun j hj => by rw [hS]; exact HBN.out j hj, HSUB.out⟩
theorem gon_PT (p : Pl) (t s at_ : Int) (sh : Nat) (hsh : sh < 64) (B0 B1 B2 B3 B4 B6 : Nat) : ∀ (N : Nat) (x : BitVec 64) (w : World), GBx p t s at_ sh B0 B1 B2 B3 B4 B6 w →
    Calls Try.prog 63 #[.int .u64 (U x), .pointer (some ⟨B4, 0, none⟩), .pointer (some ⟨B0, 0, none⟩), .pointer (some ⟨B1, 0, none⟩), .pointer (some ⟨B2, 0, none⟩), .pointer (some ⟨B3, 0, none⟩), .pointer (some ⟨B6, 0, none⟩)] w (RetP (PT kU (gonT p t s at_ sh N x)) (gbF B0 B1 B2 B3 B4 B6) w)
  | 0, x, w, hG => by
    unfold gonT
    by_cases hz : x >>> sh = 0#64
    · rw [if_pos hz]
      exact (gon_none p t s at_ sh hsh x B0 B1 B2 B3 B4 B6 w hG hz).mono fun _ _ h => h.mono fun _ h => h.elim
    · rw [if_neg hz]
      exact gon_some p t s at_ sh hsh x .more B0 B1 B2 B3 B4 B6 w hG hz fun v F BX W _ _ hp _ => (thenM_NU F v _ _ W hp.more).mono fun _ _ h => h.mono fun _ h => h.elim
  | N + 1, x, w, hG => by
    unfold gonT
    by_cases hz : x >>> sh = 0#64
    · rw [if_pos hz]
      exact (gon_none p t s at_ sh hsh x B0 B1 B2 B3 B4 B6 w hG hz).mono fun _ _ h => h.mono fun _ h => h.elim
    · rw [if_neg hz]
      refine gon_some p t s at_ sh hsh x _ B0 B1 B2 B3 B4 B6 w hG hz fun v F BX W hW hb hp hbn => ?_
      have hC : CT kU kU (gonT p t s at_ sh N) (gbF B0 B1 B2 B3 B4 B6) (.func (.func 63) #[] #[.pointer (some ⟨B4, 0, none⟩), .pointer (some ⟨B0, 0, none⟩), .pointer (some ⟨B1, 0, none⟩), .pointer (some ⟨B2, 0, none⟩), .pointer (some ⟨B3, 0, none⟩), .pointer (some ⟨B6, 0, none⟩)]) W := ⟨_, _, rfl, enters_of Try.func63 (by kernel_rfl) rfl, fun y W' ha => gon_PT p t s at_ sh hsh B0 B1 B2 B3 B4 B6 N y W' (hW.agr ha)⟩
      refine (then_NU _ _ F _ v _ W hp (grd2_CT at_ x _ _ _ B3 BX B6 W hW.b3 hb hW.b6 hC hW.bnd) hbn (fun j h => ?_)).mono fun _ _ h => h.mono fun j h => ?_
      · rcases h with h | rfl | rfl | rfl
        · exact hW.bnd j h
        · exact heap_lt hW.b3
        · exact heap_lt hb
        · exact heap_lt hW.b6
      · rcases h with h | h | h | h | h
        · exact .inl h
        · exact .inr (.inl h)
        · exact .inr (.inl (.inr (.inr (.inr (.inl h)))))
        · exact .inr (.inr h)
        · exact .inr (.inl (.inr (.inr (.inr (.inr (.inr h))))))
theorem gon_CT (p : Pl) (t s at_ : Int) (sh : Nat) (hsh : sh < 64) (B0 B1 B2 B3 B4 B6 : Nat) (N : Nat) (w : World) (h : GBx p t s at_ sh B0 B1 B2 B3 B4 B6 w) : CT kU kU (gonT p t s at_ sh N) (gbF B0 B1 B2 B3 B4 B6) (.func (.func 63) #[] #[.pointer (some ⟨B4, 0, none⟩), .pointer (some ⟨B0, 0, none⟩), .pointer (some ⟨B1, 0, none⟩), .pointer (some ⟨B2, 0, none⟩), .pointer (some ⟨B3, 0, none⟩), .pointer (some ⟨B6, 0, none⟩)]) w :=
  ⟨_, _, rfl, enters_of Try.func63 (by kernel_rfl) rfl, fun y W' ha => gon_PT p t s at_ sh hsh B0 B1 B2 B3 B4 B6 N y W' (h.agr ha)⟩
set_option maxRecDepth 8000 in
set_option maxHeartbeats 2000000 in
theorem hguard_PT (p : Pl) (t s at_ : Int) (sh : Nat) (hsh : sh < 64) (N : Nat) (w : World) : Calls Try.prog 29 #[plV p, .int .i64 t, .int .i64 s, .int .i64 at_, .int .i64 (sh : Int)] w (RetP (PT kU (grdT p t s at_ sh N)) noF w) := by
  go_enter Try.func29, Try.ntmps29
  go_wp2
  have hE : Ext w (((((((w.alloc (.cells #[.int .i64 p.n, .int .i64 p.t, .int .i64 p.r, .int .i64 p.d, .int .i64 p.b, .int .i64 p.g] 23)).alloc (.cells #[.int .i64 t] 3)).alloc (.cells #[.int .i64 s] 3)).alloc (.cells #[.int .i64 at_] 3)).alloc (.cells #[.int .i64 (sh : Int)] 3)).alloc (.cells #[.int .u64 0, .int .i64 0, .int .i64 0, .int .u64 0, .int .u64 0, .nilFunc, .pointer none] 79)).alloc (.cells #[.func (.func 63) #[] #[.pointer (some ⟨w.heap.size + 1 + 1 + 1 + 1, 0, none⟩), .pointer (some ⟨w.heap.size, 0, none⟩), .pointer (some ⟨w.heap.size + 1, 0, none⟩), .pointer (some ⟨w.heap.size + 1 + 1, 0, none⟩), .pointer (some ⟨w.heap.size + 1 + 1 + 1, 0, none⟩), .pointer (some ⟨w.heap.size + 1 + 1 + 1 + 1 + 1 + 1, 0, none⟩)]] 77)) := by repeat (first | exact ext_refl _ | apply ext_alloc)
  have hb0 : (((((((w.alloc (.cells #[.int .i64 p.n, .int .i64 p.t, .int .i64 p.r, .int .i64 p.d, .int .i64 p.b, .int .i64 p.g] 23)).alloc (.cells #[.int .i64 t] 3)).alloc (.cells #[.int .i64 s] 3)).alloc (.cells #[.int .i64 at_] 3)).alloc (.cells #[.int .i64 (sh : Int)] 3)).alloc (.cells #[.int .u64 0, .int .i64 0, .int .i64 0, .int .u64 0, .int .u64 0, .nilFunc, .pointer none] 79)).alloc (.cells #[.func (.func 63) #[] #[.pointer (some ⟨w.heap.size + 1 + 1 + 1 + 1, 0, none⟩), .pointer (some ⟨w.heap.size, 0, none⟩), .pointer (some ⟨w.heap.size + 1, 0, none⟩), .pointer (some ⟨w.heap.size + 1 + 1, 0, none⟩), .pointer (some ⟨w.heap.size + 1 + 1 + 1, 0, none⟩), .pointer (some ⟨w.heap.size + 1 + 1 + 1 + 1 + 1 + 1, 0, none⟩)]] 77)).heap[w.heap.size]? = some (.cells #[.int .i64 p.n, .int .i64 p.t, .int .i64 p.r, .int .i64 p.d, .int .i64 p.b, .int .i64 p.g] 23) := (Below.heap_alloc _ _ _ (by simp <;> omega)).trans ((Below.heap_alloc _ _ _ (by simp <;> omega)).trans ((Below.heap_alloc _ _ _ (by simp <;> omega)).trans ((Below.heap_alloc _ _ _ (by simp <;> omega)).trans ((Below.heap_alloc _ _ _ (by simp <;> omega)).trans ((Below.heap_alloc _ _ _ (by simp <;> omega)).trans (heap_at _ _ _ (by simp)))))))
  have hb1 : (((((((w.alloc (.cells #[.int .i64 p.n, .int .i64 p.t, .int .i64 p.r, .int .i64 p.d, .int .i64 p.b, .int .i64 p.g] 23)).alloc (.cells #[.int .i64 t] 3)).alloc (.cells #[.int .i64 s] 3)).alloc (.cells #[.int .i64 at_] 3)).alloc (.cells #[.int .i64 (sh : Int)] 3)).alloc (.cells #[.int .u64 0, .int .i64 0, .int .i64 0, .int .u64 0, .int .u64 0, .nilFunc, .pointer none] 79)).alloc (.cells #[.func (.func 63) #[] #[.pointer (some ⟨w.heap.size + 1 + 1 + 1 + 1, 0, none⟩), .pointer (some ⟨w.heap.size, 0, none⟩), .pointer (some ⟨w.heap.size + 1, 0, none⟩), .pointer (some ⟨w.heap.size + 1 + 1, 0, none⟩), .pointer (some ⟨w.heap.size + 1 + 1 + 1, 0, none⟩), .pointer (some ⟨w.heap.size + 1 + 1 + 1 + 1 + 1 + 1, 0, none⟩)]] 77)).heap[w.heap.size + 1]? = some (.cells #[.int .i64 t] 3) := (Below.heap_alloc _ _ _ (by simp <;> omega)).trans ((Below.heap_alloc _ _ _ (by simp <;> omega)).trans ((Below.heap_alloc _ _ _ (by simp <;> omega)).trans ((Below.heap_alloc _ _ _ (by simp <;> omega)).trans ((Below.heap_alloc _ _ _ (by simp <;> omega)).trans (heap_at _ _ _ (by simp))))))
  have hb2 : (((((((w.alloc (.cells #[.int .i64 p.n, .int .i64 p.t, .int .i64 p.r, .int .i64 p.d, .int .i64 p.b, .int .i64 p.g] 23)).alloc (.cells #[.int .i64 t] 3)).alloc (.cells #[.int .i64 s] 3)).alloc (.cells #[.int .i64 at_] 3)).alloc (.cells #[.int .i64 (sh : Int)] 3)).alloc (.cells #[.int .u64 0, .int .i64 0, .int .i64 0, .int .u64 0, .int .u64 0, .nilFunc, .pointer none] 79)).alloc (.cells #[.func (.func 63) #[] #[.pointer (some ⟨w.heap.size + 1 + 1 + 1 + 1, 0, none⟩), .pointer (some ⟨w.heap.size, 0, none⟩), .pointer (some ⟨w.heap.size + 1, 0, none⟩), .pointer (some ⟨w.heap.size + 1 + 1, 0, none⟩), .pointer (some ⟨w.heap.size + 1 + 1 + 1, 0, none⟩), .pointer (some ⟨w.heap.size + 1 + 1 + 1 + 1 + 1 + 1, 0, none⟩)]] 77)).heap[w.heap.size + 1 + 1]? = some (.cells #[.int .i64 s] 3) := (Below.heap_alloc _ _ _ (by simp <;> omega)).trans ((Below.heap_alloc _ _ _ (by simp <;> omega)).trans ((Below.heap_alloc _ _ _ (by simp <;> omega)).trans ((Below.heap_alloc _ _ _ (by simp <;> omega)).trans (heap_at _ _ _ (by simp)))))
  have hb3 : (((((((w.alloc (.cells #[.int .i64 p.n, .int .i64 p.t, .int .i64 p.r, .int .i64 p.d, .int .i64 p.b, .int .i64 p.g] 23)).alloc (.cells #[.int .i64 t] 3)).alloc (.cells #[.int .i64 s] 3)).alloc (.cells #[.int .i64 at_] 3)).alloc (.cells #[.int .i64 (sh : Int)] 3)).alloc (.cells #[.int .u64 0, .int .i64 0, .int .i64 0, .int .u64 0, .int .u64 0, .nilFunc, .pointer none] 79)).alloc (.cells #[.func (.func 63) #[] #[.pointer (some ⟨w.heap.size + 1 + 1 + 1 + 1, 0, none⟩), .pointer (some ⟨w.heap.size, 0, none⟩), .pointer (some ⟨w.heap.size + 1, 0, none⟩), .pointer (some ⟨w.heap.size + 1 + 1, 0, none⟩), .pointer (some ⟨w.heap.size + 1 + 1 + 1, 0, none⟩), .pointer (some ⟨w.heap.size + 1 + 1 + 1 + 1 + 1 + 1, 0, none⟩)]] 77)).heap[w.heap.size + 1 + 1 + 1]? = some (.cells #[.int .i64 at_] 3) := (Below.heap_alloc _ _ _ (by simp <;> omega)).trans ((Below.heap_alloc _ _ _ (by simp <;> omega)).trans ((Below.heap_alloc _ _ _ (by simp <;> omega)).trans (heap_at _ _ _ (by simp))))
  have hb4 : (((((((w.alloc (.cells #[.int .i64 p.n, .int .i64 p.t, .int .i64 p.r, .int .i64 p.d, .int .i64 p.b, .int .i64 p.g] 23)).alloc (.cells #[.int .i64 t] 3)).alloc (.cells #[.int .i64 s] 3)).alloc (.cells #[.int .i64 at_] 3)).alloc (.cells #[.int .i64 (sh : Int)] 3)).alloc (.cells #[.int .u64 0, .int .i64 0, .int .i64 0, .int .u64 0, .int .u64 0, .nilFunc, .pointer none] 79)).alloc (.cells #[.func (.func 63) #[] #[.pointer (some ⟨w.heap.size + 1 + 1 + 1 + 1, 0, none⟩), .pointer (some ⟨w.heap.size, 0, none⟩), .pointer (some ⟨w.heap.size + 1, 0, none⟩), .pointer (some ⟨w.heap.size + 1 + 1, 0, none⟩), .pointer (some ⟨w.heap.size + 1 + 1 + 1, 0, none⟩), .pointer (some ⟨w.heap.size + 1 + 1 + 1 + 1 + 1 + 1, 0, none⟩)]] 77)).heap[w.heap.size + 1 + 1 + 1 + 1]? = some (.cells #[.int .i64 (sh : Int)] 3) := (Below.heap_alloc _ _ _ (by simp <;> omega)).trans ((Below.heap_alloc _ _ _ (by simp <;> omega)).trans (heap_at _ _ _ (by simp)))
  have hb5 : (((((((w.alloc (.cells #[.int .i64 p.n, .int .i64 p.t, .int .i64 p.r, .int .i64 p.d, .int .i64 p.b, .int .i64 p.g] 23)).alloc (.cells #[.int .i64 t] 3)).alloc (.cells #[.int .i64 s] 3)).alloc (.cells #[.int .i64 at_] 3)).alloc (.cells #[.int .i64 (sh : Int)] 3)).alloc (.cells #[.int .u64 0, .int .i64 0, .int .i64 0, .int .u64 0, .int .u64 0, .nilFunc, .pointer none] 79)).alloc (.cells #[.func (.func 63) #[] #[.pointer (some ⟨w.heap.size + 1 + 1 + 1 + 1, 0, none⟩), .pointer (some ⟨w.heap.size, 0, none⟩), .pointer (some ⟨w.heap.size + 1, 0, none⟩), .pointer (some ⟨w.heap.size + 1 + 1, 0, none⟩), .pointer (some ⟨w.heap.size + 1 + 1 + 1, 0, none⟩), .pointer (some ⟨w.heap.size + 1 + 1 + 1 + 1 + 1 + 1, 0, none⟩)]] 77)).heap[w.heap.size + 1 + 1 + 1 + 1 + 1]? = some (.cells #[.int .u64 0, .int .i64 0, .int .i64 0, .int .u64 0, .int .u64 0, .nilFunc, .pointer none] 79) := (Below.heap_alloc _ _ _ (by simp <;> omega)).trans (heap_at _ _ _ (by simp))
  have hb6 : (((((((w.alloc (.cells #[.int .i64 p.n, .int .i64 p.t, .int .i64 p.r, .int .i64 p.d, .int .i64 p.b, .int .i64 p.g] 23)).alloc (.cells #[.int .i64 t] 3)).alloc (.cells #[.int .i64 s] 3)).alloc (.cells #[.int .i64 at_] 3)).alloc (.cells #[.int .i64 (sh : Int)] 3)).alloc (.cells #[.int .u64 0, .int .i64 0, .int .i64 0, .int .u64 0, .int .u64 0, .nilFunc, .pointer none] 79)).alloc (.cells #[.func (.func 63) #[] #[.pointer (some ⟨w.heap.size + 1 + 1 + 1 + 1, 0, none⟩), .pointer (some ⟨w.heap.size, 0, none⟩), .pointer (some ⟨w.heap.size + 1, 0, none⟩), .pointer (some ⟨w.heap.size + 1 + 1, 0, none⟩), .pointer (some ⟨w.heap.size + 1 + 1 + 1, 0, none⟩), .pointer (some ⟨w.heap.size + 1 + 1 + 1 + 1 + 1 + 1, 0, none⟩)]] 77)).heap[w.heap.size + 1 + 1 + 1 + 1 + 1 + 1]? = some (.cells #[.func (.func 63) #[] #[.pointer (some ⟨w.heap.size + 1 + 1 + 1 + 1, 0, none⟩), .pointer (some ⟨w.heap.size, 0, none⟩), .pointer (some ⟨w.heap.size + 1, 0, none⟩), .pointer (some ⟨w.heap.size + 1 + 1, 0, none⟩), .pointer (some ⟨w.heap.size + 1 + 1 + 1, 0, none⟩), .pointer (some ⟨w.heap.size + 1 + 1 + 1 + 1 + 1 + 1, 0, none⟩)]] 77) := heap_at _ _ _ (by simp)
  have hW : (((((((w.alloc (.cells #[.int .i64 p.n, .int .i64 p.t, .int .i64 p.r, .int .i64 p.d, .int .i64 p.b, .int .i64 p.g] 23)).alloc (.cells #[.int .i64 t] 3)).alloc (.cells #[.int .i64 s] 3)).alloc (.cells #[.int .i64 at_] 3)).alloc (.cells #[.int .i64 (sh : Int)] 3)).alloc (.cells #[.int .u64 0, .int .i64 0, .int .i64 0, .int .u64 0, .int .u64 0, .nilFunc, .pointer none] 79)).alloc (.cells #[.func (.func 63) #[] #[.pointer (some ⟨w.heap.size + 1 + 1 + 1 + 1, 0, none⟩), .pointer (some ⟨w.heap.size, 0, none⟩), .pointer (some ⟨w.heap.size + 1, 0, none⟩), .pointer (some ⟨w.heap.size + 1 + 1, 0, none⟩), .pointer (some ⟨w.heap.size + 1 + 1 + 1, 0, none⟩), .pointer (some ⟨w.heap.size + 1 + 1 + 1 + 1 + 1 + 1, 0, none⟩)]] 77)).heap.size = w.heap.size + 1 + 1 + 1 + 1 + 1 + 1 + 1 := by simp
  generalize (((((((w.alloc (.cells #[.int .i64 p.n, .int .i64 p.t, .int .i64 p.r, .int .i64 p.d, .int .i64 p.b, .int .i64 p.g] 23)).alloc (.cells #[.int .i64 t] 3)).alloc (.cells #[.int .i64 s] 3)).alloc (.cells #[.int .i64 at_] 3)).alloc (.cells #[.int .i64 (sh : Int)] 3)).alloc (.cells #[.int .u64 0, .int .i64 0, .int .i64 0, .int .u64 0, .int .u64 0, .nilFunc, .pointer none] 79)).alloc (.cells #[.func (.func 63) #[] #[.pointer (some ⟨w.heap.size + 1 + 1 + 1 + 1, 0, none⟩), .pointer (some ⟨w.heap.size, 0, none⟩), .pointer (some ⟨w.heap.size + 1, 0, none⟩), .pointer (some ⟨w.heap.size + 1 + 1, 0, none⟩), .pointer (some ⟨w.heap.size + 1 + 1 + 1, 0, none⟩), .pointer (some ⟨w.heap.size + 1 + 1 + 1 + 1 + 1 + 1, 0, none⟩)]] 77)) = W at hE hb0 hb1 hb2 hb3 hb4 hb5 hb6 hW ⊢
  have hG : GBx p t s at_ sh (w.heap.size) (w.heap.size + 1) (w.heap.size + 1 + 1) (w.heap.size + 1 + 1 + 1) (w.heap.size + 1 + 1 + 1 + 1) (w.heap.size + 1 + 1 + 1 + 1 + 1 + 1) W := ⟨hb0, hb1, hb2, hb3, hb4, hb6⟩
  have g3 := cell_at (o := 0) hb3 rfl
  have g6 := cell_at (o := 0) hb6 rfl
  have gl3 := cell_lt g3
  have gl6 := cell_lt g6
  clear hb0 hb1 hb2 hb3 hb4 hb6
  replace hE := Lib.hid hE
  replace hb5 := Lib.hid hb5
  replace hW := Lib.hid hW
  replace hG := Lib.hid hG
  refine wp_region_mix (fun w' => ∃ s, w' = over W s) [(0, [0, 2]), (1, [1]), (1, [3]), (2, [4])] (by kernel_rfl) (by kernel_rfl) (over_of (ext_drew (ext_refl W))) ?_
  simp only [pieces, pickL, List.map_cons, List.map_nil, List.getD_cons_zero, List.getD_cons_succ]
  refine mix_reads ?_
  repeat (go_big_quiet_step (fail))
  refine wpQuiet_nil (mix_acts ?_)
  have HX0 := Lib.hid (ext_drew (ext_refl W))
  go_wp2_with (go_at_call 70; refine (get_PT at_ _).mono ?_; rintro e w3 ⟨v1, F1, rfl, hx, hp1, hbn1, hsub1⟩; refine Hid.out ?_)
  refine Lib.hid ?_
  replace hE := hE.out
  replace hb5 := hb5.out
  replace hW := hW.out
  replace hG := hG.out
  have hn1 : ¬ F1 (w.heap.size + 1 + 1 + 1 + 1 + 1) := fun h => (hsub1 _ h).elim (fun h => h) fun h => by have := heap_lt hb5; have := HX0.out.size; omega
  have hs1 : ∀ j, F1 j → noF j ∨ w.heap.size ≤ j := fun j hj => (hsub1 j hj).imp_right fun h => Nat.le_trans (Nat.le_trans hE.size HX0.out.size) h
  have HX3 := Lib.hid (ext_trans HX0.out hx)
  replace hb5 := (HX3.out.block _ (heap_lt hb5)).trans hb5
  replace hG := hG.ext HX3.out
  replace hE := ext_trans hE HX3.out
  clear hx hsub1
  replace hE := Lib.hid hE
  replace hb5 := Lib.hid hb5
  replace hW := Lib.hid hW
  replace hG := Lib.hid hG
  replace hp1 := Lib.hid hp1
  replace hbn1 := Lib.hid hbn1
  replace hs1 := Lib.hid hs1
  replace hn1 := Lib.hid hn1
  go_wp2
  refine mixQ_mk (over_of HX3.out) (mix_acts ?_)
  go_wp2_with (go_at_call 69; refine Hid.out ?_)
  refine Lib.hid ?_
  replace hE := hE.out
  replace hb5 := hb5.out
  replace hW := hW.out
  replace hG := hG.out
  replace hp1 := hp1.out
  replace hbn1 := hbn1.out
  replace hs1 := hs1.out
  replace hn1 := hn1.out
  have hCT := gon_CT p t s at_ sh hsh (w.heap.size) (w.heap.size + 1) (w.heap.size + 1 + 1) (w.heap.size + 1 + 1 + 1) (w.heap.size + 1 + 1 + 1 + 1) (w.heap.size + 1 + 1 + 1 + 1 + 1 + 1) N w3 hG
  refine (then_UU _ _ F1 _ v1 _ w3 hp1 hCT hbn1 hG.bnd).mono ?_
  rintro e w' hR
  have HXZ := Lib.hid (ext_trans HX3.out hR.ext)
  obtain ⟨v', F', rfl, hX, hp, hbn, hsub, hnF, hbq⟩ := hR.tail (G := noF) (w.heap.size + 1 + 1 + 1 + 1 + 1) hE (heap_lt hb5) (fun h => by rcases h with h | h | h | h | h | h | h; exact hn1 h; all_goals omega) (fun j h => by rcases h with h | h | h | h | h | h | h; exact hs1 j h; all_goals exact .inr (by omega))
  have hbx := hbq.trans hb5
  clear hbq hR
  go_wp2
  refine mixQ_mk (over_of HXZ.out) (mix_late ?_)
  clear hE hb5 hW hG g3 g6 gl3 gl6 hp1 hbn1 hs1 hn1 hCT
  obtain ⟨y, a2, fn2, rfl, hfn⟩ := shU hp
  have hXX := put7_ext (b := w.heap.size + 1 + 1 + 1 + 1 + 1) (.int .u64 y) (.int .i64 a2.op) (.int .i64 a2.at_) (.int .u64 (U a2.a)) (.int .u64 (U a2.b)) (fn2) (.pointer none) hX (by omega)
  have hB := put7_block (.int .u64 y) (.int .i64 a2.op) (.int .i64 a2.at_) (.int .u64 (U a2.a)) (.int .u64 (U a2.b)) (fn2) (.pointer none) hbx
  have hP := hp.agr (Agr.of_put7 (b := w.heap.size + 1 + 1 + 1 + 1 + 1) (.int .u64 y) (.int .i64 a2.op) (.int .i64 a2.at_) (.int .u64 (U a2.a)) (.int .u64 (U a2.b)) (fn2) (.pointer none) hnF)
  have hS : (put7 (w.heap.size + 1 + 1 + 1 + 1 + 1) (.int .u64 y) (.int .i64 a2.op) (.int .i64 a2.at_) (.int .u64 (U a2.a)) (.int .u64 (U a2.b)) (fn2) (.pointer none) w').heap.size = w'.heap.size := put7_size (.int .u64 y) (.int .i64 a2.op) (.int .i64 a2.at_) (.int .u64 (U a2.a)) (.int .u64 (U a2.b)) (fn2) (.pointer none)
  obtain ⟨c0, c1, c2, c3, c4, c5, c6, cz, ll⟩ := sev_of hbx
  rw [put7] at hXX hB hP hS
  have HX := Lib.hid (And.intro hXX (And.intro hB (And.intro hP hS)))
  have HFN := Lib.hid hfn
  have HBN := Lib.hid hbn
  have HSUB := Lib.hid hsub
  clear hXX hB hP hS hX hbx hp hfn hbn hsub hnF
  rcases HFN.out with rfl | ⟨g', caps', rfl⟩
  all_goals
    go_wp2
    refine lateQ_mk (fun _ => True) trivial (mix_end ?_)
    clear c0 c1 c2 c3 c4 c5 c6 cz ll
    obtain ⟨hX, hB, hP, hS⟩ := HX.out
    clear HX
    generalize (World.setCell _ (⟨w.heap.size + 1 + 1 + 1 + 1 + 1, 6, none⟩ : Addr) _) = Z at hX hB hP hS ⊢
    obtain ⟨c0, c1, c2, c3, c4, c5, c6, cz, ll⟩ := sev_of hB
    go_wp2
    exact bodyPost_ret (by simp only [results, Try.results29, go_sem]; simp [go_sem, c0, c1, c2, c3, c4, c5, c6]) rfl ⟨_, F', rfl, hX, hP, fun j hj => by rw [hS]; exact HBN.out j hj, HSUB.out⟩
end Go.Proofs.Ytkjbfhcgldgkaaa
