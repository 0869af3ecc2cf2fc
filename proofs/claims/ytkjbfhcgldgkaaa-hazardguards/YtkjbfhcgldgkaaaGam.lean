/-
  What the calls of Then come to (NU). Conditions: those of each theorem.
-/
import Derived.Test.YtkjbfhcgldgkaaaGal
namespace Go.Proofs.Ytkjbfhcgldgkaaa
open Go Go.RowKit

set_option maxRecDepth 8000 in
set_option maxHeartbeats 2000000 in
theorem thenDNU (r : Unit) (a : Acc) (f : Unit → Tr (BitVec 64)) (F : Nat → Prop) (fn : Value) (w : World) (hC : CT kN kU f F fn w) (hF : Bnd F w) :
    Calls Try.prog 66 #[.agg #[.int .i64 a.op, .int .i64 a.at_, .int .u64 (U a.a), .int .u64 (U a.b), .nilFunc, .pointer none], fn] w (RetP (PT kU (f r)) F w) := by
  obtain ⟨g, caps, rfl, hg, hc⟩ := hC
  have HN := Lib.hid hc
  unfold Enters at hg
  clear hc
  go_enter Try.func66, Try.ntmps66
  go_wp2_with (go_at_call 50; refine (overYN a.op a.at_ (U a.a) (U a.b) _).mono ?_; rintro e w1 ⟨rfl, hx⟩; refine Hid.out ?_)
  refine Lib.hid ?_
  have hb2 := (hx.block (w.heap.size + 1) (by simp)).trans ((Below.heap_alloc _ _ _ (by simp)).trans (heap_at (w.alloc (.cells #[.int .i64 a.op, .int .i64 a.at_, .int .u64 (U a.a), .int .u64 (U a.b), .nilFunc, .pointer none] 59)) _ _ (by simp)))
  have hb3 := (hx.block (w.heap.size + 1 + 1) (by simp)).trans (heap_at ((w.alloc (.cells #[.int .i64 a.op, .int .i64 a.at_, .int .u64 (U a.a), .int .u64 (U a.b), .nilFunc, .pointer none] 59)).alloc (.cells #[.func (.func g) #[] caps] 142)) _ _ (by simp))
  have hE : Ext w w1 := ext_trans (ext_alloc _ (ext_alloc _ (ext_alloc _ (ext_refl w)))) hx
  have hs1 : w.heap.size + 1 + 1 < w1.heap.size := heap_lt hb3
  have k0 := cell_at (o := 0) hb2 rfl
  have l0 := heap_lt hb2
  have HE := Lib.hid (ext_alloc (.cells #[] 54) hE)
  have HB3 := Lib.hid ((Below.heap_alloc _ (.cells #[] 54) _ hs1).trans hb3)
  have hsa : (w1.alloc (.cells #[] 54)).heap.size = w1.heap.size + 1 := by simp
  have HCX := Lib.hid (HN.out r (w1.alloc (.cells #[] 54)) (Agr.of_ext HE.out hF))
  simp only [kN] at HCX
  clear hx hb2 hb3 hE HN
  go_wp2_with (refine HCX.out.mono ?_; rintro e2 w2 ⟨v', F', rfl, hx, hp, hbn, hsub⟩; refine Hid.out ?_)
  refine Lib.hid ?_
  have hbx := (hx.block _ (heap_lt HB3.out)).trans HB3.out
  obtain ⟨y, a2, fn2, rfl, hfn⟩ := shU hp
  have hnF : ¬ F' (w.heap.size + 1 + 1) := fun h => by
    rcases hsub _ h with h | h
    · have := hF _ h; omega
    · omega
  have hX := put7_ext (b := w.heap.size + 1 + 1) (.int .u64 y) (.int .i64 a2.op) (.int .i64 a2.at_) (.int .u64 (U a2.a)) (.int .u64 (U a2.b)) (fn2) (.pointer none) (ext_trans HE.out hx) (by omega)
  have hB := put7_block (.int .u64 y) (.int .i64 a2.op) (.int .i64 a2.at_) (.int .u64 (U a2.a)) (.int .u64 (U a2.b)) (fn2) (.pointer none) hbx
  have hP := hp.agr (Agr.of_put7 (b := w.heap.size + 1 + 1) (.int .u64 y) (.int .i64 a2.op) (.int .i64 a2.at_) (.int .u64 (U a2.a)) (.int .u64 (U a2.b)) (fn2) (.pointer none) hnF)
  have hS : (put7 (w.heap.size + 1 + 1) (.int .u64 y) (.int .i64 a2.op) (.int .i64 a2.at_) (.int .u64 (U a2.a)) (.int .u64 (U a2.b)) (fn2) (.pointer none) w2).heap.size = w2.heap.size := put7_size (.int .u64 y) (.int .i64 a2.op) (.int .i64 a2.at_) (.int .u64 (U a2.a)) (.int .u64 (U a2.b)) (fn2) (.pointer none)
  obtain ⟨c0, c1, c2, c3, c4, c5, c6, cz, ll⟩ := sev_of hbx
  rw [put7] at hX hB hP hS
  have HX := Lib.hid (And.intro hX (And.intro hB (And.intro hP hS)))
  have HFN := Lib.hid hfn
  have HSZ := Lib.hid hx.size
  have HBN := Lib.hid hbn
  have HSUB := Lib.hid hsub
  clear hX hB hP hS hx hbx hp hfn hbn hsub hnF HCX HE HB3
  rcases HFN.out with rfl | ⟨g', caps', rfl⟩
  all_goals
    go_wp2
    clear c0 c1 c2 c3 c4 c5 c6 cz ll
    obtain ⟨hX, hB, hP, hS⟩ := HX.out
    clear HX
    generalize (World.setCell _ (⟨w.heap.size + 1 + 1, 6, none⟩ : Addr) _) = Z at hX hB hP hS ⊢
    obtain ⟨c0, c1, c2, c3, c4, c5, c6, cz, ll⟩ := sev_of hB
    exact bodyPost_ret (by simp only [results, Try.results66, go_sem]; simp [go_sem, c0, c1, c2, c3, c4, c5, c6]) rfl ⟨_, F', rfl, hX, hP, fun j hj => by rw [hS]; exact HBN.out j hj, fun j hj => (HSUB.out j hj).imp_right fun h => by omega⟩
set_option maxRecDepth 8000 in
set_option maxHeartbeats 2000000 in
theorem thenANU (a : Acc) (g0 : FuncId) (caps0 : Array Value) (g : FuncId) (caps : Array Value) (w : World) :
    Calls Try.prog 66 #[.agg #[.int .i64 a.op, .int .i64 a.at_, .int .u64 (U a.a), .int .u64 (U a.b), .func (.func g0) #[] caps0, .pointer none], .func (.func g) #[] caps] w fun e w' => e = .returned (.agg #[.int .u64 0, .int .i64 a.op, .int .i64 a.at_, .int .u64 (U a.a), .int .u64 (U a.b), .func (.func 104) #[] #[.pointer (some ⟨w.heap.size, 0, none⟩), .pointer (some ⟨w.heap.size + 1, 0, none⟩)], .pointer none]) ∧ Ext w w' ∧ w'.heap[w.heap.size]? = some (.cells #[.int .i64 a.op, .int .i64 a.at_, .int .u64 (U a.a), .int .u64 (U a.b), .func (.func g0) #[] caps0, .pointer none] 59 (0, 0)) ∧ w'.heap[w.heap.size + 1]? = some (.cells #[.func (.func g) #[] caps] 142 (0, 0)) := by
  go_enter Try.func66, Try.ntmps66
  go_wp2_with (go_at_call 50; refine (ovnN a _ _ _ _).mono ?_; rintro e w1 ⟨rfl, hx⟩; refine Hid.out ?_)
  refine Lib.hid ?_
  have hb1 := (hx.block w.heap.size (by simp; omega)).trans ((Below.heap_alloc _ _ _ (by simp; omega)).trans ((Below.heap_alloc _ _ _ (by simp)).trans (heap_at w (.cells #[.int .i64 a.op, .int .i64 a.at_, .int .u64 (U a.a), .int .u64 (U a.b), .func (.func g0) #[] caps0, .pointer none] 59) _ rfl)))
  have hb2 := (hx.block (w.heap.size + 1) (by simp)).trans ((Below.heap_alloc _ _ _ (by simp)).trans (heap_at (w.alloc (.cells #[.int .i64 a.op, .int .i64 a.at_, .int .u64 (U a.a), .int .u64 (U a.b), .func (.func g0) #[] caps0, .pointer none] 59)) _ _ (by simp)))
  have hb3 := (hx.block (w.heap.size + 1 + 1) (by simp)).trans (heap_at ((w.alloc (.cells #[.int .i64 a.op, .int .i64 a.at_, .int .u64 (U a.a), .int .u64 (U a.b), .func (.func g0) #[] caps0, .pointer none] 59)).alloc (.cells #[.func (.func g) #[] caps] 142)) _ _ (by simp))
  have hE : Ext w w1 := ext_trans (ext_alloc _ (ext_alloc _ (ext_alloc _ (ext_refl w)))) hx
  obtain ⟨d0, d1, d2, d3, d4, d5, dz, dl⟩ := six_of hb1
  have hX := put7_ext (b := w.heap.size + 1 + 1) (.int .u64 0) (.int .i64 a.op) (.int .i64 a.at_) (.int .u64 (U a.a)) (.int .u64 (U a.b)) (.func (.func 104) #[] #[.pointer (some ⟨w.heap.size, 0, none⟩), .pointer (some ⟨w.heap.size + 1, 0, none⟩)]) (.pointer none) hE (by omega)
  have hB := put7_block (.int .u64 0) (.int .i64 a.op) (.int .i64 a.at_) (.int .u64 (U a.a)) (.int .u64 (U a.b)) (.func (.func 104) #[] #[.pointer (some ⟨w.heap.size, 0, none⟩), .pointer (some ⟨w.heap.size + 1, 0, none⟩)]) (.pointer none) hb3
  have hA1 := (put7_other (w := w1) (b := w.heap.size + 1 + 1) (k := w.heap.size) (.int .u64 0) (.int .i64 a.op) (.int .i64 a.at_) (.int .u64 (U a.a)) (.int .u64 (U a.b)) (.func (.func 104) #[] #[.pointer (some ⟨w.heap.size, 0, none⟩), .pointer (some ⟨w.heap.size + 1, 0, none⟩)]) (.pointer none) (by omega)).trans hb1
  have hA2 := (put7_other (w := w1) (b := w.heap.size + 1 + 1) (k := w.heap.size + 1) (.int .u64 0) (.int .i64 a.op) (.int .i64 a.at_) (.int .u64 (U a.a)) (.int .u64 (U a.b)) (.func (.func 104) #[] #[.pointer (some ⟨w.heap.size, 0, none⟩), .pointer (some ⟨w.heap.size + 1, 0, none⟩)]) (.pointer none) (by omega)).trans hb2
  obtain ⟨c0, c1, c2, c3, c4, c5, c6, cz, ll⟩ := sev_of hb3
  rw [put7] at hX hB hA1 hA2
  have HX := Lib.hid (And.intro hX (And.intro hB (And.intro hA1 hA2)))
  clear hX hB hA1 hA2 hb1 hb2 hb3 hE hx
  go_wp2
  clear c0 c1 c2 c3 c4 c5 c6 cz ll
  obtain ⟨hX, hB, hA1, hA2⟩ := HX.out
  clear HX
  generalize (World.setCell _ (⟨w.heap.size + 1 + 1, 6, none⟩ : Addr) _) = Z at hX hB hA1 hA2 ⊢
  replace hX := ext_alloc (.cells #[] 54) hX
  replace hB := (Below.heap_alloc Z (.cells #[] 54) _ (heap_lt hB)).trans hB
  replace hA1 := (Below.heap_alloc Z (.cells #[] 54) _ (heap_lt hA1)).trans hA1
  replace hA2 := (Below.heap_alloc Z (.cells #[] 54) _ (heap_lt hA2)).trans hA2
  generalize Z.alloc (.cells #[] 54) = Y at hX hB hA1 hA2 ⊢
  obtain ⟨c0, c1, c2, c3, c4, c5, c6, cz, ll⟩ := sev_of hB
  exact bodyPost_ret (by simp only [results, Try.results66, go_sem]; simp [go_sem, c0, c1, c2, c3, c4, c5, c6]) rfl ⟨rfl, hX, hA1, hA2⟩
set_option maxRecDepth 8000 in
set_option maxHeartbeats 2000000 in
theorem then1NU {t : Tr (Unit)} {t2 : Tr (BitVec 64)} (a : Acc) (g0 : FuncId) (caps0 : Array Value) (g : FuncId) (caps : Array Value) (F G : Nat → Prop) (x : BitVec 64) (B1 B2 : Nat) (w : World) (he : Enters g0) (hF : Bnd F w) (hG : Bnd G w)
    (k1 : w.heap[B1]? = some (.cells #[.int .i64 a.op, .int .i64 a.at_, .int .u64 (U a.a), .int .u64 (U a.b), .func (.func g0) #[] caps0, .pointer none] 59 (0, 0))) (k2 : w.heap[B2]? = some (.cells #[.func (.func g) #[] caps] 142 (0, 0)))
    (hN : ∀ W, Ext w W → Calls Try.prog g0 (#[.int .u64 (U x)] ++ caps0) W (RetP (PT kN t) F W))
    (hT : ∀ v F1 W, Ext w W → PT kN t F1 v W → Bnd F1 W → Calls Try.prog 66 #[v, .func (.func g) #[] caps] W (RetP (PT kU t2) (fun j => F1 j ∨ G j) W)) :
    Calls Try.prog 104 #[.int .u64 (U x), .pointer (some ⟨B1, 0, none⟩), .pointer (some ⟨B2, 0, none⟩)] w (RetP (PT kU t2) (fun j => F j ∨ G j) w) := by
  have HN := Lib.hid hN
  have HT := Lib.hid hT
  unfold Enters at he
  have q1 := cell_at (o := 4) k1 rfl
  have q2 := cell_at (o := 0) k2 rfl
  have l1 := cell_lt q1
  have l2 := cell_lt q2
  clear hN hT k1 k2
  go_enter Try.func104, Try.ntmps104
  go_wp2
  have m1 := ext_cell (ext_alloc (.cells #[.int .u64 0, .int .i64 0, .int .i64 0, .int .u64 0, .int .u64 0, .nilFunc, .pointer none] 79) (ext_refl w)) q1
  have m2 := ext_cell (ext_alloc (.cells #[.int .u64 0, .int .i64 0, .int .i64 0, .int .u64 0, .int .u64 0, .nilFunc, .pointer none] 79) (ext_refl w)) q2
  have hE : Ext w (w.alloc (.cells #[.int .u64 0, .int .i64 0, .int .i64 0, .int .u64 0, .int .u64 0, .nilFunc, .pointer none] 79)) := ext_alloc _ (ext_refl w)
  have hb := heap_at w (.cells #[.int .u64 0, .int .i64 0, .int .i64 0, .int .u64 0, .int .u64 0, .nilFunc, .pointer none] 79) w.heap.size rfl
  have hW : (w.alloc (.cells #[.int .u64 0, .int .i64 0, .int .i64 0, .int .u64 0, .int .u64 0, .nilFunc, .pointer none] 79)).heap.size = w.heap.size + 1 := by simp
  generalize w.alloc (.cells #[.int .u64 0, .int .i64 0, .int .i64 0, .int .u64 0, .int .u64 0, .nilFunc, .pointer none] 79) = W at m1 m2 hE hb hW ⊢
  have n1 := cell_lt m1
  have n2 := cell_lt m2
  have HE := Lib.hid hE
  have HB := Lib.hid hb
  have HW := Lib.hid hW
  clear hE hb hW
  refine wp_region_mix (fun w' => ∃ s, w' = over W s) [(0, [0, 1, 2, 4]), (1, [3]), (1, [5]), (2, [6])] (by kernel_rfl) (by kernel_rfl) (over_of (ext_drew (ext_refl W))) ?_
  simp only [pieces, pickL, List.map_cons, List.map_nil, List.getD_cons_zero, List.getD_cons_succ]
  refine mix_reads ?_
  repeat (go_big_quiet_step (fail))
  refine wpQuiet_nil (mix_acts ?_)
  have HCX := Lib.hid (HN.out W.drew (ext_drew HE.out))
  go_wp2_with (refine HCX.out.mono ?_; rintro e w1 ⟨v1, F1, rfl, hx1, hp1, hbn1, hsub1⟩; refine Hid.out ?_)
  refine Lib.hid ?_
  have HX1 := Lib.hid (ext_trans (ext_drew (ext_refl W)) hx1)
  have HT1 := Lib.hid (HT.out v1 F1 w1 (ext_trans HE.out HX1.out) hp1 hbn1)
  have HS1 := Lib.hid hsub1
  clear hx1 hp1 hbn1 hsub1 HCX HN HT
  go_wp2
  refine mixQ_mk (over_of HX1.out) (mix_acts ?_)
  go_wp2_with (go_at_call 66; refine HT1.out.mono ?_; rintro e w2 ⟨v2, F2, rfl, hx2, hp2, hbn2, hsub2⟩; refine Hid.out ?_)
  refine Lib.hid ?_
  have HX2 := Lib.hid (ext_trans HX1.out hx2)
  have hsub : ∀ j, F2 j → (F j ∨ G j) ∨ w.heap.size + 1 ≤ j := fun j hj => by
    have h1 := HX1.out.size
    have h2 := HW.out
    rcases hsub2 j hj with (h | h) | h
    · rcases HS1.out j h with h | h
      · exact .inl (.inl h)
      · have h3 : W.drew.heap.size = W.heap.size := rfl
        exact .inr (by omega)
    · exact .inl (.inr h)
    · exact .inr (by omega)
  have HSUB := Lib.hid hsub
  have HP2 := Lib.hid hp2
  have HBN2 := Lib.hid hbn2
  obtain ⟨y, a2, fn2, rfl, hfn⟩ := shU hp2
  have HFN := Lib.hid hfn
  clear hx2 hp2 hbn2 hsub2 hsub hfn HT1 HS1
  go_wp2
  refine mixQ_mk (over_of HX2.out) (mix_late ?_)
  have hnF : ¬ F2 w.heap.size := fun h => by
    rcases HSUB.out _ h with (h | h) | h
    · have := hF _ h; omega
    · have := hG _ h; omega
    · omega
  have hbx := (HX2.out.block _ (heap_lt HB.out)).trans HB.out
  have hX := put7_ext (b := w.heap.size) (.int .u64 y) (.int .i64 a2.op) (.int .i64 a2.at_) (.int .u64 (U a2.a)) (.int .u64 (U a2.b)) (fn2) (.pointer none) (ext_trans HE.out HX2.out) (Nat.le_refl _)
  have hB := put7_block (.int .u64 y) (.int .i64 a2.op) (.int .i64 a2.at_) (.int .u64 (U a2.a)) (.int .u64 (U a2.b)) (fn2) (.pointer none) hbx
  have hP := HP2.out.agr (Agr.of_put7 (b := w.heap.size) (.int .u64 y) (.int .i64 a2.op) (.int .i64 a2.at_) (.int .u64 (U a2.a)) (.int .u64 (U a2.b)) (fn2) (.pointer none) hnF)
  have hS : (put7 w.heap.size (.int .u64 y) (.int .i64 a2.op) (.int .i64 a2.at_) (.int .u64 (U a2.a)) (.int .u64 (U a2.b)) (fn2) (.pointer none) w2).heap.size = w2.heap.size := put7_size (.int .u64 y) (.int .i64 a2.op) (.int .i64 a2.at_) (.int .u64 (U a2.a)) (.int .u64 (U a2.b)) (fn2) (.pointer none)
  obtain ⟨c0, c1, c2, c3, c4, c5, c6, cz, ll⟩ := sev_of hbx
  rw [put7] at hX hB hP hS
  have HX := Lib.hid (And.intro hX (And.intro hB (And.intro hP hS)))
  clear hX hB hP hS hbx hnF HP2
  rcases HFN.out with rfl | ⟨g', caps', rfl⟩
  all_goals
    go_wp2
    refine lateQ_mk (fun _ => True) trivial (mix_end ?_)
    clear c0 c1 c2 c3 c4 c5 c6 cz ll
    obtain ⟨hX, hB, hP, hS⟩ := HX.out
    clear HX
    generalize (World.setCell _ (⟨w.heap.size, 6, none⟩ : Addr) _) = Z at hX hB hP hS ⊢
    obtain ⟨c0, c1, c2, c3, c4, c5, c6, cz, ll⟩ := sev_of hB
    go_wp2
    exact bodyPost_ret (by simp only [results, Try.results104, go_sem]; simp [go_sem, c0, c1, c2, c3, c4, c5, c6]) rfl ⟨_, F2, rfl, hX, hP, fun j hj => by rw [hS]; exact HBN2.out j hj, fun j hj => (HSUB.out j hj).imp_right fun h => by omega⟩
theorem thenM_NU (F : Nat → Prop) (v : Value) (g : FuncId) (caps : Array Value) (w : World) (hP : PT kN .more F v w) : Calls Try.prog 66 #[v, .func (.func g) #[] caps] w (RetP (PT kU .more) noF w) := by
  obtain ⟨a, g0, caps0, rfl, he⟩ := hP
  refine (thenANU a g0 caps0 g caps w).mono ?_
  rintro e w' ⟨rfl, hx, h1, h2⟩
  exact ⟨_, noF, rfl, hx, ⟨a, _, _, rfl, enters_of Try.func104 (by kernel_rfl) rfl⟩, fun _ h => h.elim, fun _ h => h.elim⟩
theorem then_NU : ∀ (t : Tr (Unit)) (f : Unit → Tr (BitVec 64)) (F G : Nat → Prop) (v fn : Value) (w : World), PT kN t F v w → CT kN kU f G fn w → Bnd F w → Bnd G w →
    Calls Try.prog 66 #[v, fn] w (RetP (PT kU (t.bind f)) (fun j => F j ∨ G j) w)
  | .done r, f, F, G, v, fn, w, hP, hC, hF, hG => by
    cases hP
    exact (thenDNU r accZ f G fn w hC hG).mono fun e w' h => h.mono fun j hj => .inr hj
  | .more, f, F, G, v, fn, w, hP, hC, hF, hG => by
    obtain ⟨g, caps, rfl, hg, hc⟩ := hC
    exact (thenM_NU F v g caps w hP).mono fun e w' h => h.mono fun j hj => hj.elim
  | .ask a k, f, F, G, v, fn, w, hP, hC, hF, hG => by
    obtain ⟨g0, caps0, rfl, he, hk⟩ := hP
    obtain ⟨g, caps, rfl, hg, hc⟩ := id hC
    refine (thenANU a g0 caps0 g caps w).mono ?_
    rintro e w' ⟨rfl, hx, h1, h2⟩
    have hs1 := heap_lt h1
    have hs2 := heap_lt h2
    refine ⟨_, fun j => (F j ∨ G j) ∨ j = w.heap.size ∨ j = w.heap.size + 1, rfl, hx, ⟨_, _, rfl, enters_of Try.func104 (by kernel_rfl) rfl, fun x u hu => ?_⟩, ?_, ?_⟩
    · have hFu : Agr F w u := (Agr.of_ext hx hF).trans (hu.sub fun j hj => .inl (.inl hj))
      have hGu : Agr G w u := (Agr.of_ext hx hG).trans (hu.sub fun j hj => .inl (.inr hj))
      have hu1 := (hu w.heap.size (.inr (.inl rfl))).trans h1
      have hu2 := (hu (w.heap.size + 1) (.inr (.inr rfl))).trans h2
      have lt_of : ∀ j, j < w.heap.size → u.heap[j]? = w.heap[j]? → j < u.heap.size := fun j hj e => by
        have h0 : w.heap[j]? = some w.heap[j] := Array.getElem?_eq_getElem hj
        exact heap_lt (e.trans h0)
      have bF : Bnd F u := fun j hj => lt_of j (hF j hj) (hFu j hj)
      have bG : Bnd G u := fun j hj => lt_of j (hG j hj) (hGu j hj)
      refine (then1NU a g0 caps0 g caps F G x w.heap.size (w.heap.size + 1) u he bF bG hu1 hu2 (fun W hW => hk x W (hFu.trans (Agr.of_ext hW bF))) (fun v' F1 W hW hp hb => then_NU (k x) f F1 G v' _ W hp (hC.agr (hGu.trans (Agr.of_ext hW bG))) hb (bG.ext hW.size))).mono ?_
      exact fun e w'' h => h.mono fun j hj => .inl hj
    · intro j hj
      rcases hj with (hj | hj) | rfl | rfl
      · exact Nat.lt_of_lt_of_le (hF j hj) hx.size
      · exact Nat.lt_of_lt_of_le (hG j hj) hx.size
      · exact hs1
      · exact hs2
    · intro j hj
      rcases hj with hj | rfl | rfl
      · exact .inl hj
      · exact .inr (Nat.le_refl _)
      · exact .inr (Nat.le_succ _)
end Go.Proofs.Ytkjbfhcgldgkaaa

/-
  What the calls of Then come to (UU). Conditions: those of each theorem.
-/
namespace Go.Proofs.Ytkjbfhcgldgkaaa
open Go Go.RowKit

set_option maxRecDepth 8000 in
set_option maxHeartbeats 2000000 in
theorem thenDUU (r : BitVec 64) (a : Acc) (f : BitVec 64 → Tr (BitVec 64)) (F : Nat → Prop) (fn : Value) (w : World) (hC : CT kU kU f F fn w) (hF : Bnd F w) :
    Calls Try.prog 69 #[.agg #[.int .u64 (U r), .int .i64 a.op, .int .i64 a.at_, .int .u64 (U a.a), .int .u64 (U a.b), .nilFunc, .pointer none], fn] w (RetP (PT kU (f r)) F w) := by
  obtain ⟨g, caps, rfl, hg, hc⟩ := hC
  have HN := Lib.hid hc
  unfold Enters at hg
  clear hc
  go_enter Try.func69, Try.ntmps69
  go_wp2_with (go_at_call 33; refine (overYU (U r) a.op a.at_ (U a.a) (U a.b) _).mono ?_; rintro e w1 ⟨rfl, hx⟩; refine Hid.out ?_)
  refine Lib.hid ?_
  have hb2 := (hx.block (w.heap.size + 1) (by simp)).trans ((Below.heap_alloc _ _ _ (by simp)).trans (heap_at (w.alloc (.cells #[.int .u64 (U r), .int .i64 a.op, .int .i64 a.at_, .int .u64 (U a.a), .int .u64 (U a.b), .nilFunc, .pointer none] 79)) _ _ (by simp)))
  have hb3 := (hx.block (w.heap.size + 1 + 1) (by simp)).trans (heap_at ((w.alloc (.cells #[.int .u64 (U r), .int .i64 a.op, .int .i64 a.at_, .int .u64 (U a.a), .int .u64 (U a.b), .nilFunc, .pointer none] 79)).alloc (.cells #[.func (.func g) #[] caps] 77)) _ _ (by simp))
  have hE : Ext w w1 := ext_trans (ext_alloc _ (ext_alloc _ (ext_alloc _ (ext_refl w)))) hx
  have hs1 : w.heap.size + 1 + 1 < w1.heap.size := heap_lt hb3
  have k0 := cell_at (o := 0) hb2 rfl
  have l0 := heap_lt hb2
  have HE := Lib.hid (id hE)
  have HB3 := Lib.hid (hb3)
  have hsa : w1.heap.size = w1.heap.size + 0 := by simp
  have HCX := Lib.hid (HN.out r w1 (Agr.of_ext HE.out hF))
  simp only [kU] at HCX
  clear hx hb2 hb3 hE HN
  go_wp2_with (refine HCX.out.mono ?_; rintro e2 w2 ⟨v', F', rfl, hx, hp, hbn, hsub⟩; refine Hid.out ?_)
  refine Lib.hid ?_
  have hbx := (hx.block _ (heap_lt HB3.out)).trans HB3.out
  obtain ⟨y, a2, fn2, rfl, hfn⟩ := shU hp
  have hnF : ¬ F' (w.heap.size + 1 + 1) := fun h => by
    rcases hsub _ h with h | h
    · have := hF _ h; omega
    · omega
  have hX := put7_ext (b := w.heap.size + 1 + 1) (.int .u64 y) (.int .i64 a2.op) (.int .i64 a2.at_) (.int .u64 (U a2.a)) (.int .u64 (U a2.b)) (fn2) (.pointer none) (ext_trans HE.out hx) (by omega)
  have hB := put7_block (.int .u64 y) (.int .i64 a2.op) (.int .i64 a2.at_) (.int .u64 (U a2.a)) (.int .u64 (U a2.b)) (fn2) (.pointer none) hbx
  have hP := hp.agr (Agr.of_put7 (b := w.heap.size + 1 + 1) (.int .u64 y) (.int .i64 a2.op) (.int .i64 a2.at_) (.int .u64 (U a2.a)) (.int .u64 (U a2.b)) (fn2) (.pointer none) hnF)
  have hS : (put7 (w.heap.size + 1 + 1) (.int .u64 y) (.int .i64 a2.op) (.int .i64 a2.at_) (.int .u64 (U a2.a)) (.int .u64 (U a2.b)) (fn2) (.pointer none) w2).heap.size = w2.heap.size := put7_size (.int .u64 y) (.int .i64 a2.op) (.int .i64 a2.at_) (.int .u64 (U a2.a)) (.int .u64 (U a2.b)) (fn2) (.pointer none)
  obtain ⟨c0, c1, c2, c3, c4, c5, c6, cz, ll⟩ := sev_of hbx
  rw [put7] at hX hB hP hS
  have HX := Lib.hid (And.intro hX (And.intro hB (And.intro hP hS)))
  have HFN := Lib.hid hfn
  have HSZ := Lib.hid hx.size
  have HBN := Lib.hid hbn
  have HSUB := Lib.hid hsub
  clear hX hB hP hS hx hbx hp hfn hbn hsub hnF HCX HE HB3
  rcases HFN.out with rfl | ⟨g', caps', rfl⟩
  all_goals
    go_wp2
    clear c0 c1 c2 c3 c4 c5 c6 cz ll
    obtain ⟨hX, hB, hP, hS⟩ := HX.out
    clear HX
    generalize (World.setCell _ (⟨w.heap.size + 1 + 1, 6, none⟩ : Addr) _) = Z at hX hB hP hS ⊢
    obtain ⟨c0, c1, c2, c3, c4, c5, c6, cz, ll⟩ := sev_of hB
    exact bodyPost_ret (by simp only [results, Try.results69, go_sem]; simp [go_sem, c0, c1, c2, c3, c4, c5, c6]) rfl ⟨_, F', rfl, hX, hP, fun j hj => by rw [hS]; exact HBN.out j hj, fun j hj => (HSUB.out j hj).imp_right fun h => by omega⟩
set_option maxRecDepth 8000 in
set_option maxHeartbeats 2000000 in
theorem thenAUU (a : Acc) (g0 : FuncId) (caps0 : Array Value) (g : FuncId) (caps : Array Value) (w : World) :
    Calls Try.prog 69 #[.agg #[.int .u64 0, .int .i64 a.op, .int .i64 a.at_, .int .u64 (U a.a), .int .u64 (U a.b), .func (.func g0) #[] caps0, .pointer none], .func (.func g) #[] caps] w fun e w' => e = .returned (.agg #[.int .u64 0, .int .i64 a.op, .int .i64 a.at_, .int .u64 (U a.a), .int .u64 (U a.b), .func (.func 106) #[] #[.pointer (some ⟨w.heap.size, 0, none⟩), .pointer (some ⟨w.heap.size + 1, 0, none⟩)], .pointer none]) ∧ Ext w w' ∧ w'.heap[w.heap.size]? = some (.cells #[.int .u64 0, .int .i64 a.op, .int .i64 a.at_, .int .u64 (U a.a), .int .u64 (U a.b), .func (.func g0) #[] caps0, .pointer none] 79 (0, 0)) ∧ w'.heap[w.heap.size + 1]? = some (.cells #[.func (.func g) #[] caps] 77 (0, 0)) := by
  go_enter Try.func69, Try.ntmps69
  go_wp2_with (go_at_call 33; refine (ovnU a _ _ _ _).mono ?_; rintro e w1 ⟨rfl, hx⟩; refine Hid.out ?_)
  refine Lib.hid ?_
  have hb1 := (hx.block w.heap.size (by simp; omega)).trans ((Below.heap_alloc _ _ _ (by simp; omega)).trans ((Below.heap_alloc _ _ _ (by simp)).trans (heap_at w (.cells #[.int .u64 0, .int .i64 a.op, .int .i64 a.at_, .int .u64 (U a.a), .int .u64 (U a.b), .func (.func g0) #[] caps0, .pointer none] 79) _ rfl)))
  have hb2 := (hx.block (w.heap.size + 1) (by simp)).trans ((Below.heap_alloc _ _ _ (by simp)).trans (heap_at (w.alloc (.cells #[.int .u64 0, .int .i64 a.op, .int .i64 a.at_, .int .u64 (U a.a), .int .u64 (U a.b), .func (.func g0) #[] caps0, .pointer none] 79)) _ _ (by simp)))
  have hb3 := (hx.block (w.heap.size + 1 + 1) (by simp)).trans (heap_at ((w.alloc (.cells #[.int .u64 0, .int .i64 a.op, .int .i64 a.at_, .int .u64 (U a.a), .int .u64 (U a.b), .func (.func g0) #[] caps0, .pointer none] 79)).alloc (.cells #[.func (.func g) #[] caps] 77)) _ _ (by simp))
  have hE : Ext w w1 := ext_trans (ext_alloc _ (ext_alloc _ (ext_alloc _ (ext_refl w)))) hx
  obtain ⟨d0, d1, d2, d3, d4, d5, d6, dz, dl⟩ := sev_of hb1
  have hX := put7_ext (b := w.heap.size + 1 + 1) (.int .u64 0) (.int .i64 a.op) (.int .i64 a.at_) (.int .u64 (U a.a)) (.int .u64 (U a.b)) (.func (.func 106) #[] #[.pointer (some ⟨w.heap.size, 0, none⟩), .pointer (some ⟨w.heap.size + 1, 0, none⟩)]) (.pointer none) hE (by omega)
  have hB := put7_block (.int .u64 0) (.int .i64 a.op) (.int .i64 a.at_) (.int .u64 (U a.a)) (.int .u64 (U a.b)) (.func (.func 106) #[] #[.pointer (some ⟨w.heap.size, 0, none⟩), .pointer (some ⟨w.heap.size + 1, 0, none⟩)]) (.pointer none) hb3
  have hA1 := (put7_other (w := w1) (b := w.heap.size + 1 + 1) (k := w.heap.size) (.int .u64 0) (.int .i64 a.op) (.int .i64 a.at_) (.int .u64 (U a.a)) (.int .u64 (U a.b)) (.func (.func 106) #[] #[.pointer (some ⟨w.heap.size, 0, none⟩), .pointer (some ⟨w.heap.size + 1, 0, none⟩)]) (.pointer none) (by omega)).trans hb1
  have hA2 := (put7_other (w := w1) (b := w.heap.size + 1 + 1) (k := w.heap.size + 1) (.int .u64 0) (.int .i64 a.op) (.int .i64 a.at_) (.int .u64 (U a.a)) (.int .u64 (U a.b)) (.func (.func 106) #[] #[.pointer (some ⟨w.heap.size, 0, none⟩), .pointer (some ⟨w.heap.size + 1, 0, none⟩)]) (.pointer none) (by omega)).trans hb2
  obtain ⟨c0, c1, c2, c3, c4, c5, c6, cz, ll⟩ := sev_of hb3
  rw [put7] at hX hB hA1 hA2
  have HX := Lib.hid (And.intro hX (And.intro hB (And.intro hA1 hA2)))
  clear hX hB hA1 hA2 hb1 hb2 hb3 hE hx
  go_wp2
  clear c0 c1 c2 c3 c4 c5 c6 cz ll
  obtain ⟨hX, hB, hA1, hA2⟩ := HX.out
  clear HX
  generalize (World.setCell _ (⟨w.heap.size + 1 + 1, 6, none⟩ : Addr) _) = Z at hX hB hA1 hA2 ⊢
  obtain ⟨c0, c1, c2, c3, c4, c5, c6, cz, ll⟩ := sev_of hB
  exact bodyPost_ret (by simp only [results, Try.results69, go_sem]; simp [go_sem, c0, c1, c2, c3, c4, c5, c6]) rfl ⟨rfl, hX, hA1, hA2⟩
set_option maxRecDepth 8000 in
set_option maxHeartbeats 2000000 in
theorem then1UU {t : Tr (BitVec 64)} {t2 : Tr (BitVec 64)} (a : Acc) (g0 : FuncId) (caps0 : Array Value) (g : FuncId) (caps : Array Value) (F G : Nat → Prop) (x : BitVec 64) (B1 B2 : Nat) (w : World) (he : Enters g0) (hF : Bnd F w) (hG : Bnd G w)
    (k1 : w.heap[B1]? = some (.cells #[.int .u64 0, .int .i64 a.op, .int .i64 a.at_, .int .u64 (U a.a), .int .u64 (U a.b), .func (.func g0) #[] caps0, .pointer none] 79 (0, 0))) (k2 : w.heap[B2]? = some (.cells #[.func (.func g) #[] caps] 77 (0, 0)))
    (hN : ∀ W, Ext w W → Calls Try.prog g0 (#[.int .u64 (U x)] ++ caps0) W (RetP (PT kU t) F W))
    (hT : ∀ v F1 W, Ext w W → PT kU t F1 v W → Bnd F1 W → Calls Try.prog 69 #[v, .func (.func g) #[] caps] W (RetP (PT kU t2) (fun j => F1 j ∨ G j) W)) :
    Calls Try.prog 106 #[.int .u64 (U x), .pointer (some ⟨B1, 0, none⟩), .pointer (some ⟨B2, 0, none⟩)] w (RetP (PT kU t2) (fun j => F j ∨ G j) w) := by
  have HN := Lib.hid hN
  have HT := Lib.hid hT
  unfold Enters at he
  have q1 := cell_at (o := 5) k1 rfl
  have q2 := cell_at (o := 0) k2 rfl
  have l1 := cell_lt q1
  have l2 := cell_lt q2
  clear hN hT k1 k2
  go_enter Try.func106, Try.ntmps106
  go_wp2
  have m1 := ext_cell (ext_alloc (.cells #[.int .u64 0, .int .i64 0, .int .i64 0, .int .u64 0, .int .u64 0, .nilFunc, .pointer none] 79) (ext_refl w)) q1
  have m2 := ext_cell (ext_alloc (.cells #[.int .u64 0, .int .i64 0, .int .i64 0, .int .u64 0, .int .u64 0, .nilFunc, .pointer none] 79) (ext_refl w)) q2
  have hE : Ext w (w.alloc (.cells #[.int .u64 0, .int .i64 0, .int .i64 0, .int .u64 0, .int .u64 0, .nilFunc, .pointer none] 79)) := ext_alloc _ (ext_refl w)
  have hb := heap_at w (.cells #[.int .u64 0, .int .i64 0, .int .i64 0, .int .u64 0, .int .u64 0, .nilFunc, .pointer none] 79) w.heap.size rfl
  have hW : (w.alloc (.cells #[.int .u64 0, .int .i64 0, .int .i64 0, .int .u64 0, .int .u64 0, .nilFunc, .pointer none] 79)).heap.size = w.heap.size + 1 := by simp
  generalize w.alloc (.cells #[.int .u64 0, .int .i64 0, .int .i64 0, .int .u64 0, .int .u64 0, .nilFunc, .pointer none] 79) = W at m1 m2 hE hb hW ⊢
  have n1 := cell_lt m1
  have n2 := cell_lt m2
  have HE := Lib.hid hE
  have HB := Lib.hid hb
  have HW := Lib.hid hW
  clear hE hb hW
  refine wp_region_mix (fun w' => ∃ s, w' = over W s) [(0, [0, 1, 2, 4]), (1, [3]), (1, [5]), (2, [6])] (by kernel_rfl) (by kernel_rfl) (over_of (ext_drew (ext_refl W))) ?_
  simp only [pieces, pickL, List.map_cons, List.map_nil, List.getD_cons_zero, List.getD_cons_succ]
  refine mix_reads ?_
  repeat (go_big_quiet_step (fail))
  refine wpQuiet_nil (mix_acts ?_)
  have HCX := Lib.hid (HN.out W.drew (ext_drew HE.out))
  go_wp2_with (refine HCX.out.mono ?_; rintro e w1 ⟨v1, F1, rfl, hx1, hp1, hbn1, hsub1⟩; refine Hid.out ?_)
  refine Lib.hid ?_
  have HX1 := Lib.hid (ext_trans (ext_drew (ext_refl W)) hx1)
  have HT1 := Lib.hid (HT.out v1 F1 w1 (ext_trans HE.out HX1.out) hp1 hbn1)
  have HS1 := Lib.hid hsub1
  clear hx1 hp1 hbn1 hsub1 HCX HN HT
  go_wp2
  refine mixQ_mk (over_of HX1.out) (mix_acts ?_)
  go_wp2_with (go_at_call 69; refine HT1.out.mono ?_; rintro e w2 ⟨v2, F2, rfl, hx2, hp2, hbn2, hsub2⟩; refine Hid.out ?_)
  refine Lib.hid ?_
  have HX2 := Lib.hid (ext_trans HX1.out hx2)
  have hsub : ∀ j, F2 j → (F j ∨ G j) ∨ w.heap.size + 1 ≤ j := fun j hj => by
    have h1 := HX1.out.size
    have h2 := HW.out
    rcases hsub2 j hj with (h | h) | h
    · rcases HS1.out j h with h | h
      · exact .inl (.inl h)
      · have h3 : W.drew.heap.size = W.heap.size := rfl
        exact .inr (by omega)
    · exact .inl (.inr h)
    · exact .inr (by omega)
  have HSUB := Lib.hid hsub
  have HP2 := Lib.hid hp2
  have HBN2 := Lib.hid hbn2
  obtain ⟨y, a2, fn2, rfl, hfn⟩ := shU hp2
  have HFN := Lib.hid hfn
  clear hx2 hp2 hbn2 hsub2 hsub hfn HT1 HS1
  go_wp2
  refine mixQ_mk (over_of HX2.out) (mix_late ?_)
  have hnF : ¬ F2 w.heap.size := fun h => by
    rcases HSUB.out _ h with (h | h) | h
    · have := hF _ h; omega
    · have := hG _ h; omega
    · omega
  have hbx := (HX2.out.block _ (heap_lt HB.out)).trans HB.out
  have hX := put7_ext (b := w.heap.size) (.int .u64 y) (.int .i64 a2.op) (.int .i64 a2.at_) (.int .u64 (U a2.a)) (.int .u64 (U a2.b)) (fn2) (.pointer none) (ext_trans HE.out HX2.out) (Nat.le_refl _)
  have hB := put7_block (.int .u64 y) (.int .i64 a2.op) (.int .i64 a2.at_) (.int .u64 (U a2.a)) (.int .u64 (U a2.b)) (fn2) (.pointer none) hbx
  have hP := HP2.out.agr (Agr.of_put7 (b := w.heap.size) (.int .u64 y) (.int .i64 a2.op) (.int .i64 a2.at_) (.int .u64 (U a2.a)) (.int .u64 (U a2.b)) (fn2) (.pointer none) hnF)
  have hS : (put7 w.heap.size (.int .u64 y) (.int .i64 a2.op) (.int .i64 a2.at_) (.int .u64 (U a2.a)) (.int .u64 (U a2.b)) (fn2) (.pointer none) w2).heap.size = w2.heap.size := put7_size (.int .u64 y) (.int .i64 a2.op) (.int .i64 a2.at_) (.int .u64 (U a2.a)) (.int .u64 (U a2.b)) (fn2) (.pointer none)
  obtain ⟨c0, c1, c2, c3, c4, c5, c6, cz, ll⟩ := sev_of hbx
  rw [put7] at hX hB hP hS
  have HX := Lib.hid (And.intro hX (And.intro hB (And.intro hP hS)))
  clear hX hB hP hS hbx hnF HP2
  rcases HFN.out with rfl | ⟨g', caps', rfl⟩
  all_goals
    go_wp2
    refine lateQ_mk (fun _ => True) trivial (mix_end ?_)
    clear c0 c1 c2 c3 c4 c5 c6 cz ll
    obtain ⟨hX, hB, hP, hS⟩ := HX.out
    clear HX
    generalize (World.setCell _ (⟨w.heap.size, 6, none⟩ : Addr) _) = Z at hX hB hP hS ⊢
    obtain ⟨c0, c1, c2, c3, c4, c5, c6, cz, ll⟩ := sev_of hB
    go_wp2
    exact bodyPost_ret (by simp only [results, Try.results106, go_sem]; simp [go_sem, c0, c1, c2, c3, c4, c5, c6]) rfl ⟨_, F2, rfl, hX, hP, fun j hj => by rw [hS]; exact HBN2.out j hj, fun j hj => (HSUB.out j hj).imp_right fun h => by omega⟩
theorem thenM_UU (F : Nat → Prop) (v : Value) (g : FuncId) (caps : Array Value) (w : World) (hP : PT kU .more F v w) : Calls Try.prog 69 #[v, .func (.func g) #[] caps] w (RetP (PT kU .more) noF w) := by
  obtain ⟨a, g0, caps0, rfl, he⟩ := hP
  refine (thenAUU a g0 caps0 g caps w).mono ?_
  rintro e w' ⟨rfl, hx, h1, h2⟩
  exact ⟨_, noF, rfl, hx, ⟨a, _, _, rfl, enters_of Try.func106 (by kernel_rfl) rfl⟩, fun _ h => h.elim, fun _ h => h.elim⟩
theorem then_UU : ∀ (t : Tr (BitVec 64)) (f : BitVec 64 → Tr (BitVec 64)) (F G : Nat → Prop) (v fn : Value) (w : World), PT kU t F v w → CT kU kU f G fn w → Bnd F w → Bnd G w →
    Calls Try.prog 69 #[v, fn] w (RetP (PT kU (t.bind f)) (fun j => F j ∨ G j) w)
  | .done r, f, F, G, v, fn, w, hP, hC, hF, hG => by
    cases hP
    exact (thenDUU r accZ f G fn w hC hG).mono fun e w' h => h.mono fun j hj => .inr hj
  | .more, f, F, G, v, fn, w, hP, hC, hF, hG => by
    obtain ⟨g, caps, rfl, hg, hc⟩ := hC
    exact (thenM_UU F v g caps w hP).mono fun e w' h => h.mono fun j hj => hj.elim
  | .ask a k, f, F, G, v, fn, w, hP, hC, hF, hG => by
    obtain ⟨g0, caps0, rfl, he, hk⟩ := hP
    obtain ⟨g, caps, rfl, hg, hc⟩ := id hC
    refine (thenAUU a g0 caps0 g caps w).mono ?_
    rintro e w' ⟨rfl, hx, h1, h2⟩
    have hs1 := heap_lt h1
    have hs2 := heap_lt h2
    refine ⟨_, fun j => (F j ∨ G j) ∨ j = w.heap.size ∨ j = w.heap.size + 1, rfl, hx, ⟨_, _, rfl, enters_of Try.func106 (by kernel_rfl) rfl, fun x u hu => ?_⟩, ?_, ?_⟩
    · have hFu : Agr F w u := (Agr.of_ext hx hF).trans (hu.sub fun j hj => .inl (.inl hj))
      have hGu : Agr G w u := (Agr.of_ext hx hG).trans (hu.sub fun j hj => .inl (.inr hj))
      have hu1 := (hu w.heap.size (.inr (.inl rfl))).trans h1
      have hu2 := (hu (w.heap.size + 1) (.inr (.inr rfl))).trans h2
      have lt_of : ∀ j, j < w.heap.size → u.heap[j]? = w.heap[j]? → j < u.heap.size := fun j hj e => by
        have h0 : w.heap[j]? = some w.heap[j] := Array.getElem?_eq_getElem hj
        exact heap_lt (e.trans h0)
      have bF : Bnd F u := fun j hj => lt_of j (hF j hj) (hFu j hj)
      have bG : Bnd G u := fun j hj => lt_of j (hG j hj) (hGu j hj)
      refine (then1UU a g0 caps0 g caps F G x w.heap.size (w.heap.size + 1) u he bF bG hu1 hu2 (fun W hW => hk x W (hFu.trans (Agr.of_ext hW bF))) (fun v' F1 W hW hp hb => then_UU (k x) f F1 G v' _ W hp (hC.agr (hGu.trans (Agr.of_ext hW bG))) hb (bG.ext hW.size))).mono ?_
      exact fun e w'' h => h.mono fun j hj => .inl hj
    · intro j hj
      rcases hj with (hj | hj) | rfl | rfl
      · exact Nat.lt_of_lt_of_le (hF j hj) hx.size
      · exact Nat.lt_of_lt_of_le (hG j hj) hx.size
      · exact hs1
      · exact hs2
    · intro j hj
      rcases hj with hj | rfl | rfl
      · exact .inl hj
      · exact .inr (Nat.le_refl _)
      · exact .inr (Nat.le_succ _)
end Go.Proofs.Ytkjbfhcgldgkaaa

/-
  Hazards: the words, and the programs Set, Clear, Held and Guard, as trees. No conditions but those of each theorem.
-/
namespace Go.Proofs.Ytkjbfhcgldgkaaa
open Go Go.RowKit

theorem U_nameH {n : Int} (h0 : -1 ≤ n) (h1 : n < 4611686018427387904) : U (nameW n) = n + 1 := by
  rw [U_toNat]
  unfold nameW
  rw [BitVec.toNat_ofNat]
  omega
theorem nameH_inj {n m : Int} (h0 : -1 ≤ n) (h1 : n < 4611686018427387904) (g0 : -1 ≤ m) (g1 : m < 4611686018427387904) (e : nameW n = nameW m) : n = m := by
  have h := U_nameH h0 h1
  rw [e, U_nameH g0 g1] at h
  omega
theorem nameH_none : nameW (-1) = 0#64 := U_inj ((U_nameH (by omega) (by omega)).trans (by rw [U_0]; rfl))
/-- Does a hazard of the word x name the node n? -/
def nmB (x : BitVec 64) (n : Int) : Bool := decide (0 ≤ n) && (x == nameW n)
/-- Clear, from a slot on, of which k are left. -/
def clrT (p : Pl) (t : Int) : Nat → Int → Tr Unit
  | 0, _ => .done ()
  | k + 1, s => (setT (p.hazF t s) 0#64).bind fun _ => clrT p t k (s + 1)
/-- Held, from the hazard i on (all threads' in a row), behind which k are left. -/
def hldT (p : Pl) (n : Int) : Nat → Int → Tr Bool
  | 0, i => (getT (p.hazF (i / 3) (i % 3))).bind fun x => if nmB x n then .done true else .done false
  | k + 1, i => (getT (p.hazF (i / 3) (i % 3))).bind fun x => if nmB x n then .done true else hldT p n k (i + 1)
/-- What a Guard does with a word that it has loaded; behind the hazard's store; up to so many turns. -/
def ldT (at_ : Int) (goOn : BitVec 64 → Tr (BitVec 64)) (x : BitVec 64) : Tr (BitVec 64) := (getT at_).bind fun y => if y = x then .done x else goOn y
def gonT (p : Pl) (t s at_ : Int) (sh : Nat) : Nat → BitVec 64 → Tr (BitVec 64)
  | 0, x => if x >>> sh = 0#64 then .done x else .more
  | N + 1, x => if x >>> sh = 0#64 then .done x else (setT (p.hazF t s) (x >>> sh)).bind fun _ => ldT at_ (gonT p t s at_ sh N) x
def grdT (p : Pl) (t s at_ : Int) (sh N : Nat) : Tr (BitVec 64) := (getT at_).bind (gonT p t s at_ sh N)
end Go.Proofs.Ytkjbfhcgldgkaaa

/-
  Whole runs of Pop, Push and Fresh, in plain numbers. Conditions: a formed plan; fewer swaps than a tag can tell.
-/
namespace Go.Proofs.Ytkjbfhcgldgkaaa
open Go Go.RowKit

/-- What a run leaves to a thread that stands still. -/
def Keeps (p : Pl) (M : MS) (T : Nat) (M' : MS) (T' : Nat) (w : Option Int) : Prop := ∀ s : PS, (∀ n, w = some n → s.node ≠ some n) → Th p M T s → Th p M' T' s
theorem Nxt.keeps {p : Pl} (hp : p.ok) {M : MS} {l : List Int} {T N : Nat} {s : PS} {M' : MS} {l' : List Int} {T' N' : Nat} {s' : PS} (hL : FL p M l T) (h : Nxt p M l T N s M' l' T' N' s') (hs : ∀ n, s.node = some n → n ∉ l) : Keeps p M T M' T' s.node :=
  fun _ hq ht => Th.frame hp hL h.fl h.ef (fun n hn => ⟨hs n hn, hq n hn⟩) ht
theorem Keeps.trans {p : Pl} {M M' M'' : MS} {T T' T'' : Nat} {w : Option Int} (h : Keeps p M T M' T' w) (k : Keeps p M' T' M'' T'' w) : Keeps p M T M'' T'' w := fun s hs ht => k s hs (h s hs ht)

theorem pop_none {p : Pl} (hp : p.ok) {M : MS} {T : Nat} (hL : FL p M [] T) (N k : Nat) :
    ∃ M', runT 0 1#64 (k + 1) (popT p (N + 1)) M = some (M', 1, .done (-1)) ∧ FL p M' [] T ∧ Keeps p M T M' T none := by
  obtain ⟨M', s', h1, h2, _, h4⟩ := go_pl (N := N) hp hL
  have e := h2 rfl
  subst e
  refine ⟨M', ?_, h1.fl, Nxt.keeps hp hL h1 (fun n h => by cases h)⟩
  have := runT_step h1.st k
  rw [show popT p (N + 1) = trT p N .pl from rfl, this]
  cases k <;> rfl
theorem pop_some {p : Pl} (hp : p.ok) {M : MS} {n : Int} {l : List Int} {T : Nat} (hL : FL p M (n :: l) T) (hT : T < 8796093022207) (N k : Nat) :
    ∃ M', runT 0 1#64 (k + 3) (popT p (N + 2)) M = some (M', 3, .done n) ∧ FL p M' l (T + 1) ∧ Keeps p M T M' (T + 1) none := by
  obtain ⟨M1, s1, a1, _, a3, a4⟩ := go_pl (N := N + 1) hp hL
  have e := a3 (by simp)
  subst e
  obtain ⟨M2, nx, b1, b2⟩ := go_pn (N := N + 1) hp a1.fl a1.th
  obtain ⟨M3, l3, T3, N3, s3, c1, c2⟩ := go_ps (N := N) hp b1.fl hT b1.th
  have hh : M.wd 0 0 = M2.wd 0 0 := by rw [b2, a4]
  have k1 := Nxt.keeps hp hL a1 (fun n h => by cases h)
  have k2 := Nxt.keeps hp a1.fl b1 (fun n h => by cases h)
  have k3 := Nxt.keeps hp b1.fl c1 (fun n h => by cases h)
  rcases c2 with ⟨m, d1, rfl, rfl, d4⟩ | ⟨_, _, _, d4⟩
  · simp at d1
    obtain ⟨rfl, rfl⟩ := d1
    refine ⟨M3, ?_, c1.fl, (Keeps.trans k1 k2).trans k3⟩
    rw [show popT p (N + 2) = trT p (N + 1) .pl from rfl, runT_step a1.st, runT_step b1.st, runT_step c1.st]
    cases k <;> rfl
  · exact absurd hh d4
theorem push_run {p : Pl} (hp : p.ok) {M : MS} {n : Int} {l : List Int} {T : Nat} (hL : FL p M l T) (hT : T < 8796093022207) (hn : InR p n) (hnl : n ∉ l) (N k : Nat) :
    ∃ M', runT 0 1#64 (k + 3) (pushT p n (N + 2)) M = some (M', 3, .done n) ∧ FL p M' (n :: l) (T + 1) ∧ Keeps p M T M' (T + 1) (some n) := by
  obtain ⟨M1, h, a1, a2, a4⟩ := go_ql (N := N + 1) hp hL hn
  obtain ⟨M2, b1, b2⟩ := go_qs (N := N + 1) hp a1.fl a1.th hnl
  obtain ⟨M3, l3, T3, N3, s3, c1, c2⟩ := go_qw (N := N) hp b1.fl hT b1.th hnl
  have hh : h = M2.wd 0 0 := by rw [b2, a4, a2]
  have k1 := Nxt.keeps hp hL a1 (fun m h => by cases h; exact hnl)
  have k2 := Nxt.keeps hp a1.fl b1 (fun m h => by cases h; exact hnl)
  have k3 := Nxt.keeps hp b1.fl c1 (fun m h => by cases h; exact hnl)
  rcases c2 with ⟨rfl, rfl, rfl, _⟩ | ⟨_, _, _, d4⟩
  · refine ⟨M3, ?_, c1.fl, (Keeps.trans k1 k2).trans k3⟩
    rw [show pushT p n (N + 2) = trT p (N + 1) (.ql n) from rfl, runT_step a1.st, runT_step b1.st, runT_step c1.st]
    cases k <;> rfl
  · exact absurd hh d4

/-! Fresh. -/
def rfr : Nat → Int → List Int
  | 0, _ => []
  | k + 1, j => j :: rfr k (j + 1)
theorem rfr_len : ∀ (k : Nat) (j : Int), (rfr k j).length = k
  | 0, _ => rfl
  | k + 1, j => by simp [rfr, rfr_len k (j + 1)]
theorem rfr_mem : ∀ {k : Nat} {j m : Int}, m ∈ rfr k j ↔ j ≤ m ∧ m < j + k
  | 0, j, m => by
    constructor
    · intro h; cases h
    · intro h; omega
  | k + 1, j, m => by
    simp only [rfr, List.mem_cons, rfr_mem (k := k) (j := j + 1)]
    omega
theorem rfr_nodup : ∀ (k : Nat) (j : Int), (rfr k j).Nodup
  | 0, _ => List.nodup_nil
  | k + 1, j => List.nodup_cons.2 ⟨fun h => by have := (rfr_mem.1 h).1; omega, rfr_nodup k (j + 1)⟩
theorem fresh_run {p : Pl} (hp : p.ok) : ∀ (k : Nat) (n : Int) (M : MS), 0 ≤ n → n + k = p.n → Mg p M →
    ∃ M', runT 0 1#64 (k + 1) (freshT p k n) M = some (M', k + 1, .done ()) ∧ Mg p M' ∧ M'.wd 0 0 = putN 0 21 0#64 (nameW 0) ∧ (∀ m, InR p m → n ≤ m → M'.wd 0 (nxN p m) = fnxW p m) ∧ (∀ m, InR p m → m < n → M'.wd 0 (nxN p m) = M.wd 0 (nxN p m))
  | 0, n, M, h0, h1, hM => by
    have hz := head_zero hp
    have hok : DoOk M 0 1#64 1 p.headF := by rw [hz]; exact hM.ok (by omega) (by have := size_pos hp; omega) (by omega) (by omega)
    have hw := wd_store M p.headF (putN 0 21 0#64 (nameW 0)) 0#64
    refine ⟨M.done 0 1 p.headF (putN 0 21 0#64 (nameW 0)) 0#64, ?_, hM.done _ _ _ _ _, ?_, fun m hm hnm => ?_, fun m hm _ => ?_⟩
    · show runT 0 1#64 1 (.ask (stA p.headF _) _) M = _
      rw [runT, if_pos (show DoOk M 0 1#64 (stA p.headF _).op (stA p.headF _).at_ from hok)]
      rfl
    · rw [hw, hz]
      rfl
    · have := hm.2
      omega
    · rw [hw, hz]
      exact if_neg (nxN_pos hp hm)
  | k + 1, n, M, h0, h1, hM => by
    have hn : InR p n := ⟨h0, by omega⟩
    have hx := nx_in hp hn
    have hok : DoOk M 0 1#64 1 (p.nxF n) := hM.ok (by omega) hx.2 (by omega) (by omega)
    have hw := wd_store M (p.nxF n) (fnxW p n) 0#64
    obtain ⟨M', r1, r2, r3, r4, r5⟩ := fresh_run hp k (n + 1) (M.done 0 1 (p.nxF n) (fnxW p n) 0#64) (by omega) (by omega) (hM.done _ _ _ _ _)
    refine ⟨M', ?_, r2, r3, fun m hm hnm => ?_, fun m hm hnm => ?_⟩
    · show runT 0 1#64 (k + 1 + 1) (.ask (stA (p.nxF n) _) _) M = _
      rw [runT, if_pos (show DoOk M 0 1#64 (stA (p.nxF n) _).op (stA (p.nxF n) _).at_ from hok)]
      show Option.map _ (runT 0 1#64 (k + 1) (freshT p k (n + 1)) (M.done 0 1 (p.nxF n) (fnxW p n) 0#64)) = _
      rw [r1]
      rfl
    · by_cases e : m = n
      · subst e
        rw [r5 m hm (by omega), hw]
        exact if_pos rfl
      · exact r4 m hm (by omega)
    · rw [r5 m hm (by omega), hw]
      exact if_neg fun e => by have := nxN_inj hp hm hn e; omega
theorem fresh_ch {p : Pl} {M : MS} (h : ∀ m, InR p m → M.wd 0 (nxN p m) = fnxW p m) : ∀ (k : Nat) (j : Int), 0 ≤ j → j + k = p.n → Ch p M (rfr k j)
  | 0, _, _, _ => trivial
  | k + 1, j, h0, h1 => by
    refine ⟨?_, fresh_ch h k (j + 1) (by omega) (by omega)⟩
    rw [h j ⟨h0, by omega⟩]
    unfold fnxW
    cases k with
    | zero => rw [if_pos (by omega)]; rfl
    | succ k => rw [if_neg (by omega)]; rfl
theorem fresh_FL {p : Pl} (hp : p.ok) {M : MS} (hM : Mg p M) : ∃ M', runT 0 1#64 (p.n + 1).toNat (freshT p p.n.toNat 0) M = some (M', p.n.toNat + 1, .done ()) ∧ FL p M' (rfr p.n.toNat 0) 0 := by
  have h1 := hp.1
  obtain ⟨M', r1, r2, r3, r4, _⟩ := fresh_run hp p.n.toNat 0 M (by omega) (by omega) hM
  refine ⟨M', by rw [show (p.n + 1).toNat = p.n.toNat + 1 by omega]; exact r1, r2, ?_, ?_, fresh_ch (fun m hm => r4 m hm hm.1) _ _ (by omega) (by omega), rfr_nodup _ _, fun m hm => ?_⟩
  · rw [r3, nd_fresh]
    obtain ⟨k, hk⟩ : ∃ k, p.n.toNat = k + 1 := ⟨p.n.toNat - 1, by omega⟩
    rw [hk]
    rfl
  · rw [r3, tag_fresh]
    rfl
  · have := rfr_mem.1 hm
    exact ⟨by omega, by omega⟩
theorem nodup_len : ∀ (l m : List Int), l.Nodup → (∀ x ∈ l, x ∈ m) → l.length ≤ m.length
  | [], _, _, _ => Nat.zero_le _
  | x :: l, m, hn, hs => by
    have hx := hs x (by simp)
    have h1 := List.nodup_cons.1 hn
    have h2 := nodup_len l (m.erase x) h1.2 fun y hy => by
      have hne : y ≠ x := fun e => h1.1 (e ▸ hy)
      exact (List.mem_erase_of_ne hne).2 (hs y (by simp [hy]))
    have h3 := List.length_erase_of_mem hx
    have h4 := List.length_pos_of_mem hx
    simp only [List.length_cons]
    omega
/-- Numbers that are a plan's, each once, are no more than it has. -/
theorem nodup_le {p : Pl} (h0 : 0 ≤ p.n) {l : List Int} (hn : l.Nodup) (hr : ∀ n ∈ l, InR p n) : (l.length : Int) ≤ p.n := by
  have := nodup_len l (rfr p.n.toNat 0) hn fun m hm => rfr_mem.2 ⟨(hr m hm).1, by have := (hr m hm).2; omega⟩
  rw [rfr_len] at this
  omega
theorem Mg.zero (p : Pl) : Mg p (M0 [p.sizeF] 1) := ⟨rfl, rfl, rfl⟩
end Go.Proofs.Ytkjbfhcgldgkaaa
