/-
  PlanMore: the call's ways, walked. Conditions: those of each theorem.
-/
import Derived.Test.YtdbbbefkahmneaaPlanRisesW
import Derived.Test.YtdbbbefkahmneaaFork
namespace Go.Proofs.Ytdbbbefkahmneaa
open Go Go.RowKit

section
variable (n t r d b g : Int) (w : World)
theorem head6 : Calls Try.prog 20 #[.agg #[.int .i64 n, .int .i64 t, .int .i64 r, .int .i64 d, .int .i64 b, .int .i64 g]] w (Ret (.int .i64 (Pl.headF ⟨n, t, r, d, b, g⟩ )) w) := head_any ⟨n, t, r, d, b, g⟩  w
theorem size6 : Calls Try.prog 12 #[.agg #[.int .i64 n, .int .i64 t, .int .i64 r, .int .i64 d, .int .i64 b, .int .i64 g]] w (Ret (.int .i64 (Pl.sizeF ⟨n, t, r, d, b, g⟩ )) w) := size_any ⟨n, t, r, d, b, g⟩  w
theorem cellsF6 : Calls Try.prog 13 #[.agg #[.int .i64 n, .int .i64 t, .int .i64 r, .int .i64 d, .int .i64 b, .int .i64 g]] w (Ret (.int .i64 (Pl.cellsF ⟨n, t, r, d, b, g⟩ )) w) := cellsF_any ⟨n, t, r, d, b, g⟩  w
theorem kind6 (x : Int) : Calls Try.prog 24 #[.agg #[.int .i64 n, .int .i64 t, .int .i64 r, .int .i64 d, .int .i64 b, .int .i64 g], .int .i64 x] w (Ret (.int .i64 (Pl.kindF ⟨n, t, r, d, b, g⟩ x)) w) := kind_any ⟨n, t, r, d, b, g⟩ x w
theorem hazard6 (x i : Int) : Calls Try.prog 22 #[.agg #[.int .i64 n, .int .i64 t, .int .i64 r, .int .i64 d, .int .i64 b, .int .i64 g], .int .i64 x, .int .i64 i] w (Ret (.int .i64 (Pl.hazF ⟨n, t, r, d, b, g⟩ x i)) w) := hazard_any ⟨n, t, r, d, b, g⟩ x i w
theorem cnt6 (x : Int) : Calls Try.prog 23 #[.agg #[.int .i64 n, .int .i64 t, .int .i64 r, .int .i64 d, .int .i64 b, .int .i64 g], .int .i64 x] w (Ret (.int .i64 (Pl.cntF ⟨n, t, r, d, b, g⟩ x)) w) := cnt_any ⟨n, t, r, d, b, g⟩ x w
theorem state6 (x : Int) : Calls Try.prog 21 #[.agg #[.int .i64 n, .int .i64 t, .int .i64 r, .int .i64 d, .int .i64 b, .int .i64 g], .int .i64 x] w (Ret (.int .i64 (Pl.stF ⟨n, t, r, d, b, g⟩ x)) w) := state_any ⟨n, t, r, d, b, g⟩ x w
theorem field6 (x i : Int) : Calls Try.prog 19 #[.agg #[.int .i64 n, .int .i64 t, .int .i64 r, .int .i64 d, .int .i64 b, .int .i64 g], .int .i64 x, .int .i64 i] w (Ret (.int .i64 (Pl.fdF ⟨n, t, r, d, b, g⟩ x i)) w) := field_any ⟨n, t, r, d, b, g⟩ x i w
theorem few6 (y : Bool) (hy : Hid (y = true ↔ Pl.few ⟨n, t, r, d, b, g⟩)) : Calls Try.prog 9 #[.agg #[.int .i64 n, .int .i64 t, .int .i64 r, .int .i64 d, .int .i64 b, .int .i64 g]] w (Ret (.bool y) w) := few_any ⟨n, t, r, d, b, g⟩ w y hy
theorem rformed6 (y : Bool) (hy : Hid (y = true ↔ Pl.ok ⟨n, t, r, d, b, g⟩)) : Calls Try.prog 10 #[.agg #[.int .i64 n, .int .i64 t, .int .i64 r, .int .i64 d, .int .i64 b, .int .i64 g]] w (Ret (.bool y) w) := rformed_any ⟨n, t, r, d, b, g⟩ w y hy
end
/-- With a node more, and with a domain more. -/
theorem Pl.more_n {n t r d b g : Int} (h : Pl.ok ⟨n, t, r, d, b, g⟩) (hn : n ≤ 40) {k : Int} (h0 : 0 ≤ k) (h1 : k < n) (S A B : Int) (hS : S = Pl.sizeF ⟨n, t, r, d, b, g⟩) (hA : A = Pl.fdF ⟨n, t, r, d, b, g⟩ k 1) (hB : B = Pl.hazF ⟨n, t, r, d, b, g⟩ 0 2) :
    Pl.sizeF ⟨n + 1, t, r, d, b, g⟩ = S + 5 ∧ Pl.stF ⟨n + 1, t, r, d, b, g⟩ n = S ∧ Pl.fdF ⟨n + 1, t, r, d, b, g⟩ k 1 = A ∧ Pl.hazF ⟨n + 1, t, r, d, b, g⟩ 0 2 = B ∧ Pl.headF ⟨n + 1, t, r, d, b, g⟩ = 0 := by
  have h' : Pl.ok ⟨n + 1, t, r, d, b, g⟩ := by
    unfold Pl.ok at h ⊢
    dsimp only at h ⊢
    omega
  have ht : 1 ≤ t := by
    unfold Pl.ok at h
    dsimp only at h
    omega
  subst hS hA hB
  have e1 : Pl.nod ⟨n + 1, t, r, d, b, g⟩ = Pl.nod ⟨n, t, r, d, b, g⟩ := rfl
  have e2 : Pl.haz ⟨n + 1, t, r, d, b, g⟩ = Pl.haz ⟨n, t, r, d, b, g⟩ := rfl
  unfold Pl.sizeF Pl.stF Pl.fdF Pl.hazF Pl.headF
  dsimp only
  rw [if_pos h, if_pos h', if_pos ⟨h', by omega, by omega⟩, if_pos ⟨h', ⟨h0, by omega⟩, by omega, by omega⟩, if_pos ⟨h, ⟨h0, h1⟩, by omega, by omega⟩, if_pos ⟨h', ⟨by omega, by omega⟩, by omega, by omega⟩, if_pos ⟨h, ⟨by omega, by omega⟩, by omega, by omega⟩, if_pos h', e1, e2]
  refine ⟨?_, rfl, rfl, rfl, rfl⟩
  unfold Pl.nod
  omega
theorem Pl.more_d {n t r d b g : Int} (h : Pl.ok ⟨n, t, r, d, b, g⟩) (hd : d ≤ 6) {k : Int} (h0 : 0 ≤ k) (h1 : k < n) (S A B D : Int) (hS : S = Pl.sizeF ⟨n, t, r, d, b, g⟩) (hA : A = Pl.stF ⟨n, t, r, d, b, g⟩ k) (hB : B = Pl.cntF ⟨n, t, r, d, b, g⟩ 0) (hD : D = 1 + Pl.cellsF ⟨n, t, r, d, b, g⟩) :
    Pl.sizeF ⟨n, t, r, d + 1, b, g⟩ = S + D ∧ Pl.stF ⟨n, t, r, d + 1, b, g⟩ k = A + D ∧ Pl.cntF ⟨n, t, r, d + 1, b, g⟩ 0 = B + D ∧ Pl.kindF ⟨n, t, r, d + 1, b, g⟩ d = 1 + d * D := by
  have h' : Pl.ok ⟨n, t, r, d + 1, b, g⟩ := by
    unfold Pl.ok at h ⊢
    dsimp only at h ⊢
    omega
  have ht : 1 ≤ t ∧ 0 ≤ d := by
    unfold Pl.ok at h
    dsimp only at h
    omega
  subst hS hA hB hD
  have e1 : ∀ x, Pl.nod ⟨n, t, r, d + 1, b, g⟩ x = Pl.nod ⟨n, t, r, d, b, g⟩ x + (1 + Pl.c ⟨n, t, r, d, b, g⟩) := fun x => by
    have ec : Pl.c ⟨n, t, r, d + 1, b, g⟩ = Pl.c ⟨n, t, r, d, b, g⟩ := rfl
    unfold Pl.nod Pl.cnt Pl.haz Pl.dom
    rw [ec]
    dsimp only
    rw [Int.add_mul]
    omega
  have e2 : ∀ x, Pl.cnt ⟨n, t, r, d + 1, b, g⟩ x = Pl.cnt ⟨n, t, r, d, b, g⟩ x + (1 + Pl.c ⟨n, t, r, d, b, g⟩) := fun x => by
    have ec : Pl.c ⟨n, t, r, d + 1, b, g⟩ = Pl.c ⟨n, t, r, d, b, g⟩ := rfl
    unfold Pl.cnt Pl.haz Pl.dom
    rw [ec]
    dsimp only
    rw [Int.add_mul]
    omega
  have e3 : Pl.cellsF ⟨n, t, r, d, b, g⟩ = Pl.c ⟨n, t, r, d, b, g⟩ := by unfold Pl.cellsF; rw [if_pos h]
  rw [e3]
  refine ⟨?_, ?_, ?_, ?_⟩
  · unfold Pl.sizeF; rw [if_pos h', if_pos h]; exact e1 n
  · unfold Pl.stF; rw [if_pos (c := Pl.ok ⟨n, t, r, d + 1, b, g⟩ ∧ 0 ≤ k ∧ k < n) ⟨h', h0, h1⟩, if_pos (c := Pl.ok ⟨n, t, r, d, b, g⟩ ∧ 0 ≤ k ∧ k < n) ⟨h, h0, h1⟩]; exact e1 k
  · unfold Pl.cntF; rw [if_pos (c := Pl.ok ⟨n, t, r, d + 1, b, g⟩ ∧ (0 : Int) ≤ 0 ∧ 0 < t) ⟨h', by omega, by omega⟩, if_pos (c := Pl.ok ⟨n, t, r, d, b, g⟩ ∧ (0 : Int) ≤ 0 ∧ 0 < t) ⟨h, by omega, by omega⟩]; exact e2 0
  · unfold Pl.kindF; rw [if_pos (c := Pl.ok ⟨n, t, r, d + 1, b, g⟩ ∧ 0 ≤ d ∧ d < d + 1) ⟨h', by omega, by omega⟩]; rfl
/-- Two boxes that the call made. -/
structure TwoBox (Y : World) (bq bo : Nat) (cq co : Array Value) (Z : World) : Prop where
  ext : Ext Y Z
  q : Z.heap[bq]? = some (.cells cq 23 (0, 0))
  o : Z.heap[bo]? = some (.cells co 23 (0, 0))
  ne : bq ≠ bo
  newq : Y.heap.size ≤ bq
  newo : Y.heap.size ≤ bo
theorem TwoBox.setQ {Y Z : World} {bq bo : Nat} {cq co : Array Value} (h : TwoBox Y bq bo cq co Z) (i : Nat) (x : Value) : TwoBox Y bq bo (cq.setIfInBounds i x) co (Z.setCell ⟨bq, i, none⟩ x) :=
  ⟨ext_set _ h.newq h.ext, set_same x h.q, by rw [set_other x (Ne.symm h.ne)]; exact h.o, h.ne, h.newq, h.newo⟩
theorem TwoBox.setO {Y Z : World} {bq bo : Nat} {cq co : Array Value} (h : TwoBox Y bq bo cq co Z) (i : Nat) (x : Value) : TwoBox Y bq bo cq (co.setIfInBounds i x) (Z.setCell ⟨bo, i, none⟩ x) :=
  ⟨ext_set _ h.newo h.ext, by rw [set_other x h.ne]; exact h.q, set_same x h.o, h.ne, h.newq, h.newo⟩
theorem TwoBox.over {Y Z : World} {bq bo : Nat} {cq co : Array Value} (h : TwoBox Y bq bo cq co Z) (s : Sub Z) : TwoBox Y bq bo cq co (over Z s) :=
  ⟨ext_over s h.ext, by rw [(over_below Z s).block _ (hp_lt h.q)]; exact h.q, by rw [(over_below Z s).block _ (hp_lt h.o)]; exact h.o, h.ne, h.newq, h.newo⟩
theorem six_of {w : World} {b : Nat} {x0 x1 x2 x3 x4 x5 : Value} {t : TypeId} (h : w.heap[b]? = some (.cells #[x0, x1, x2, x3, x4, x5] t (0, 0))) : w.cell? ⟨b, 0, none⟩ = some x0 ∧ w.cell? ⟨b, 1, none⟩ = some x1 ∧ w.cell? ⟨b, 2, none⟩ = some x2 ∧
    w.cell? ⟨b, 3, none⟩ = some x3 ∧ w.cell? ⟨b, 4, none⟩ = some x4 ∧ w.cell? ⟨b, 5, none⟩ = some x5 ∧ (∀ o, w.frozen? ⟨b, o, none⟩ = false) ∧ b < w.heap.size :=
  ⟨cell_at h rfl, cell_at h rfl, cell_at h rfl, cell_at h rfl, cell_at h rfl, cell_at h rfl, fun _ => free_at h, hp_lt h⟩
theorem Pl.lims {n t r d b g : Int} (h : Pl.ok ⟨n, t, r, d, b, g⟩) {k : Int} (h0 : 0 ≤ k) (h1 : k < n) (S A B c : Int) (hS : S = Pl.sizeF ⟨n, t, r, d, b, g⟩) (hA : A = Pl.stF ⟨n, t, r, d, b, g⟩ k) (hB : B = Pl.cntF ⟨n, t, r, d, b, g⟩ 0) (hc : c = Pl.cellsF ⟨n, t, r, d, b, g⟩) :
    (1 ≤ S ∧ S ≤ 5275777) ∧ (1 ≤ A ∧ A ≤ 5275777) ∧ (1 ≤ B ∧ B ≤ 32897) ∧ (2 ≤ c ∧ c ≤ 256) ∧ (0 ≤ d * (1 + c) ∧ d * (1 + c) ≤ 16448) := by
  have ht : 1 ≤ t ∧ 0 ≤ d ∧ b ≤ 256 := by
    unfold Pl.ok at h
    dsimp only at h
    omega
  subst hS hA hB hc
  have e3 : Pl.cellsF ⟨n, t, r, d, b, g⟩ = Pl.c ⟨n, t, r, d, b, g⟩ := by unfold Pl.cellsF; rw [if_pos h]
  rw [e3]
  refine ⟨?_, ?_, ?_, ⟨Pl.c_le _, Pl.c_ge _ ht.2.2⟩, Pl.dom_b h (x := d) (by omega) (Int.le_refl _)⟩
  · unfold Pl.sizeF; rw [if_pos h]; exact Pl.nod_in h (x := n) (by omega) (Int.le_refl _)
  · rw [(Pl.node_at h h0 h1).1]; exact Pl.nod_in h h0 (Int.le_of_lt h1)
  · rw [(Pl.thread_at h (x := 0) (by omega) (by show 0 < t; omega)).2.1]; exact Pl.cnt_in h (x := 0) (by omega) (by show 0 ≤ t; omega)
theorem tmod_in {z n : Int} (h : 1 ≤ n) : -n < z.tmod n ∧ z.tmod n < n := by
  have h1 := Int.tmod_lt_of_pos z (b := n) (by omega)
  refine ⟨?_, h1⟩
  have h2 := Int.tmod_lt_of_pos (-z) (b := n) (by omega)
  rw [Int.neg_tmod] at h2
  omega


set_option maxRecDepth 8000 in
set_option maxHeartbeats 2000000 in
theorem planMore6 (n t r d b g z : Int) (w : World) : Calls Try.prog 6 #[.agg #[.int .i64 n, .int .i64 t, .int .i64 r, .int .i64 d, .int .i64 b, .int .i64 g], .int .i64 z] w (Ret (.bool true) w) := by
  by_cases hf : Pl.few ⟨n, t, r, d, b, g⟩
  · have F := Lib.hid hf
    clear hf
    by_cases hk : Pl.ok ⟨n, t, r, d, b, g⟩
    · have K := Lib.hid hk
      have hn1 : 1 ≤ n := (by unfold Pl.ok at hk; dsimp only at hk; omega)
      have hn2 : n ≤ 40 := (F.out hk).1
      have hd1 : 0 ≤ d := (by unfold Pl.ok at hk; dsimp only at hk; omega)
      have hd2 : d ≤ 6 := (F.out hk).2.2.1
      clear hk
      go_enter Try.func6, Try.ntmps6
      go_wp2_with (first
        | (go_at_call 8; refine (awake_any _).mono ?_; rintro e w' hr'; obtain ⟨rfl, s, rfl⟩ := hr'.over; clear hr')
        | (go_at_call 9; refine (few6 _ _ _ _ _ _ _ true (hid_yes F.out)).mono ?_; rintro e w' hr'; obtain ⟨rfl, s1, rfl⟩ := hr'.over; clear hr')
        | (go_at_call 10; refine (rformed6 _ _ _ _ _ _ _ true (hid_yes K.out)).mono ?_; rintro e w' hr'; obtain ⟨rfl, s2, rfl⟩ := hr'.over; clear hr'))
      have HXY := Lib.hid (ext_over ((s.comp s1).comp s2) (ext_alloc (.cells #[.int .i64 n, .int .i64 t, .int .i64 r, .int .i64 d, .int .i64 b, .int .i64 g] 23) (ext_refl w)))
      obtain ⟨bp, hbp⟩ : ∃ bp, bp = w.heap.size := ⟨_, rfl⟩
      have HB : Hid ((over (w.alloc (.cells #[.int .i64 n, .int .i64 t, .int .i64 r, .int .i64 d, .int .i64 b, .int .i64 g] 23)) ((s.comp s1).comp s2)).heap[bp]? = some (.cells #[.int .i64 n, .int .i64 t, .int .i64 r, .int .i64 d, .int .i64 b, .int .i64 g] 23 (0, 0))) := Lib.hid (by subst hbp; rw [(over_below _ _).block _ (by simp)]; exact hp_at _ _ _ rfl)
      rw [← hbp]
      generalize over (w.alloc (.cells #[.int .i64 n, .int .i64 t, .int .i64 r, .int .i64 d, .int .i64 b, .int .i64 g] 23)) ((s.comp s1).comp s2) = Y at HXY HB ⊢
      clear hbp
      have lY := hp_lt HB.out
      have c0 := cell_at (o := 0) HB.out rfl
      have c1 := cell_at (o := 1) HB.out rfl
      have c2 := cell_at (o := 2) HB.out rfl
      have c3 := cell_at (o := 3) HB.out rfl
      have c4 := cell_at (o := 4) HB.out rfl
      have c5 := cell_at (o := 5) HB.out rfl
      refine wp_region_ways (fun x => ∃ s, x = over Y s) (by kernel_rfl) (over_of (ext_drew (ext_refl Y))) ?_
      refine ways_reads [0, 1] (by kernel_rfl) ?_
      simp only [pickL, List.map_cons, List.map_nil, List.getD_cons_zero, List.getD_cons_succ]
      repeat (go_big_quiet_step (fail))
      refine wpQuiet_nil ?_
      refine ways_fork 2 (by kernel_rfl) ?_ (ways_act 3 (by kernel_rfl) ?_)
      · simp only [pickL, List.map_cons, List.map_nil, List.getD_cons_zero, List.getD_cons_succ]
        go_wp2
        have HX1 := Lib.hid (ext_drew (ext_alloc (.cells #[.int .i64 0, .int .i64 0, .int .i64 0, .int .i64 0, .int .i64 0, .int .i64 0] 23) (ext_refl Y)))
        have HQ : Hid ((Y.alloc (.cells #[.int .i64 0, .int .i64 0, .int .i64 0, .int .i64 0, .int .i64 0, .int .i64 0] 23)).drew.heap[Y.heap.size]? = some (.cells #[.int .i64 0, .int .i64 0, .int .i64 0, .int .i64 0, .int .i64 0, .int .i64 0] 23 (0, 0))) := Lib.hid (hp_at _ _ _ rfl)
        have HS : Hid ((Y.alloc (.cells #[.int .i64 0, .int .i64 0, .int .i64 0, .int .i64 0, .int .i64 0, .int .i64 0] 23)).drew.heap.size = Y.heap.size + 1) := Lib.hid (by simp [World.drew])
        refine mixQ_mk (over_of HX1.out) (ways_act 3 (by kernel_rfl) ?_)
        obtain ⟨bq, hbq⟩ : ∃ bq, bq = Y.heap.size := ⟨_, rfl⟩
        rw [← hbq] at HQ HS ⊢
        generalize (Y.alloc (.cells #[.int .i64 0, .int .i64 0, .int .i64 0, .int .i64 0, .int .i64 0, .int .i64 0] 23)).drew = Y1 at HX1 HQ HS ⊢
        simp only [pickL, List.map_cons, List.map_nil, List.getD_cons_zero, List.getD_cons_succ]
        go_wp2
        have HT : Hid (TwoBox Y bq Y1.heap.size #[.int .i64 0, .int .i64 0, .int .i64 0, .int .i64 0, .int .i64 0, .int .i64 0] #[.int .i64 0, .int .i64 0, .int .i64 0, .int .i64 0, .int .i64 0, .int .i64 0] (Y1.alloc (.cells #[.int .i64 0, .int .i64 0, .int .i64 0, .int .i64 0, .int .i64 0, .int .i64 0] 23))) := Lib.hid ⟨ext_alloc _ HX1.out, (by rw [Below.heap_alloc _ _ _ (hp_lt HQ.out)]; exact HQ.out), hp_at _ _ _ rfl, (by rw [HS.out]; omega), (by omega), HX1.out.size⟩
        refine mixQ_mk (over_of HT.out.ext) (ways_act 4 (by kernel_rfl) ?_)
        clear HX1 HQ HS hbq
        generalize Y1.heap.size = bo at HT ⊢
        generalize Y1.alloc (.cells #[.int .i64 0, .int .i64 0, .int .i64 0, .int .i64 0, .int .i64 0, .int .i64 0] 23) = Z at HT ⊢
        have ne1 := HT.out.ne
        have ne2 := Ne.symm HT.out.ne
        obtain ⟨q0, q1, q2, q3, q4, q5, qz, ql⟩ := six_of HT.out.q
        simp only [pickL, List.map_cons, List.map_nil, List.getD_cons_zero, List.getD_cons_succ]
        go_wp2
        have HT1 : Hid (TwoBox Y bq bo #[.int .i64 n, .int .i64 t, .int .i64 r, .int .i64 d, .int .i64 b, .int .i64 g] #[.int .i64 0, .int .i64 0, .int .i64 0, .int .i64 0, .int .i64 0, .int .i64 0] ((((((Z.setCell ⟨bq, 0, none⟩ (.int .i64 n)).setCell ⟨bq, 1, none⟩ (.int .i64 t)).setCell ⟨bq, 2, none⟩ (.int .i64 r)).setCell ⟨bq, 3, none⟩ (.int .i64 d)).setCell ⟨bq, 4, none⟩ (.int .i64 b)).setCell ⟨bq, 5, none⟩ (.int .i64 g))) := Lib.hid ((((((HT.out.setQ 0 (.int .i64 n)).setQ 1 (.int .i64 t)).setQ 2 (.int .i64 r)).setQ 3 (.int .i64 d)).setQ 4 (.int .i64 b)).setQ 5 (.int .i64 g))
        refine mixQ_mk (over_of HT1.out.ext) (ways_act 5 (by kernel_rfl) ?_)
        generalize ((((((Z.setCell ⟨bq, 0, none⟩ (.int .i64 n)).setCell ⟨bq, 1, none⟩ (.int .i64 t)).setCell ⟨bq, 2, none⟩ (.int .i64 r)).setCell ⟨bq, 3, none⟩ (.int .i64 d)).setCell ⟨bq, 4, none⟩ (.int .i64 b)).setCell ⟨bq, 5, none⟩ (.int .i64 g)) = Z1 at HT1 ⊢
        clear q0 q1 q2 q3 q4 q5 qz ql HT
        obtain ⟨q0, q1, q2, q3, q4, q5, qz, ql⟩ := six_of HT1.out.o
        simp only [pickL, List.map_cons, List.map_nil, List.getD_cons_zero, List.getD_cons_succ]
        go_wp2
        have HT2 : Hid (TwoBox Y bq bo #[.int .i64 n, .int .i64 t, .int .i64 r, .int .i64 d, .int .i64 b, .int .i64 g] #[.int .i64 n, .int .i64 t, .int .i64 r, .int .i64 d, .int .i64 b, .int .i64 g] ((((((Z1.setCell ⟨bo, 0, none⟩ (.int .i64 n)).setCell ⟨bo, 1, none⟩ (.int .i64 t)).setCell ⟨bo, 2, none⟩ (.int .i64 r)).setCell ⟨bo, 3, none⟩ (.int .i64 d)).setCell ⟨bo, 4, none⟩ (.int .i64 b)).setCell ⟨bo, 5, none⟩ (.int .i64 g))) := Lib.hid ((((((HT1.out.setO 0 (.int .i64 n)).setO 1 (.int .i64 t)).setO 2 (.int .i64 r)).setO 3 (.int .i64 d)).setO 4 (.int .i64 b)).setO 5 (.int .i64 g))
        refine mixQ_mk (over_of HT2.out.ext) (ways_end (by kernel_rfl) ?_)
        generalize ((((((Z1.setCell ⟨bo, 0, none⟩ (.int .i64 n)).setCell ⟨bo, 1, none⟩ (.int .i64 t)).setCell ⟨bo, 2, none⟩ (.int .i64 r)).setCell ⟨bo, 3, none⟩ (.int .i64 d)).setCell ⟨bo, 4, none⟩ (.int .i64 b)).setCell ⟨bo, 5, none⟩ (.int .i64 g)) = Z2 at HT2 ⊢
        clear q0 q1 q2 q3 q4 q5 qz ql HT1
        have np1 : bp ≠ bq := (by have := HT2.out.newq; omega)
        have np2 : bp ≠ bo := (by have := HT2.out.newo; omega)
        have np3 := Ne.symm np1
        have np4 := Ne.symm np2
        obtain ⟨q0, q1, q2, q3, q4, q5, qz, ql⟩ := six_of HT2.out.q
        obtain ⟨o0, o1, o2, o3, o4, o5, oz, ol⟩ := six_of HT2.out.o
        have p0 := ext_cell HT2.out.ext c0
        have pl := Nat.lt_of_lt_of_le lY HT2.out.ext.size
        clear c0 c1 c2 c3 c4 c5
        have hm := tmod_in (z := z) hn1
        by_cases hneg : z.tmod n < 0
        · go_wp2
          have HT3 : Hid (TwoBox Y bq bo #[.int .i64 (n + 1), .int .i64 t, .int .i64 r, .int .i64 d, .int .i64 b, .int .i64 g] #[.int .i64 n, .int .i64 t, .int .i64 r, .int .i64 (d + 1), .int .i64 b, .int .i64 g] ((Z2.setCell ⟨bq, 0, none⟩ (.int .i64 (n + 1))).setCell ⟨bo, 3, none⟩ (.int .i64 (d + 1)))) := Lib.hid ((HT2.out.setQ 0 (.int .i64 (n + 1))).setO 3 (.int .i64 (d + 1)))
          generalize (Z2.setCell ⟨bq, 0, none⟩ (.int .i64 (n + 1))).setCell ⟨bo, 3, none⟩ (.int .i64 (d + 1)) = Z3 at HT3 ⊢
          clear q0 q1 q2 q3 q4 q5 qz ql o0 o1 o2 o3 o4 o5 oz ol p0 pl HT2
          obtain ⟨q0, q1, q2, q3, q4, q5, qz, ql⟩ := six_of HT3.out.q
          obtain ⟨o0, o1, o2, o3, o4, o5, oz, ol⟩ := six_of HT3.out.o
          obtain ⟨p0, p1, p2, p3, p4, p5, pz, pl⟩ := six_of ((HT3.out.ext.block bp lY).trans HB.out)
          obtain ⟨S, hS⟩ : ∃ S, S = Pl.sizeF ⟨n, t, r, d, b, g⟩ := ⟨_, rfl⟩
          obtain ⟨A, hA⟩ : ∃ A, A = Pl.fdF ⟨n, t, r, d, b, g⟩ 0 1 := ⟨_, rfl⟩
          obtain ⟨B, hB⟩ : ∃ B, B = Pl.hazF ⟨n, t, r, d, b, g⟩ 0 2 := ⟨_, rfl⟩
          obtain ⟨A2, hA2⟩ : ∃ A2, A2 = Pl.stF ⟨n, t, r, d, b, g⟩ 0 := ⟨_, rfl⟩
          obtain ⟨B2, hB2⟩ : ∃ B2, B2 = Pl.cntF ⟨n, t, r, d, b, g⟩ 0 := ⟨_, rfl⟩
          obtain ⟨c, hc⟩ : ∃ c, c = Pl.cellsF ⟨n, t, r, d, b, g⟩ := ⟨_, rfl⟩
          obtain ⟨m1, m2, m3, m4, m5⟩ := Pl.more_n K.out hn2 (k := 0) (by omega) (by omega) S A B hS hA hB
          obtain ⟨m6, m7, m8, m9⟩ := Pl.more_d K.out hd2 (k := 0) (by omega) (by omega) S A2 B2 (1 + c) hS hA2 hB2 (by rw [hc])
          obtain ⟨l1, l2, l3, l4, l5⟩ := Pl.lims K.out (k := 0) (by omega) (by omega) S A2 B2 c hS hA2 hB2 hc
          have y1 := hS.symm
          have y2 := hA.symm
          have y3 := hB.symm
          have y4 := hA2.symm
          have y5 := hB2.symm
          have y6 := hc.symm
          clear hS hA hB hA2 hB2 hc
          refine wp_region_over (by kernel_rfl) (by kernel_rfl) ?_
          repeat (go_big_quiet_step (first
            | (go_at_call 12; exact over_call (size6 _ _ _ _ _ _ _))
            | (go_at_call 21; exact over_call (state6 _ _ _ _ _ _ _ _))
            | (go_at_call 19; exact over_call (field6 _ _ _ _ _ _ _ _ _))
            | (go_at_call 22; exact over_call (hazard6 _ _ _ _ _ _ _ _ _))
            | (go_at_call 20; exact over_call (head6 _ _ _ _ _ _ _))))
          refine wpQuiet_nil ?_
          intro _ hw'
          obtain ⟨s5, hw''⟩ := hw'
          subst hw''
          go_wp2_with (go_at_call 13; refine (cellsF6 _ _ _ _ _ _ _).mono ?_; rintro e w' hr'; obtain ⟨rfl, s6, rfl⟩ := hr'.over; clear hr')
          refine wp_region_over2 (by kernel_rfl) (by kernel_rfl) ?_
          repeat (go_big_quiet_step (first
            | (go_at_call 12; exact over_call (size6 _ _ _ _ _ _ _))
            | (go_at_call 21; exact over_call (state6 _ _ _ _ _ _ _ _))
            | (go_at_call 23; exact over_call (cnt6 _ _ _ _ _ _ _ _))
            | (go_at_call 24; exact over_call (kind6 _ _ _ _ _ _ _ _))))
          refine wpQuiet_nil ?_
          intro _ hw'
          obtain ⟨s7, hw''⟩ := hw'
          subst hw''
          go_wp2
          go_ret
          refine Ret.mk (ext_trans HXY.out (ext_trans HT3.out.ext ?_))
          repeat (first | exact ext_refl _ | apply ext_over | apply ext_alloc)
        · go_wp2
          have HT3 : Hid (TwoBox Y bq bo #[.int .i64 (n + 1), .int .i64 t, .int .i64 r, .int .i64 d, .int .i64 b, .int .i64 g] #[.int .i64 n, .int .i64 t, .int .i64 r, .int .i64 (d + 1), .int .i64 b, .int .i64 g] ((Z2.setCell ⟨bq, 0, none⟩ (.int .i64 (n + 1))).setCell ⟨bo, 3, none⟩ (.int .i64 (d + 1)))) := Lib.hid ((HT2.out.setQ 0 (.int .i64 (n + 1))).setO 3 (.int .i64 (d + 1)))
          generalize (Z2.setCell ⟨bq, 0, none⟩ (.int .i64 (n + 1))).setCell ⟨bo, 3, none⟩ (.int .i64 (d + 1)) = Z3 at HT3 ⊢
          clear q0 q1 q2 q3 q4 q5 qz ql o0 o1 o2 o3 o4 o5 oz ol p0 pl HT2
          obtain ⟨q0, q1, q2, q3, q4, q5, qz, ql⟩ := six_of HT3.out.q
          obtain ⟨o0, o1, o2, o3, o4, o5, oz, ol⟩ := six_of HT3.out.o
          obtain ⟨p0, p1, p2, p3, p4, p5, pz, pl⟩ := six_of ((HT3.out.ext.block bp lY).trans HB.out)
          obtain ⟨S, hS⟩ : ∃ S, S = Pl.sizeF ⟨n, t, r, d, b, g⟩ := ⟨_, rfl⟩
          obtain ⟨A, hA⟩ : ∃ A, A = Pl.fdF ⟨n, t, r, d, b, g⟩ (z.tmod n) 1 := ⟨_, rfl⟩
          obtain ⟨B, hB⟩ : ∃ B, B = Pl.hazF ⟨n, t, r, d, b, g⟩ 0 2 := ⟨_, rfl⟩
          obtain ⟨A2, hA2⟩ : ∃ A2, A2 = Pl.stF ⟨n, t, r, d, b, g⟩ (z.tmod n) := ⟨_, rfl⟩
          obtain ⟨B2, hB2⟩ : ∃ B2, B2 = Pl.cntF ⟨n, t, r, d, b, g⟩ 0 := ⟨_, rfl⟩
          obtain ⟨c, hc⟩ : ∃ c, c = Pl.cellsF ⟨n, t, r, d, b, g⟩ := ⟨_, rfl⟩
          obtain ⟨m1, m2, m3, m4, m5⟩ := Pl.more_n K.out hn2 (k := (z.tmod n)) (by omega) (by omega) S A B hS hA hB
          obtain ⟨m6, m7, m8, m9⟩ := Pl.more_d K.out hd2 (k := (z.tmod n)) (by omega) (by omega) S A2 B2 (1 + c) hS hA2 hB2 (by rw [hc])
          obtain ⟨l1, l2, l3, l4, l5⟩ := Pl.lims K.out (k := (z.tmod n)) (by omega) (by omega) S A2 B2 c hS hA2 hB2 hc
          have y1 := hS.symm
          have y2 := hA.symm
          have y3 := hB.symm
          have y4 := hA2.symm
          have y5 := hB2.symm
          have y6 := hc.symm
          clear hS hA hB hA2 hB2 hc
          refine wp_region_over (by kernel_rfl) (by kernel_rfl) ?_
          repeat (go_big_quiet_step (first
            | (go_at_call 12; exact over_call (size6 _ _ _ _ _ _ _))
            | (go_at_call 21; exact over_call (state6 _ _ _ _ _ _ _ _))
            | (go_at_call 19; exact over_call (field6 _ _ _ _ _ _ _ _ _))
            | (go_at_call 22; exact over_call (hazard6 _ _ _ _ _ _ _ _ _))
            | (go_at_call 20; exact over_call (head6 _ _ _ _ _ _ _))))
          refine wpQuiet_nil ?_
          intro _ hw'
          obtain ⟨s5, hw''⟩ := hw'
          subst hw''
          go_wp2_with (go_at_call 13; refine (cellsF6 _ _ _ _ _ _ _).mono ?_; rintro e w' hr'; obtain ⟨rfl, s6, rfl⟩ := hr'.over; clear hr')
          refine wp_region_over2 (by kernel_rfl) (by kernel_rfl) ?_
          repeat (go_big_quiet_step (first
            | (go_at_call 12; exact over_call (size6 _ _ _ _ _ _ _))
            | (go_at_call 21; exact over_call (state6 _ _ _ _ _ _ _ _))
            | (go_at_call 23; exact over_call (cnt6 _ _ _ _ _ _ _ _))
            | (go_at_call 24; exact over_call (kind6 _ _ _ _ _ _ _ _))))
          refine wpQuiet_nil ?_
          intro _ hw'
          obtain ⟨s7, hw''⟩ := hw'
          subst hw''
          go_wp2
          go_ret
          refine Ret.mk (ext_trans HXY.out (ext_trans HT3.out.ext ?_))
          repeat (first | exact ext_refl _ | apply ext_over | apply ext_alloc)
      · simp only [pickL, List.map_cons, List.map_nil, List.getD_cons_zero, List.getD_cons_succ]
        go_wp2
        have HX1 := Lib.hid (ext_drew (ext_alloc (.cells #[.int .i64 0, .int .i64 0, .int .i64 0, .int .i64 0, .int .i64 0, .int .i64 0] 23) (ext_refl Y)))
        have HQ : Hid ((Y.alloc (.cells #[.int .i64 0, .int .i64 0, .int .i64 0, .int .i64 0, .int .i64 0, .int .i64 0] 23)).drew.heap[Y.heap.size]? = some (.cells #[.int .i64 0, .int .i64 0, .int .i64 0, .int .i64 0, .int .i64 0, .int .i64 0] 23 (0, 0))) := Lib.hid (hp_at _ _ _ rfl)
        have HS : Hid ((Y.alloc (.cells #[.int .i64 0, .int .i64 0, .int .i64 0, .int .i64 0, .int .i64 0, .int .i64 0] 23)).drew.heap.size = Y.heap.size + 1) := Lib.hid (by simp [World.drew])
        refine mixQ_mk (over_of HX1.out) (ways_act 2 (by kernel_rfl) ?_)
        obtain ⟨bo, hbo⟩ : ∃ bo, bo = Y.heap.size := ⟨_, rfl⟩
        rw [← hbo] at HQ HS ⊢
        generalize (Y.alloc (.cells #[.int .i64 0, .int .i64 0, .int .i64 0, .int .i64 0, .int .i64 0, .int .i64 0] 23)).drew = Y1 at HX1 HQ HS ⊢
        simp only [pickL, List.map_cons, List.map_nil, List.getD_cons_zero, List.getD_cons_succ]
        go_wp2
        have HT : Hid (TwoBox Y Y1.heap.size bo #[.int .i64 0, .int .i64 0, .int .i64 0, .int .i64 0, .int .i64 0, .int .i64 0] #[.int .i64 0, .int .i64 0, .int .i64 0, .int .i64 0, .int .i64 0, .int .i64 0] (Y1.alloc (.cells #[.int .i64 0, .int .i64 0, .int .i64 0, .int .i64 0, .int .i64 0, .int .i64 0] 23))) := Lib.hid ⟨ext_alloc _ HX1.out, hp_at _ _ _ rfl, (by rw [Below.heap_alloc _ _ _ (hp_lt HQ.out)]; exact HQ.out), (by rw [HS.out]; omega), HX1.out.size, (by omega)⟩
        refine mixQ_mk (over_of HT.out.ext) (ways_act 4 (by kernel_rfl) ?_)
        clear HX1 HQ HS hbo
        generalize Y1.heap.size = bq at HT ⊢
        generalize Y1.alloc (.cells #[.int .i64 0, .int .i64 0, .int .i64 0, .int .i64 0, .int .i64 0, .int .i64 0] 23) = Z at HT ⊢
        have ne1 := HT.out.ne
        have ne2 := Ne.symm HT.out.ne
        obtain ⟨q0, q1, q2, q3, q4, q5, qz, ql⟩ := six_of HT.out.q
        simp only [pickL, List.map_cons, List.map_nil, List.getD_cons_zero, List.getD_cons_succ]
        go_wp2
        have HT1 : Hid (TwoBox Y bq bo #[.int .i64 n, .int .i64 t, .int .i64 r, .int .i64 d, .int .i64 b, .int .i64 g] #[.int .i64 0, .int .i64 0, .int .i64 0, .int .i64 0, .int .i64 0, .int .i64 0] ((((((Z.setCell ⟨bq, 0, none⟩ (.int .i64 n)).setCell ⟨bq, 1, none⟩ (.int .i64 t)).setCell ⟨bq, 2, none⟩ (.int .i64 r)).setCell ⟨bq, 3, none⟩ (.int .i64 d)).setCell ⟨bq, 4, none⟩ (.int .i64 b)).setCell ⟨bq, 5, none⟩ (.int .i64 g))) := Lib.hid ((((((HT.out.setQ 0 (.int .i64 n)).setQ 1 (.int .i64 t)).setQ 2 (.int .i64 r)).setQ 3 (.int .i64 d)).setQ 4 (.int .i64 b)).setQ 5 (.int .i64 g))
        refine mixQ_mk (over_of HT1.out.ext) (ways_act 5 (by kernel_rfl) ?_)
        generalize ((((((Z.setCell ⟨bq, 0, none⟩ (.int .i64 n)).setCell ⟨bq, 1, none⟩ (.int .i64 t)).setCell ⟨bq, 2, none⟩ (.int .i64 r)).setCell ⟨bq, 3, none⟩ (.int .i64 d)).setCell ⟨bq, 4, none⟩ (.int .i64 b)).setCell ⟨bq, 5, none⟩ (.int .i64 g)) = Z1 at HT1 ⊢
        clear q0 q1 q2 q3 q4 q5 qz ql HT
        obtain ⟨q0, q1, q2, q3, q4, q5, qz, ql⟩ := six_of HT1.out.o
        simp only [pickL, List.map_cons, List.map_nil, List.getD_cons_zero, List.getD_cons_succ]
        go_wp2
        have HT2 : Hid (TwoBox Y bq bo #[.int .i64 n, .int .i64 t, .int .i64 r, .int .i64 d, .int .i64 b, .int .i64 g] #[.int .i64 n, .int .i64 t, .int .i64 r, .int .i64 d, .int .i64 b, .int .i64 g] ((((((Z1.setCell ⟨bo, 0, none⟩ (.int .i64 n)).setCell ⟨bo, 1, none⟩ (.int .i64 t)).setCell ⟨bo, 2, none⟩ (.int .i64 r)).setCell ⟨bo, 3, none⟩ (.int .i64 d)).setCell ⟨bo, 4, none⟩ (.int .i64 b)).setCell ⟨bo, 5, none⟩ (.int .i64 g))) := Lib.hid ((((((HT1.out.setO 0 (.int .i64 n)).setO 1 (.int .i64 t)).setO 2 (.int .i64 r)).setO 3 (.int .i64 d)).setO 4 (.int .i64 b)).setO 5 (.int .i64 g))
        refine mixQ_mk (over_of HT2.out.ext) (ways_end (by kernel_rfl) ?_)
        generalize ((((((Z1.setCell ⟨bo, 0, none⟩ (.int .i64 n)).setCell ⟨bo, 1, none⟩ (.int .i64 t)).setCell ⟨bo, 2, none⟩ (.int .i64 r)).setCell ⟨bo, 3, none⟩ (.int .i64 d)).setCell ⟨bo, 4, none⟩ (.int .i64 b)).setCell ⟨bo, 5, none⟩ (.int .i64 g)) = Z2 at HT2 ⊢
        clear q0 q1 q2 q3 q4 q5 qz ql HT1
        have np1 : bp ≠ bq := (by have := HT2.out.newq; omega)
        have np2 : bp ≠ bo := (by have := HT2.out.newo; omega)
        have np3 := Ne.symm np1
        have np4 := Ne.symm np2
        obtain ⟨q0, q1, q2, q3, q4, q5, qz, ql⟩ := six_of HT2.out.q
        obtain ⟨o0, o1, o2, o3, o4, o5, oz, ol⟩ := six_of HT2.out.o
        have p0 := ext_cell HT2.out.ext c0
        have pl := Nat.lt_of_lt_of_le lY HT2.out.ext.size
        clear c0 c1 c2 c3 c4 c5
        have hm := tmod_in (z := z) hn1
        by_cases hneg : z.tmod n < 0
        · go_wp2
          have HT3 : Hid (TwoBox Y bq bo #[.int .i64 (n + 1), .int .i64 t, .int .i64 r, .int .i64 d, .int .i64 b, .int .i64 g] #[.int .i64 n, .int .i64 t, .int .i64 r, .int .i64 (d + 1), .int .i64 b, .int .i64 g] ((Z2.setCell ⟨bq, 0, none⟩ (.int .i64 (n + 1))).setCell ⟨bo, 3, none⟩ (.int .i64 (d + 1)))) := Lib.hid ((HT2.out.setQ 0 (.int .i64 (n + 1))).setO 3 (.int .i64 (d + 1)))
          generalize (Z2.setCell ⟨bq, 0, none⟩ (.int .i64 (n + 1))).setCell ⟨bo, 3, none⟩ (.int .i64 (d + 1)) = Z3 at HT3 ⊢
          clear q0 q1 q2 q3 q4 q5 qz ql o0 o1 o2 o3 o4 o5 oz ol p0 pl HT2
          obtain ⟨q0, q1, q2, q3, q4, q5, qz, ql⟩ := six_of HT3.out.q
          obtain ⟨o0, o1, o2, o3, o4, o5, oz, ol⟩ := six_of HT3.out.o
          obtain ⟨p0, p1, p2, p3, p4, p5, pz, pl⟩ := six_of ((HT3.out.ext.block bp lY).trans HB.out)
          obtain ⟨S, hS⟩ : ∃ S, S = Pl.sizeF ⟨n, t, r, d, b, g⟩ := ⟨_, rfl⟩
          obtain ⟨A, hA⟩ : ∃ A, A = Pl.fdF ⟨n, t, r, d, b, g⟩ 0 1 := ⟨_, rfl⟩
          obtain ⟨B, hB⟩ : ∃ B, B = Pl.hazF ⟨n, t, r, d, b, g⟩ 0 2 := ⟨_, rfl⟩
          obtain ⟨A2, hA2⟩ : ∃ A2, A2 = Pl.stF ⟨n, t, r, d, b, g⟩ 0 := ⟨_, rfl⟩
          obtain ⟨B2, hB2⟩ : ∃ B2, B2 = Pl.cntF ⟨n, t, r, d, b, g⟩ 0 := ⟨_, rfl⟩
          obtain ⟨c, hc⟩ : ∃ c, c = Pl.cellsF ⟨n, t, r, d, b, g⟩ := ⟨_, rfl⟩
          obtain ⟨m1, m2, m3, m4, m5⟩ := Pl.more_n K.out hn2 (k := 0) (by omega) (by omega) S A B hS hA hB
          obtain ⟨m6, m7, m8, m9⟩ := Pl.more_d K.out hd2 (k := 0) (by omega) (by omega) S A2 B2 (1 + c) hS hA2 hB2 (by rw [hc])
          obtain ⟨l1, l2, l3, l4, l5⟩ := Pl.lims K.out (k := 0) (by omega) (by omega) S A2 B2 c hS hA2 hB2 hc
          have y1 := hS.symm
          have y2 := hA.symm
          have y3 := hB.symm
          have y4 := hA2.symm
          have y5 := hB2.symm
          have y6 := hc.symm
          clear hS hA hB hA2 hB2 hc
          refine wp_region_over (by kernel_rfl) (by kernel_rfl) ?_
          repeat (go_big_quiet_step (first
            | (go_at_call 12; exact over_call (size6 _ _ _ _ _ _ _))
            | (go_at_call 21; exact over_call (state6 _ _ _ _ _ _ _ _))
            | (go_at_call 19; exact over_call (field6 _ _ _ _ _ _ _ _ _))
            | (go_at_call 22; exact over_call (hazard6 _ _ _ _ _ _ _ _ _))
            | (go_at_call 20; exact over_call (head6 _ _ _ _ _ _ _))))
          refine wpQuiet_nil ?_
          intro _ hw'
          obtain ⟨s5, hw''⟩ := hw'
          subst hw''
          go_wp2_with (go_at_call 13; refine (cellsF6 _ _ _ _ _ _ _).mono ?_; rintro e w' hr'; obtain ⟨rfl, s6, rfl⟩ := hr'.over; clear hr')
          refine wp_region_over2 (by kernel_rfl) (by kernel_rfl) ?_
          repeat (go_big_quiet_step (first
            | (go_at_call 12; exact over_call (size6 _ _ _ _ _ _ _))
            | (go_at_call 21; exact over_call (state6 _ _ _ _ _ _ _ _))
            | (go_at_call 23; exact over_call (cnt6 _ _ _ _ _ _ _ _))
            | (go_at_call 24; exact over_call (kind6 _ _ _ _ _ _ _ _))))
          refine wpQuiet_nil ?_
          intro _ hw'
          obtain ⟨s7, hw''⟩ := hw'
          subst hw''
          go_wp2
          go_ret
          refine Ret.mk (ext_trans HXY.out (ext_trans HT3.out.ext ?_))
          repeat (first | exact ext_refl _ | apply ext_over | apply ext_alloc)
        · go_wp2
          have HT3 : Hid (TwoBox Y bq bo #[.int .i64 (n + 1), .int .i64 t, .int .i64 r, .int .i64 d, .int .i64 b, .int .i64 g] #[.int .i64 n, .int .i64 t, .int .i64 r, .int .i64 (d + 1), .int .i64 b, .int .i64 g] ((Z2.setCell ⟨bq, 0, none⟩ (.int .i64 (n + 1))).setCell ⟨bo, 3, none⟩ (.int .i64 (d + 1)))) := Lib.hid ((HT2.out.setQ 0 (.int .i64 (n + 1))).setO 3 (.int .i64 (d + 1)))
          generalize (Z2.setCell ⟨bq, 0, none⟩ (.int .i64 (n + 1))).setCell ⟨bo, 3, none⟩ (.int .i64 (d + 1)) = Z3 at HT3 ⊢
          clear q0 q1 q2 q3 q4 q5 qz ql o0 o1 o2 o3 o4 o5 oz ol p0 pl HT2
          obtain ⟨q0, q1, q2, q3, q4, q5, qz, ql⟩ := six_of HT3.out.q
          obtain ⟨o0, o1, o2, o3, o4, o5, oz, ol⟩ := six_of HT3.out.o
          obtain ⟨p0, p1, p2, p3, p4, p5, pz, pl⟩ := six_of ((HT3.out.ext.block bp lY).trans HB.out)
          obtain ⟨S, hS⟩ : ∃ S, S = Pl.sizeF ⟨n, t, r, d, b, g⟩ := ⟨_, rfl⟩
          obtain ⟨A, hA⟩ : ∃ A, A = Pl.fdF ⟨n, t, r, d, b, g⟩ (z.tmod n) 1 := ⟨_, rfl⟩
          obtain ⟨B, hB⟩ : ∃ B, B = Pl.hazF ⟨n, t, r, d, b, g⟩ 0 2 := ⟨_, rfl⟩
          obtain ⟨A2, hA2⟩ : ∃ A2, A2 = Pl.stF ⟨n, t, r, d, b, g⟩ (z.tmod n) := ⟨_, rfl⟩
          obtain ⟨B2, hB2⟩ : ∃ B2, B2 = Pl.cntF ⟨n, t, r, d, b, g⟩ 0 := ⟨_, rfl⟩
          obtain ⟨c, hc⟩ : ∃ c, c = Pl.cellsF ⟨n, t, r, d, b, g⟩ := ⟨_, rfl⟩
          obtain ⟨m1, m2, m3, m4, m5⟩ := Pl.more_n K.out hn2 (k := (z.tmod n)) (by omega) (by omega) S A B hS hA hB
          obtain ⟨m6, m7, m8, m9⟩ := Pl.more_d K.out hd2 (k := (z.tmod n)) (by omega) (by omega) S A2 B2 (1 + c) hS hA2 hB2 (by rw [hc])
          obtain ⟨l1, l2, l3, l4, l5⟩ := Pl.lims K.out (k := (z.tmod n)) (by omega) (by omega) S A2 B2 c hS hA2 hB2 hc
          have y1 := hS.symm
          have y2 := hA.symm
          have y3 := hB.symm
          have y4 := hA2.symm
          have y5 := hB2.symm
          have y6 := hc.symm
          clear hS hA hB hA2 hB2 hc
          refine wp_region_over (by kernel_rfl) (by kernel_rfl) ?_
          repeat (go_big_quiet_step (first
            | (go_at_call 12; exact over_call (size6 _ _ _ _ _ _ _))
            | (go_at_call 21; exact over_call (state6 _ _ _ _ _ _ _ _))
            | (go_at_call 19; exact over_call (field6 _ _ _ _ _ _ _ _ _))
            | (go_at_call 22; exact over_call (hazard6 _ _ _ _ _ _ _ _ _))
            | (go_at_call 20; exact over_call (head6 _ _ _ _ _ _ _))))
          refine wpQuiet_nil ?_
          intro _ hw'
          obtain ⟨s5, hw''⟩ := hw'
          subst hw''
          go_wp2_with (go_at_call 13; refine (cellsF6 _ _ _ _ _ _ _).mono ?_; rintro e w' hr'; obtain ⟨rfl, s6, rfl⟩ := hr'.over; clear hr')
          refine wp_region_over2 (by kernel_rfl) (by kernel_rfl) ?_
          repeat (go_big_quiet_step (first
            | (go_at_call 12; exact over_call (size6 _ _ _ _ _ _ _))
            | (go_at_call 21; exact over_call (state6 _ _ _ _ _ _ _ _))
            | (go_at_call 23; exact over_call (cnt6 _ _ _ _ _ _ _ _))
            | (go_at_call 24; exact over_call (kind6 _ _ _ _ _ _ _ _))))
          refine wpQuiet_nil ?_
          intro _ hw'
          obtain ⟨s7, hw''⟩ := hw'
          subst hw''
          go_wp2
          go_ret
          refine Ret.mk (ext_trans HXY.out (ext_trans HT3.out.ext ?_))
          repeat (first | exact ext_refl _ | apply ext_over | apply ext_alloc)
    · have K := Lib.hid hk
      clear hk
      go_enter Try.func6, Try.ntmps6
      go_wp2_with (first
        | (go_at_call 8; refine (awake_any _).mono ?_; rintro e w' hr'; obtain ⟨rfl, s, rfl⟩ := hr'.over; clear hr')
        | (go_at_call 9; refine (few6 _ _ _ _ _ _ _ true (hid_yes F.out)).mono ?_; rintro e w' hr'; obtain ⟨rfl, s1, rfl⟩ := hr'.over; clear hr')
        | (go_at_call 10; refine (rformed6 _ _ _ _ _ _ _ false (hid_no K.out)).mono ?_; rintro e w' hr'; obtain ⟨rfl, s2, rfl⟩ := hr'.over; clear hr'))
      go_ret
      exact Ret.mk (by repeat (first | exact ext_refl _ | apply ext_over | apply ext_alloc))
  · have F := Lib.hid hf
    clear hf
    go_enter Try.func6, Try.ntmps6
    go_wp2_with (first
      | (go_at_call 8; refine (awake_any _).mono ?_; rintro e w' hr'; obtain ⟨rfl, s, rfl⟩ := hr'.over; clear hr')
      | (go_at_call 9; refine (few6 _ _ _ _ _ _ _ false (hid_no F.out)).mono ?_; rintro e w' hr'; obtain ⟨rfl, s1, rfl⟩ := hr'.over; clear hr'))
    go_ret
    exact Ret.mk (by repeat (first | exact ext_refl _ | apply ext_over | apply ext_alloc))
theorem planMore_any (p : Pl) (z : Int) (w : World) : Calls Try.prog 6 #[plV p, .int .i64 z] w (Ret (.bool true) w) := planMore6 p.n p.t p.r p.d p.b p.g z w
end Go.Proofs.Ytdbbbefkahmneaa
