/-
  What the calls of Run come to (G). Conditions: those of each theorem.
-/
import Derived.Test.YtpidmbclgfnekaaGreatGbn
import Derived.Laws.StructEq
import Derived.Deep.Cut
import Derived.ProofKit
import Derived.OpenShut
import Derived.Lib.SmallJoins
namespace Go.Proofs.YtpidmbclgfnekaaGreat
open Go Go.RowKit

structure RunN_G (lo hi : Nat) (L : Lay) (r : Int) (e : BitVec 64) (x : MS × Nat × Tr Gr) (m : Nat) (B : Nat) (w : World) (n : Nat) (t : Tr Gr) (M : MS) (v : Value) (F : Nat → Prop) (wr : World) : Prop where
  km : n ≤ m
  res : ∃ y, runT r e (m - n) t M = some y ∧ x = (y.1, y.2.1 + n, y.2.2)
  p : PT kG t F v wr
  bnd : Bnd F wr
  off : ∀ j, F j → (j < lo ∨ hi ≤ j) ∧ j ≠ B ∧ j ≠ B + 1 + 1
  mem : MemIn lo hi L M wr
  fr : Fr lo hi w wr
  box : ∃ (y0 y1 y2 : Int) (a : Acc) (fn : Value), v = .agg #[.int .i64 y0, .int .i64 y1, .int .i64 y2, .int .i64 a.op, .int .i64 a.at_, .int .u64 (U a.a), .int .u64 (U a.b), fn, .pointer none] ∧ (fn = .nilFunc ∨ ∃ g caps, fn = .func (.func g) #[] caps) ∧ wr.heap[B]? = some (.cells #[.int .i64 y0, .int .i64 y1, .int .i64 y2, .int .i64 a.op, .int .i64 a.at_, .int .u64 (U a.a), .int .u64 (U a.b), fn, .pointer none] 46)
  cap : wr.heap[B + 1]? = some (.cells #[.int .i64 r, .int .u64 (U e)] 49)
  rb : wr.heap[B + 1 + 1]? = some (.cells #[.int .i64 0, .int .i64 0, .int .i64 0] 37)
def RunL_G (lo hi : Nat) (L : Lay) (r : Int) (e : BitVec 64) (x : MS × Nat × Tr Gr) (m : Nat) (B : Nat) (w : World) (i : Value) (wr : World) : Prop :=
  ∃ (n : Nat) (t : Tr Gr) (M : MS) (v : Value) (F : Nat → Prop), i = .int .i64 (n : Int) ∧ RunN_G lo hi L r e x m B w n t M v F wr
set_option maxRecDepth 8000 in
set_option maxHeartbeats 4000000 in
theorem run_G {lo hi : Nat} {L : Lay} {M : MS} (t : Tr Gr) (F : Nat → Prop) (v : Value) (r : Int) (e : BitVec 64) (most : Int) (w : World) (x : MS × Nat × Tr Gr) (hmo : most ≤ 1099511627776) (hx : runT r e most.toNat t M = some x) (hP : PT kG t F v w) (hF : Bnd F w) (hO : ∀ j, F j → j < lo ∨ hi ≤ j) (hM : MemIn lo hi L M w) :
    Calls Tryz.prog 12 #[v, .pointer (some ⟨L.bm, 0, none⟩), .agg #[.int .i64 r, .int .u64 (U e)], .int .i64 most] w (RetR kG lo hi L x w) := by
  have HP := Lib.hid hP
  have HM := Lib.hid hM
  have hhi := hM.top
  obtain ⟨y0, y1, y2, a, fn, rfl, hfn⟩ := shG hP
  have HFN := Lib.hid hfn
  clear hfn hP hM
  have HI : Hid (RunN_G lo hi L r e x most.toNat w.heap.size w 0 t M (.agg #[.int .i64 y0, .int .i64 y1, .int .i64 y2, .int .i64 a.op, .int .i64 a.at_, .int .u64 (U a.a), .int .u64 (U a.b), fn, .pointer none]) F (((w.alloc (.cells #[.int .i64 y0, .int .i64 y1, .int .i64 y2, .int .i64 a.op, .int .i64 a.at_, .int .u64 (U a.a), .int .u64 (U a.b), fn, .pointer none] 46)).alloc (.cells #[.int .i64 r, .int .u64 (U e)] 49)).alloc (.cells #[.int .i64 0, .int .i64 0, .int .i64 0] 37))) := by
    refine Lib.hid ⟨Nat.zero_le _, ⟨x, hx, rfl⟩, ?_, ?_, fun j hj => ⟨hO j hj, fun h => by have := hF j hj; omega, fun h => by have := hF j hj; omega⟩, ?_, ?_, ⟨y0, y1, y2, a, fn, rfl, HFN.out, ?_⟩, ?_, ?_⟩
    · exact HP.out.agr (Agr.of_ext (by repeat (first | exact ext_refl _ | apply ext_alloc)) hF)
    · exact hF.ext (by simp; omega)
    · exact HM.out.ext (by repeat (first | exact ext_refl _ | apply ext_alloc))
    · exact .of_ext (by repeat (first | exact ext_refl _ | apply ext_alloc))
    · rw [Below.heap_alloc _ _ _ (by simp; omega), Below.heap_alloc _ _ _ (by simp)]
      exact heap_at w _ _ rfl
    · exact (Below.heap_alloc _ _ _ (by simp)).trans (heap_at _ _ _ (by simp))
    · exact heap_at _ _ _ (by simp)
  clear HP HM hF hO hx
  go_enter Tryz.func12, Tryz.ntmps12
  go_wp2
  go_loopw [11] (fun i wr => RunL_G lo hi L r e x most.toNat w.heap.size w i wr) (fun i _ => (most - intOf i).toNat)
  case atStart => exact ⟨0, _, _, _, _, rfl, HI.out⟩
  case round =>
    obtain ⟨n, t', M', v, F', rfl, hR⟩ := hrel
    have HR := Lib.hid hR
    obtain ⟨y0, y1, y2, a, fn, rfl, hfn1, hblk⟩ := hR.box
    have HFN1 := Lib.hid hfn1
    have HBK := Lib.hid hblk
    obtain ⟨c0, c1, c2, c3, c4, c5, c6, c7, c8, cz, ll⟩ := nin_of hblk
    have cp0 := cell_at (o := 0) hR.cap rfl
    have cp1 := cell_at (o := 1) hR.cap rfl
    have lp := heap_lt hR.cap
    have hsz := hR.fr.size
    have hkm := hR.km
    clear hR hfn1 hblk HI HFN
    by_cases hlt : (n : Int) < most
    · by_cases hst : Stays r e M' t'
      · have hE : x = (M', n, t') := by
          obtain ⟨y', h1, h2⟩ := HR.out.res
          rw [runT_stays hst] at h1
          cases h1
          simpa using h2
        have HE := Lib.hid hE
        have HST := Lib.hid hst
        clear hE hst
        obtain ⟨z0, z1, z2, hz1⟩ := ans_G t'
        have HZ1 := Lib.hid hz1
        clear hz1
        rcases HFN1.out with rfl | ⟨g', caps', rfl⟩
        all_goals
          go_wp2_with (first
            | (go_at_call 38; refine (stay_G t' F' _ r e _ HR.out.p HR.out.mem HST.out).mono ?_; rintro e1 w0 ⟨rfl, hx⟩; have HX := Lib.hid hx; clear hx; have c0 := ext_cell HX.out c0; have c1 := ext_cell HX.out c1; have c2 := ext_cell HX.out c2; have c3 := ext_cell HX.out c3; have c4 := ext_cell HX.out c4; have c5 := ext_cell HX.out c5; have c6 := ext_cell HX.out c6; have c7 := ext_cell HX.out c7; have c8 := ext_cell HX.out c8; have ll1 := Nat.lt_of_lt_of_le ll HX.out.size)
            | (go_at_call 39; refine (over_G t' F' _ _ (HR.out.p.agr (Agr.of_ext (ext_trans HX.out (by repeat (first | exact ext_refl _ | apply ext_alloc))) HR.out.bnd)) z0 z1 z2 _ HZ1 (Lib.hid rfl)).mono ?_; rintro e1 w1 ⟨rfl, hx⟩; replace hx := ext_trans (ext_trans HX.out (by repeat (first | exact ext_refl _ | apply ext_alloc))) hx; refine Hid.out ?_))
          refine Lib.hid ?_
          have hMZ := HR.out.mem.ext (by first | exact hx | exact ext_trans hx (by repeat (first | exact ext_refl _ | apply ext_alloc)))
          have hFZ := HR.out.fr.ext (by first | exact hx | exact ext_trans hx (by repeat (first | exact ext_refl _ | apply ext_alloc)))
          have hxe : Ext wr w1 := (by first | exact hx | exact ext_trans hx (by repeat (first | exact ext_refl _ | apply ext_alloc)))
          have hRB := (hxe.block _ (heap_lt HR.out.rb)).trans HR.out.rb
          have r0 := cell_at (o := 0) hRB rfl
          have r1 := cell_at (o := 1) hRB rfl
          have r2 := cell_at (o := 2) hRB rfl
          have rz : ∀ o, w1.frozen? ⟨w.heap.size + 1 + 1, o, none⟩ = false := fun _ => free_at hRB
          have rl := heap_lt hRB
          have hZ : ∀ o, RetR kG lo hi L x w (.returned (.tuple #[.agg #[.int .i64 z0, .int .i64 z1, .int .i64 z2], .int .i64 (n : Int), .bool (ovT t')])) ((put3 (w.heap.size + 1 + 1) (.int .i64 z0) (.int .i64 z1) (.int .i64 z2) w1).alloc o) := fun o => by
            rw [HE.out]
            exact ⟨by rw [← HZ1.out], (put3_mem _ _ _ hMZ (by omega)).alloc o, (put3_frNew _ _ _ hFZ (by omega)).alloc o⟩
          have hZB : ∀ o, ((put3 (w.heap.size + 1 + 1) (.int .i64 z0) (.int .i64 z1) (.int .i64 z2) w1).alloc o).heap[w.heap.size + 1 + 1]? = some (.cells #[.int .i64 z0, .int .i64 z1, .int .i64 z2] 37) := fun o => (Below.heap_alloc _ _ _ (by rw [put3_size]; exact rl)).trans (put3_block _ _ _ hRB)
          rw [put3] at hZ hZB
          have HZ := Lib.hid hZ
          have HZB := Lib.hid hZB
          clear hZ hZB hMZ hFZ hRB hx hxe
          go_wp2
          clear r0 r1 r2 rz rl c0 c1 c2 c3 c4 c5 c6 c7 c8 cz
          replace HZ := HZ.out (.cells #[.int .i64 z0, .int .i64 z1, .int .i64 z2] 37)
          replace HZB := HZB.out (.cells #[.int .i64 z0, .int .i64 z1, .int .i64 z2] 37)
          generalize (World.alloc _ (.cells #[.int .i64 z0, .int .i64 z1, .int .i64 z2] 37)) = Z at HZ HZB ⊢
          have r0 := cell_at (o := 0) HZB rfl
          have r1 := cell_at (o := 1) HZB rfl
          have r2 := cell_at (o := 2) HZB rfl
          exact bodyPost_ret (v := .tuple #[.agg #[.int .i64 z0, .int .i64 z1, .int .i64 z2], .int .i64 (n : Int), .bool (ovT t')]) (by simp [results, Tryz.results12, go_sem, r0, r1, r2]) rfl HZ

      · have hE : ∃ a f, t' = .ask a f ∧ DoOk M' r e a.op a.at_ := by
          obtain ⟨y', h1, h2⟩ := HR.out.res
          rw [show most.toNat - n = (most.toNat - (n + 1)) + 1 by omega] at h1
          cases t' with
          | done x => exact (hst trivial).elim
          | ask a f => exact ⟨a, f, rfl, by by_cases hd : DoOk M' r e a.op a.at_; exact hd; exact (hst hd).elim⟩
          | more => simp [runT] at h1
        obtain ⟨a3, f3, rfl, hd⟩ := hE
        have HD := Lib.hid hd
        obtain ⟨x3, hx3⟩ : ∃ x3, Hid (M'.wd r.toNat a3.at_.toNat = x3) := ⟨_, Lib.hid rfl⟩
        clear hd hst
        go_wp2_with (go_at_call 38; refine (stepA_G a3 f3 F' _ r e _ HR.out.p HR.out.bnd (fun j hj => (HR.out.off j hj).1) HR.out.mem HD.out x3 hx3).mono ?_; rintro e1 w1 ⟨v2, F2, rfl, hp, hbn, hsub, hm, hf⟩; refine Hid.out ?_)
        refine Lib.hid ?_
        have hs1 := hf.size
        have hB1 := (hf.block _ ll (.inr hhi)).trans HBK.out
        have hC1 := (hf.block _ lp (.inr (by omega))).trans HR.out.cap
        have hD1 := (hf.block _ (heap_lt HR.out.rb) (.inr (by omega))).trans HR.out.rb
        obtain ⟨y20, y21, y22, a2, fn2, rfl, hfn2⟩ := shG hp
        have HFN2 := Lib.hid hfn2
        clear c0 c1 c2 c3 c4 c5 c6 c7 c8 cz cp0 cp1 hfn2
        obtain ⟨c0, c1, c2, c3, c4, c5, c6, c7, c8, cz, ll1⟩ := nin_of hB1
        have HS : Hid (∀ o, RunN_G lo hi L r e x most.toNat w.heap.size w (n + 1) (f3 x3) (M'.done r a3.op a3.at_ a3.a a3.b) (.agg #[.int .i64 y20, .int .i64 y21, .int .i64 y22, .int .i64 a2.op, .int .i64 a2.at_, .int .u64 (U a2.a), .int .u64 (U a2.b), fn2, .pointer none]) F2 ((put9 w.heap.size (.int .i64 y20) (.int .i64 y21) (.int .i64 y22) (.int .i64 a2.op) (.int .i64 a2.at_) (.int .u64 (U a2.a)) (.int .u64 (U a2.b)) (fn2) (.pointer none) w1).alloc o)) := by
          refine Lib.hid fun o => ⟨by omega, ?_, ?_, ?_, ?_, ?_, ?_, ⟨y20, y21, y22, a2, fn2, rfl, HFN2.out, ?_⟩, ?_, ?_⟩
          · obtain ⟨y', h1, h2⟩ := HR.out.res
            rw [show most.toNat - n = (most.toNat - (n + 1)) + 1 by omega, runT, if_pos HD.out, hx3.out] at h1
            obtain ⟨y3, h3, h4⟩ := Option.map_eq_some_iff.1 h1
            subst h4
            exact ⟨y3, h3, by rw [h2]; simp; omega⟩
          · have hnB : ¬ F2 w.heap.size := fun h => by
              rcases hsub _ h with h | h
              · exact (HR.out.off _ h).2.1 rfl
              · omega
            exact (hp.agr (Agr.of_put9 _ _ _ _ _ _ _ _ _ hnB)).agr (Agr.of_ext (ext_alloc o (ext_refl _)) (hbn.ext (by rw [put9_size]; exact Nat.le_refl _)))
          · exact hbn.ext (by simp [put9_size])
          · intro j hj
            rcases hsub j hj with h | h
            · exact HR.out.off j h
            · have := heap_lt HR.out.rb
              exact ⟨.inr (by omega), by omega, by omega⟩
          · exact (put9_mem _ _ _ _ _ _ _ _ _ hm hhi).alloc o
          · exact (put9_frNew _ _ _ _ _ _ _ _ _ (HR.out.fr.trans hf) (Nat.le_refl _)).alloc o
          · exact (Below.heap_alloc _ _ _ (by rw [put9_size]; exact ll1)).trans (put9_block _ _ _ _ _ _ _ _ _ hB1)
          · rw [Below.heap_alloc _ _ _ (by rw [put9_size]; exact heap_lt hC1), put9_other _ _ _ _ _ _ _ _ _ (by omega)]
            exact hC1
          · rw [Below.heap_alloc _ _ _ (by rw [put9_size]; exact heap_lt hD1), put9_other _ _ _ _ _ _ _ _ _ (by omega)]
            exact hD1
        rw [put9] at HS
        clear hp hm hf hB1 hC1 hD1 HD hbn hsub
        rcases HFN2.out with rfl | ⟨g', caps', rfl⟩
        all_goals
          go_wp2
          exact ⟨⟨n + 1, _, _, _, _, by go_num, HS.out _⟩, by simp [intOf]; omega⟩
    · have hE : x = (M', n, t') := by
        obtain ⟨y', h1, h2⟩ := HR.out.res
        rw [show most.toNat - n = 0 by omega, runT] at h1
        cases h1
        simpa using h2
      have HE := Lib.hid hE
      clear hE
      obtain ⟨z0, z1, z2, hz1⟩ := ans_G t'
      have HZ1 := Lib.hid hz1
      clear hz1
      rcases HFN1.out with rfl | ⟨g', caps', rfl⟩
      all_goals
        go_wp2_with (go_at_call 39; refine (over_G t' F' _ _ HR.out.p z0 z1 z2 _ HZ1 (Lib.hid rfl)).mono ?_; rintro e1 w1 ⟨rfl, hx⟩; refine Hid.out ?_)
        refine Lib.hid ?_
        have hMZ := HR.out.mem.ext (by first | exact hx | exact ext_trans hx (by repeat (first | exact ext_refl _ | apply ext_alloc)))
        have hFZ := HR.out.fr.ext (by first | exact hx | exact ext_trans hx (by repeat (first | exact ext_refl _ | apply ext_alloc)))
        have hxe : Ext wr w1 := (by first | exact hx | exact ext_trans hx (by repeat (first | exact ext_refl _ | apply ext_alloc)))
        have hRB := (hxe.block _ (heap_lt HR.out.rb)).trans HR.out.rb
        have r0 := cell_at (o := 0) hRB rfl
        have r1 := cell_at (o := 1) hRB rfl
        have r2 := cell_at (o := 2) hRB rfl
        have rz : ∀ o, w1.frozen? ⟨w.heap.size + 1 + 1, o, none⟩ = false := fun _ => free_at hRB
        have rl := heap_lt hRB
        have hZ : ∀ o, RetR kG lo hi L x w (.returned (.tuple #[.agg #[.int .i64 z0, .int .i64 z1, .int .i64 z2], .int .i64 (n : Int), .bool (ovT t')])) ((put3 (w.heap.size + 1 + 1) (.int .i64 z0) (.int .i64 z1) (.int .i64 z2) w1).alloc o) := fun o => by
          rw [HE.out]
          exact ⟨by rw [← HZ1.out], (put3_mem _ _ _ hMZ (by omega)).alloc o, (put3_frNew _ _ _ hFZ (by omega)).alloc o⟩
        have hZB : ∀ o, ((put3 (w.heap.size + 1 + 1) (.int .i64 z0) (.int .i64 z1) (.int .i64 z2) w1).alloc o).heap[w.heap.size + 1 + 1]? = some (.cells #[.int .i64 z0, .int .i64 z1, .int .i64 z2] 37) := fun o => (Below.heap_alloc _ _ _ (by rw [put3_size]; exact rl)).trans (put3_block _ _ _ hRB)
        rw [put3] at hZ hZB
        have HZ := Lib.hid hZ
        have HZB := Lib.hid hZB
        clear hZ hZB hMZ hFZ hRB hx hxe
        go_wp2
        clear r0 r1 r2 rz rl c0 c1 c2 c3 c4 c5 c6 c7 c8 cz
        replace HZ := HZ.out (.cells #[.int .i64 z0, .int .i64 z1, .int .i64 z2] 37)
        replace HZB := HZB.out (.cells #[.int .i64 z0, .int .i64 z1, .int .i64 z2] 37)
        generalize (World.alloc _ (.cells #[.int .i64 z0, .int .i64 z1, .int .i64 z2] 37)) = Z at HZ HZB ⊢
        have r0 := cell_at (o := 0) HZB rfl
        have r1 := cell_at (o := 1) HZB rfl
        have r2 := cell_at (o := 2) HZB rfl
        exact bodyPost_ret (v := .tuple #[.agg #[.int .i64 z0, .int .i64 z1, .int .i64 z2], .int .i64 (n : Int), .bool (ovT t')]) (by simp [results, Tryz.results12, go_sem, r0, r1, r2]) rfl HZ

end Go.Proofs.YtpidmbclgfnekaaGreat

/-
  What the laws of alloc share: their awake and few, New's runs as calls, equality of grants, how many are free. Conditions: those of each theorem.
-/
namespace Go.Proofs.YtpidmbclgfnekaaGreat
open Go Go.RowKit

/-! Equality of grants. -/
instance grDec : DecidableEq Gr := fun x y => decidable_of_iff (x.n = y.n ∧ x.g = y.g ∧ x.e = y.e) (by cases x; cases y; simp)
theorem equalGr (x y : Gr) (w : World) (d : Nat) : (Op.equalIn (d + 1 + 1) 37 (grV x) (grV y)).run Tryz.prog w = .ok (decide (x = y)) w := by
  have h1 : Tryz.prog.underlying 37 = some (.struct (Tryz.prog.fieldsOf 37)) := by kernel_rfl
  have h2 : Tryz.prog.stoodInHeld 37 = false := by kernel_rfl
  rw [run_equalIn_struct w _ _ _ _ h1 h2]
  have h3 : ((Tryz.prog.fieldsOf 37).toList.map fun f => (f.offset, f.type, decide (f.name = "_"))) = [(0, 3, false), (1, 3, false), (2, 35, false)] := by kernel_rfl
  generalize (Tryz.prog.fieldsOf 37).toList = fs at h3 ⊢
  match fs, h3 with
  | [], h3 => simp at h3
  | [_], h3 => simp at h3
  | [_, _], h3 => simp at h3
  | _ :: _ :: _ :: _ :: _, h3 => simp at h3
  | [f0, f1, f2], h3 =>
    simp only [List.map_cons, List.map_nil, List.cons.injEq, Prod.mk.injEq, and_true, decide_eq_false_iff_not] at h3
    obtain ⟨⟨o0, t0, n0⟩, ⟨o1, t1, n1⟩, o2, t2, n2⟩ := h3
    simp only [Op.eqFields, o0, o1, o2, t0, t1, t2]
    have p0 : ∀ (a b c : Int) w, (part 3 #[.int .i64 a, .int .i64 b, .int .i64 c] 0).run Tryz.prog w = .ok (.int .i64 a) w := fun a b c w => by simp [part, go_sem]
    have p1 : ∀ (a b c : Int) w, (part 3 #[.int .i64 a, .int .i64 b, .int .i64 c] 1).run Tryz.prog w = .ok (.int .i64 b) w := fun a b c w => by simp [part, go_sem]
    have p2 : ∀ (a b c : Int) w, (part 35 #[.int .i64 a, .int .i64 b, .int .i64 c] 2).run Tryz.prog w = .ok (.int .i64 c) w := fun a b c w => by simp [part, go_sem]
    have q0 : ∀ a b w, (Op.equalIn (d + 1) 3 (.int .i64 a) (.int .i64 b)).run Tryz.prog w = .ok (a == b) w := fun a b w => run_equalIn_int w d _ _ _ _ _ Tryz.underlying3
    have q1 : ∀ a b w, (Op.equalIn (d + 1) 35 (.int .i64 a) (.int .i64 b)).run Tryz.prog w = .ok (a == b) w := fun a b w => run_equalIn_int w d _ _ _ _ _ Tryz.underlying35
    obtain ⟨a, b, c⟩ := x
    obtain ⟨a', b', c'⟩ := y
    dsimp only
    by_cases ha : a = a' <;> by_cases hb : b = b' <;> by_cases hc : c = c' <;> simp [n0, n1, n2, p0, p1, p2, q0, q1, ha, hb, hc, Gr.mk.injEq]
theorem eqGr (x y : Gr) (w : World) : (binOp .eql 37 (grV x) (grV y)).run Tryz.prog w = .ok (.bool (decide (x = y))) w := by
  rw [run_eql_struct, equalGr x y w 9998]
  rfl
theorem gdGr (op : BinOp) (x y : Operand) (xs ys : Array Value) (w : World) : (eqGuard op 37 x y (.agg xs) (.agg ys)).run Tryz.prog w = .ok () w := run_eqGuard_agg w op _ x y xs ys (by kernel_rfl)
theorem neGr (x y : Gr) (w : World) : (binOp .neq 37 (grV x) (grV y)).run Tryz.prog w = .ok (.bool (!decide (x = y))) w := by
  rw [run_neq_struct, equalGr x y w 9998]
  rfl

/-! Runs. -/
def RetRG (lo hi : Nat) (L : Lay) (M' : MS) (k : Nat) (x : Gr) (w : World) (e : Ending) (w' : World) : Prop :=
  e = .returned (.tuple #[.agg #[.int .i64 x.n, .int .i64 x.g, .int .i64 x.e], .int .i64 (k : Int), .bool true]) ∧ MemIn lo hi L M' w' ∧ Fr lo hi w w'
theorem runG_any {lo hi : Nat} {L : Lay} {M M' : MS} {t : Tr Gr} {k : Nat} {x : Gr} (hR : Runs t M k M' x) (most : Int) (hk : (k : Int) ≤ most) (hmo : most ≤ 1099511627776) (F : Nat → Prop) (v : Value) (w : World) (hP : PT kG t F v w) (hF : Bnd F w) (hO : ∀ j, F j → j < lo ∨ hi ≤ j) (hM : MemIn lo hi L M w) :
    Calls Tryz.prog 12 #[v, .pointer (some ⟨L.bm, 0, none⟩), .agg #[.int .i64 0, .int .u64 (U 1#64)], .int .i64 most] w (RetRG lo hi L M' k x w) :=
  (run_G t F v 0 1#64 most w _ hmo (hR.run (by omega)) hP hF hO hM).mono fun _ _ h => h
/-! How many are free. -/
set_option maxRecDepth 8000 in
set_option maxHeartbeats 2000000 in
theorem afree_any {lo hi : Nat} {L : Lay} {M : MS} {w : World} (p : Pl) (hp : p.ok) (l : List Int) (T : Nat) (hL : FL p M l T) (hM : MemIn lo hi L M w) :
    Calls Tryz.prog 25 #[plV p, .pointer (some ⟨L.bm, 0, none⟩), .int .i64 0] w (Ret (.int .i64 l.length) w) := by
  have HL := Lib.hid hL
  have HM := Lib.hid (hM.ext (ext_alloc (.cells #[.int .i64 p.n, .int .i64 p.t, .int .i64 p.r, .int .i64 p.d, .int .i64 p.b, .int .i64 p.g] 23) (ext_refl w)))
  clear hL hM
  go_enter Tryz.func25, Tryz.ntmps25
  go_wp2_with (go_at_call 23; refine (flist_any p hp l T HL.out HM.out).mono ?_; rintro e w1 ⟨v, rfl, hv, hx⟩; have HX := Lib.hid (ext_trans (ext_alloc _ (ext_refl w)) hx); obtain ⟨va, vc, rfl⟩ := hv.slice; clear hv hx)
  go_ret
  exact Ret.mk HX.out
/-! A fresh memory. -/
theorem word0 : St.word ⟨0, 0, 0⟩ = 0#64 := by
  unfold St.word
  rw [if_pos (by unfold St.ok; decide)]
  rfl
theorem AIn.fresh {p : Pl} (hp : p.ok) {M : MS} (hF : FL p M (rfr p.n.toNat 0) 0) (hz : Zer p M) {t : Int} (h0 : 0 ≤ t) (h1 : t < p.t) : AIn p t M (rfr p.n.toNat 0) [] 0 (fun _ => ⟨0, 0, 0⟩) (fun _ => 0#64) := by
  refine ⟨hF, low_rts hp (zer_low hp hz) h0 h1, by simpa using hF.nd, fun n hn => ?_, fun _ _ => by unfold St.ok; decide, fun i hi => low_hz hp (zer_low hp hz) hi⟩
  rw [word0]
  exact hz _ (sd_ne hp hn hn).1 fun m hm => (sd_ne hp hn hm).2.1
/-! A law's midst with boxes of its own. -/
structure HBs (p : Pl) (lo hi : Nat) (L : Lay) (B : Nat) (w0 : World) (bs : List (Nat × Obj)) (M : MS) (wr : World) : Prop where
  m : MemIn lo hi L M wr
  mg : Mg p M
  ex : Ext w0 wr
  pb : PBox B p wr
  bx : ∀ x ∈ bs, (hi ≤ x.1 ∧ w0.heap.size ≤ x.1) ∧ wr.heap[x.1]? = some x.2
section
variable {p : Pl} {lo hi : Nat} {L : Lay} {B : Nat} {w0 : World} {bs : List (Nat × Obj)} {M M' : MS} {wr wr' : World}
theorem HBs.of (h : HIn p lo hi L B w0 M wr) : HBs p lo hi L B w0 [] M wr := ⟨h.m, h.mg, h.ex, h.pb, fun _ hx => by simp at hx⟩
theorem HBs.hin (h : HBs p lo hi L B w0 bs M wr) : HIn p lo hi L B w0 M wr := ⟨h.m, h.mg, h.ex, h.pb⟩
theorem HBs.ext (h : HBs p lo hi L B w0 bs M wr) (hx : Ext wr wr') : HBs p lo hi L B w0 bs M wr' := ⟨h.m.ext hx, h.mg, ext_trans h.ex hx, h.pb.ext hx, fun x hb => ⟨(h.bx x hb).1, (hx.block _ (heap_lt (h.bx x hb).2)).trans (h.bx x hb).2⟩⟩
theorem HBs.ran (h : HBs p lo hi L B w0 bs M wr) (hm : MemIn lo hi L M' wr') (hf : Fr lo hi wr wr') (hG : Mg p M') (h1 : w0.heap.size ≤ lo) (h2 : B < lo) : HBs p lo hi L B w0 bs M' wr' :=
  ⟨hm, hG, hf.below h.ex h1, (hf.block _ (heap_lt h.pb) (.inl h2)).trans h.pb, fun x hb => ⟨(h.bx x hb).1, (hf.block _ (heap_lt (h.bx x hb).2) (.inr (h.bx x hb).1.1)).trans (h.bx x hb).2⟩⟩
theorem HBs.new (h : HBs p lo hi L B w0 bs M wr) (o : Obj) : HBs p lo hi L B w0 ((wr.heap.size, o) :: bs) M (wr.alloc o) := by
  have h1 := h.ext (ext_alloc o (ext_refl wr))
  refine ⟨h1.m, h1.mg, h1.ex, h1.pb, fun x hx => ?_⟩
  rcases List.mem_cons.1 hx with rfl | hx
  · exact ⟨⟨h.m.top, h.ex.size⟩, heap_at wr o _ rfl⟩
  · exact h1.bx x hx
end
set_option maxRecDepth 8000 in
set_option maxHeartbeats 4000000 in
theorem r12few_any (p : Pl) (w : World) (r : Bool) (hr : Hid (r = true ↔ (p.few ∧ p.ok))) : Calls Tryz.prog 9 #[plV p] w (Ret (.bool r) w) := by
  by_cases hf : p.few
  · have HF := Lib.hid hf
    by_cases hp : p.ok
    · obtain rfl : r = true := hr.out.2 ⟨hf, hp⟩
      have HP := Lib.hid hp
      clear hf hp hr
      go_enter Tryz.func9, Tryz.ntmps9
      go_wp2_with (first
        | (go_at_call 33; refine (few_any p _ true (hid_yes HF.out)).mono ?_; rintro e w' hr; obtain ⟨rfl, s1, rfl⟩ := hr.over; clear hr)
        | (go_at_call 34; refine (rformed_any p _ true (hid_yes HP.out)).mono ?_; rintro e w' hr; obtain ⟨rfl, s2, rfl⟩ := hr.over; clear hr))
      go_ret
      exact Ret.bool (by first | rfl | simp) (by repeat (first | exact ext_refl _ | apply ext_over | apply ext_alloc))
    · obtain rfl : r = false := Bool.eq_false_iff.2 fun h => hp (hr.out.1 h).2
      have HP := Lib.hid hp
      clear hf hp hr
      go_enter Tryz.func9, Tryz.ntmps9
      go_wp2_with (first
        | (go_at_call 33; refine (few_any p _ true (hid_yes HF.out)).mono ?_; rintro e w' hr; obtain ⟨rfl, s1, rfl⟩ := hr.over; clear hr)
        | (go_at_call 34; refine (rformed_any p _ false (hid_no HP.out)).mono ?_; rintro e w' hr; obtain ⟨rfl, s2, rfl⟩ := hr.over; clear hr))
      go_ret
      exact Ret.bool (by first | rfl | simp) (by repeat (first | exact ext_refl _ | apply ext_over | apply ext_alloc))
  · obtain rfl : r = false := Bool.eq_false_iff.2 fun h => hf (hr.out.1 h).1
    have HF := Lib.hid hf
    clear hf hr
    go_enter Tryz.func9, Tryz.ntmps9
    go_wp2_with (go_at_call 33; refine (few_any p _ false (hid_no HF.out)).mono ?_; rintro e w' hr; obtain ⟨rfl, s1, rfl⟩ := hr.over; clear hr)
    go_ret
    exact Ret.bool (by first | rfl | simp) (by repeat (first | exact ext_refl _ | apply ext_over | apply ext_alloc))

set_option maxRecDepth 8000 in
set_option maxHeartbeats 4000000 in
theorem r12wake_any (w : World) : Calls Tryz.prog 8 #[] w (Ret (.bool true) w) := by
  have hL := fun W => laidZ_any ⟨2, 1, 4, 0, 1, 1⟩ p2ok W
  have HL := Lib.hid hL
  have hS := fun W => new_PT ⟨2, 1, 4, 0, 1, 1⟩ 0 0 2 W p2ok (by omega)
  have HS := Lib.hid hS
  clear hL hS
  go_enter Tryz.func8, Tryz.ntmps8
  go_wp2_with (go_at_call 10; refine Hid.out ?_)
  refine Lib.hid ?_
  refine (HL.out _).mono ?_
  rintro e w1 ⟨lo, hi, L, M, rfl, hM, hF, hx, hlo⟩
  have hb0 : PBox w.heap.size ⟨2, 1, 4, 0, 1, 1⟩ w1 := (hx.block _ (by simp)).trans (heap_at w _ _ rfl)
  have hlo1 : w.heap.size < lo := by simp at hlo; omega
  have hhi := hM.top
  have HI := Lib.hid (HIn.mk hM hF.1.mg (ext_trans (ext_alloc _ (ext_refl w)) hx) hb0)
  have hA := AIn.fresh p2ok hF.1 hF.2 (t := 0) (by omega) (show (0 : Int) < 1 by omega)
  have ef : rfr (Pl.n ⟨2, 1, 4, 0, 1, 1⟩).toNat 0 = [0, 1] := rfl
  rw [ef] at hA
  obtain ⟨M1, r1, a1⟩ := new_take p2ok (by omega) (show (0 : Int) < 1 by omega) hA (by omega) (kd := 0) (by omega) 0
  have HR1 := Lib.hid r1
  have HG1 := Lib.hid a1.fl
  clear hM hF hx hb0 hlo HL hA r1 a1
  have ⟨c0, c1, c2, c3, c4, c5, lt⟩ := HI.out.pb.plc
  go_wp2_with (go_at_call 13; refine (HS.out _).mono ?_; rintro e w2 ⟨v1, F1, rfl, hx2, hp1, hbn1, hsub1⟩; refine Hid.out ?_)
  refine Lib.hid ?_
  have HOF1 := Lib.hid (fun j (hj : F1 j) => (hsub1 j hj).elim (fun h => h.elim) fun h => (.inr (Nat.le_trans HI.out.m.top h) : j < lo ∨ hi ≤ j))
  have HI2 := Lib.hid (HI.out.ext hx2)
  have HP1 := Lib.hid hp1
  have HBN1 := Lib.hid hbn1
  clear hx2 hp1 hbn1 hsub1
  go_wp2_with (go_at_call 14; refine (cap_int HI2.out.m 0 1#64 (by omega) (by rw [HI2.out.mg.n]; omega) (Lib.hid HI2.out.mg.e)).mono ?_; rintro e w3 ⟨rfl, hx3⟩; refine Hid.out ?_)
  refine Lib.hid ?_
  have HI3 := Lib.hid (HI2.out.ext hx3)
  replace HP1 := Lib.hid (HP1.out.agr (Agr.of_ext hx3 HBN1.out))
  replace HBN1 := Lib.hid (HBN1.out.ext hx3.size)
  clear hx3
  go_wp2_with (go_at_call 12; refine (runG_any HR1.out 9 (by omega) (by omega) F1 v1 w3 HP1.out HBN1.out HOF1.out HI3.out.m).mono ?_; rintro e w4 ⟨rfl, hm4, hf4⟩; refine Hid.out ?_)
  refine Lib.hid ?_
  have HI4 := Lib.hid (HI3.out.ran hm4 hf4 HG1.out.mg (by omega) hlo1)
  clear hm4 hf4 HP1 HBN1 HOF1 HI HI2 HI3 c0 c1 c2 c3 c4 c5 lt HR1
  have ⟨c0, c1, c2, c3, c4, c5, lt⟩ := HI4.out.pb.plc
  go_wp2_with (go_at_call 25; refine (afree_any ⟨2, 1, 4, 0, 1, 1⟩ p2ok _ _ HG1.out (HI4.out.m.ext (ext_alloc _ (ext_refl _)))).mono ?_; rintro e w5 ⟨rfl, hx⟩; have HX5 := Lib.hid (ext_trans (ext_trans HI4.out.ex (ext_alloc _ (ext_refl _))) hx); clear hx)
  go_ret
  exact Ret.mk HX5.out
end Go.Proofs.YtpidmbclgfnekaaGreat

/-
  A law's row, once for all: whoever shows that the call returns true and turns nothing old has the row's post; the arguments read as they did. Conditions: the row names no variable; its result is one bool; its parameters' types can be read.
-/
namespace Go.Proofs.YtpidmbclgfnekaaGreat
open Go Go.ChangeShapes Go.WideShapes Go.ChangeAt Go.RowKit Go.Joins

section
variable {H : Type} {enc : TypeId × Value → H} {P : Program}

/-- What reads in W reads in W' likewise, argument by argument. -/
theorem trodAll_below (hl : laidOutB P = true) {W W' : World} (hb : Below W.heap.size W W') :
    ∀ (ts : List TypeId) (vs : List Value) (ds : List (DataW H)) (ps : List MemPlace), (∀ t ∈ ts, P.readableRec t = true ∧ t < P.types.size) → (∀ x ∈ ps, x.block < W.heap.size) →
      DataW.TrodAll enc P W 0 (fun _ => true) true ts vs ds ps → DataW.TrodAll enc P W' 0 (fun b => decide (b < W.heap.size)) true ts vs ds ps
  | [], vs, ds, ps, _, _, h => by
    obtain ⟨rfl, rfl, rfl⟩ := trodAll_nil h
    exact trodAll_mk0
  | t :: ts, vs, ds, ps, hr, hlt, h => by
    obtain ⟨v, vs', d, ds', p, q, rfl, rfl, rfl, h1, h2⟩ := trodAll_cons h
    exact trodAll_cons_mk (Below.trod hl (hr t (by simp)).1 (hr t (by simp)).2 h1 hb (fun x hx => hlt x (List.mem_append.2 (.inl hx))))
      (trodAll_below hl hb ts vs' ds' q (fun t' ht => hr t' (by simp [ht])) (fun x hx => hlt x (List.mem_append.2 (.inr hx))) h2)

/-- The post of a law's row. -/
theorem law_post {f : Func} {s : ChangeSpec} {apart : Bool} {tb : TypeId} {W W' : World} {args : Array Value} {ds gs : List (DataW H)} {before : List MemPlace}
    (hl : laidOutB P = true) (hr : (f.params.toList.all fun t => P.readableRec t && decide (t < P.types.size)) = true) (hvars : s.vars = []) (hrt : f.resultTypes = #[tb]) (hub : P.underlying tb = some .bool)
    (hW : DataW.Whole enc P f.params.toList s.vars apart W args.toList ds gs before) (hspec : s.fn H (ds ++ gs) = { results := [.lit (.bool true)], args := ds })
    (hb : Below W.heap.size W W') : s.post enc P f apart true false false W args (.bool true) W' := by
  have hr' : ∀ t ∈ f.params.toList, P.readableRec t = true ∧ t < P.types.size := fun t ht => by simpa using List.all_eq_true.1 hr t ht
  have hlt := hW.lt
  have hW2 := hW
  obtain ⟨p, q, hA, hV, rfl, _, _⟩ := hW2
  rw [hvars] at hV
  obtain ⟨rfl, rfl⟩ := trodVars_none hV
  refine ⟨ds, [], p ++ [], [], p, [], hW, ?_, ?_, ?_, hb.frame _, fun h => by cases h⟩
  · rw [hspec, hrt]
    exact trodAll_mk1 (shut_bool hub true)
  · rw [hspec]
    exact trodAll_below hl hb _ _ _ _ hr' (fun x hx => hlt x (List.mem_append.2 (.inl hx))) hA
  · rw [hspec, hvars]
    rfl
end
end Go.Proofs.YtpidmbclgfnekaaGreat
