/-
  A pick of a thread of the law FreeMany: it begins a Pop. Conditions: those of each theorem.
-/
import Derived.Test.YtpidmbclgfnekaaGat
import Derived.Deep.Cut
namespace Go.Proofs.Ytpidmbclgfnekaa
open Go Go.RowKit

set_option maxRecDepth 8000 in
set_option maxHeartbeats 4000000 in
theorem pick_newPop {p : Pl} {lo hi base B K : Nat} {L : Lay} {M : MS} {l : List Int} {T : Nat} {us vs : List TS} {t : TS} {F : Nat → Prop} {vp vm : Value} {y : Int} {a : Acc} {fn : Value} {w : World} (hp : p.ok) (hps : Bs w vp t.ps) (h : TIn p lo hi base B t F vp vm y a fn w) (hM : MemIn lo hi L M w) (hG : GIn p M l T (us ++ t :: vs)) (hT : T < 8796093022207) (hB : hi ≤ B) (hBb : B < base) (hbs : base ≤ w.heap.size) (hK8 : (t.at_ : Int) ≤ 1000000) (hb : t.busy = false) (hl : t.at_ < t.ps.length) (hpv : bN t.ps t.at_ = true) : Calls Try.prog 8 #[.pointer (some ⟨B, 0, none⟩), plV p, .pointer (some ⟨L.bm, 0, none⟩)] w (RetPk p lo hi base B K L M T us vs t F vp vm w) := by
  obtain ⟨M', l', T', N', s', hnx, hto, hmu, hgin⟩ := g_pop hp (g_begun (K := K + 1) hG hl true .pl (.inl ⟨rfl, rfl⟩)) hT rfl rfl (N := K) rfl
  have HST := Lib.hid hnx.st
  have HFL := Lib.hid hnx.fl
  have HTO := Lib.hid hto
  have HGN := Lib.hid hgin
  have HMU := Lib.hid (Nat.lt_of_lt_of_le (TS.mu_popped (t := (t.begun (K + 1) true .pl)) (N' := N') rfl hmu) (TS.mu_begun (M := M) hb hl (Nat.le_refl 3)))
  have hT0 := Lib.hid hnx.T0
  have hN0 : K ≤ N' := by have h5 : K + 1 ≤ N' + 1 := hnx.N0; omega
  have HLR := Lib.hid hG.fl.rg
  have hpn := hp.1
  clear hnx hto hmu hgin
  have HMI := Lib.hid hM.mIn
  have hgl0 : ∀ j, vm.ownBlock = some j → base ≤ j ∧ j < w.heap.size := fun j hj => by obtain ⟨h1, cur, h2⟩ := h.row.own hj; exact ⟨h1, heap_lt h2⟩
  have HTI := Lib.hid h
  have HG := Lib.hid hG
  have HP := Lib.hid hp
  have hbo : (Value.bool t.busy) = .bool false := by rw [hb]
  have hE := ext_alloc (.cells #[.int .i64 p.n, .int .i64 p.t, .int .i64 p.r, .int .i64 p.d, .int .i64 p.b, .int .i64 p.g] 23) (ext_refl w)
  have HI : Hid (KIn p lo hi L w.heap.size B vm.ownBlock w M (w.alloc (.cells #[.int .i64 p.n, .int .i64 p.t, .int .i64 p.r, .int .i64 p.d, .int .i64 p.b, .int .i64 p.g] 23))) := Lib.hid ⟨hM.ext hE, hG.fl.mg, (FrP.refl lo hi B vm.ownBlock w).ext hE, heap_at w _ _ rfl⟩
  have HT0 := h.blk.ext hE
  rw [hb] at HT0
  have HT := Lib.hid HT0
  have HR := Lib.hid (h.row.ext hE)
  have HPS := Lib.hid (hps.ext hE)
  have hwl : w.heap.size < (w.alloc (.cells #[.int .i64 p.n, .int .i64 p.t, .int .i64 p.r, .int .i64 p.d, .int .i64 p.b, .int .i64 p.g] 23)).heap.size := by simp
  have hBl : B < w.heap.size := h.blk.lt
  have hnbv := Lib.hid h.nb
  obtain ⟨pa, pc, hvp, _, _⟩ := id hps
  obtain ⟨ra, rc, hvm⟩ := h.row.slice
  have hml : (t.mine.length : Int) ≤ 1048576 := by
    have h1 := nodup_le (by have := hp.1; omega) (List.nodup_append.1 (by have h2 := hG.nd; rw [flat_mid] at h2; exact (List.nodup_append.1 (List.nodup_append.1 h2).2.1).2.1)).1 (hG.ok t (by simp)).rg
    have := hp.1
    omega
  subst hvp hvm
  clear HT0 hE hG hM hp hps
  go_enter Try.func8, Try.ntmps8
  have dd2 : w.cell? ⟨B, 2, none⟩ = some (.bool false) := by rw [← hb]; exact h.blk.cs.c2
  have hBw : B ≠ w.heap.size := by omega
  have hBw2 : w.heap.size ≠ B := by omega
  clear h
  go_upto_region 1 with (fail)
  generalize w.alloc (.cells #[.int .i64 p.n, .int .i64 p.t, .int .i64 p.r, .int .i64 p.d, .int .i64 p.b, .int .i64 p.g] 23) = W at HI HT HR HPS hwl ⊢
  have ⟨c0, c1, c2, c3, c4, c5, c6, c7, c8, c9, c10, c11, cz, cl⟩ := HT.out.cs
  have hltI : (t.at_ : Int) < (t.ps.length : Int) := by omega
  have dlt : decide ((t.ps.length : Int) ≤ (t.at_ : Int)) = false := by simp; omega
  go_wp2
  refine wp_region_over (by kernel_rfl) (by kernel_rfl) ?_
  repeat (go_big_quiet_step (fail))
  refine wpQuiet_nil ?_
  intro _ hw'
  obtain ⟨s1, hw''⟩ := hw'
  subst hw''
  have hxo := over_below W s1
  replace HI := Lib.hid (HI.out.ext hxo)
  replace HT := Lib.hid (HT.out.ext hxo)
  replace HR := Lib.hid (HR.out.ext hxo)
  replace HPS := Lib.hid (HPS.out.ext hxo)
  replace hwl := Nat.lt_of_lt_of_le hwl hxo.size
  clear hxo c0 c1 c2 c3 c4 c5 c6 c7 c8 c9 c10 c11 cz cl
  generalize over W s1 = W at HI HT HR HPS hwl ⊢
  have ⟨c0, c1, c2, c3, c4, c5, c6, c7, c8, c9, c10, c11, cz, cl⟩ := HT.out.cs
  obtain ⟨bb, ofs, rfl, hbl, hps0⟩ := HPS.out.at hl
  rw [hpv] at hps0
  go_wp2
  refine wp_region_mix (fun w' => ∃ s, w' = over W s) [(0, [0, 1, 2, 3, 4, 5, 6, 7, 8, 9, 10, 11, 12]), (2, [13])] (by kernel_rfl) (by kernel_rfl) (over_of (ext_drew (ext_refl W))) ?_
  simp only [pieces, pickL, List.map_cons, List.map_nil, List.getD_cons_zero, List.getD_cons_succ]
  refine mix_reads ?_
  repeat (go_big_quiet_step (fail))
  refine wpQuiet_nil (mix_late ?_)
  have hxd := ext_drew (ext_refl W)
  have HY := Lib.hid (And.intro ((HT.out.s3 (.bool true)).ext (ext_drew (ext_refl _))) (And.intro ((HI.out.set 3 (.bool true) hB hBw2).ext (ext_drew (ext_refl _))) ((HR.out.setB 3 (.bool true) hnbv.out).ext (ext_drew (ext_refl _)))))
  have ⟨d0, d1, d2, d3, d4, d5, d6, d7, d8, d9, d10, d11, dz, dl⟩ := (HT.out.ext hxd).cs
  clear hxd HT HI HR HPS hps0 hbl c0 c1 c2 c3 c4 c5 c6 c7 c8 c9 c10 c11 cz cl
  go_wp2
  refine lateQ_mk (fun _ => True) trivial (mix_end ?_)
  obtain ⟨hT9, hI9, hR9⟩ := HY.out
  clear HY d0 d1 d2 d3 d4 d5 d6 d7 d8 d9 d10 d11 dz dl
  generalize (World.drew (World.setCell _ (⟨B, 3, none⟩ : Addr) _)) = V at hT9 hI9 hR9 ⊢
  have HY := Lib.hid (And.intro (hT9.s1 (.int .i64 ((t.at_ : Int) + 1))) (And.intro (hI9.set 1 (.int .i64 ((t.at_ : Int) + 1)) hB hBw2) (hR9.setB 1 (.int .i64 ((t.at_ : Int) + 1)) hnbv.out)))
  have ⟨d0, d1, d2, d3, d4, d5, d6, d7, d8, d9, d10, d11, dz, dl⟩ := hT9.cs
  clear hT9 hI9 hR9
  go_upto_region 6 with (fail)
  obtain ⟨hT9, hI9, hR9⟩ := HY.out
  clear HY d0 d1 d2 d3 d4 d5 d6 d7 d8 d9 d10 d11 dz dl
  generalize (World.setCell _ (⟨B, 1, none⟩ : Addr) _) = V1 at hT9 hI9 hR9 ⊢
  have ⟨c0, c1, c2, c3, c4, c5, c6, c7, c8, c9, c10, c11, cz, cl⟩ := hT9.cs
  go_upto_region 8 with (fail)
  clear c0 c1 c2 c3 c4 c5 c6 c7 c8 c9 c10 c11 cz cl
  have HY := Lib.hid (And.intro (hT9.s2 (.bool true)) (And.intro (hI9.set 2 (.bool true) hB hBw2) (hR9.setB 2 (.bool true) hnbv.out)))
  have ⟨d0, d1, d2, d3, d4, d5, d6, d7, d8, d9, d10, d11, dz, dl⟩ := hT9.cs
  clear hT9 hI9 hR9
  go_upto_region 9 with (fail)
  obtain ⟨hT9, hI9, hR9⟩ := HY.out
  clear HY d0 d1 d2 d3 d4 d5 d6 d7 d8 d9 d10 d11 dz dl
  generalize (World.setCell _ (⟨B, 2, none⟩ : Addr) _) = V2 at hT9 hI9 hR9 ⊢
  have ⟨c0, c1, c2, c3, c4, c5, c6, c7, c8, c9, c10, c11, cz, cl⟩ := hT9.cs
  have ⟨z0, z1, z2, z3, z4, z5, zlt⟩ := hI9.pb.plc
  replace hT9 := Lib.hid hT9
  replace hI9 := Lib.hid hI9
  replace hR9 := Lib.hid hR9
  go_wp2_with (go_at_call 17; refine (pop_PT p (K + 2) _).mono ?_; rintro e V3 ⟨v1, F1, rfl, hx, hp1, hbn1, hsub1⟩; refine Hid.out ?_)
  refine Lib.hid ?_
  obtain ⟨y1, a1, fn1, rfl, hfn1⟩ := shI hp1
  have HFN1 := Lib.hid hfn1
  have hsz3 : w.heap.size ≤ V3.heap.size := Nat.le_trans hI9.out.fr.size hx.size
  have hnew1 : ∀ j, F1 j → w.heap.size < j + 1 := fun j hj => by have h5 := (hsub1 j hj).resolve_left (fun h => h.elim); have h6 := hI9.out.fr.size; omega
  have hnB1 : ¬ F1 B := fun h => by have := hnew1 _ h; omega
  have hT3 := (hT9.out.ext hx).sP (.int .i64 y1) (.int .i64 a1.op) (.int .i64 a1.at_) (.int .u64 (U a1.a)) (.int .u64 (U a1.b)) fn1 (.pointer none)
  have hI3 := (hI9.out.ext hx).put7o 4 (.int .i64 y1) (.int .i64 a1.op) (.int .i64 a1.at_) (.int .u64 (U a1.a)) (.int .u64 (U a1.b)) fn1 (.pointer none) hB hBw2
  have hR3 := (hR9.out.ext hx).put7o 4 (.int .i64 y1) (.int .i64 a1.op) (.int .i64 a1.at_) (.int .u64 (U a1.a)) (.int .u64 (U a1.b)) fn1 (.pointer none) hnbv.out
  have hP3 := hp1.agr (fun j hj => put7o_other (b := B) (o := 4) (w := V3) (.int .i64 y1) (.int .i64 a1.op) (.int .i64 a1.at_) (.int .u64 (U a1.a)) (.int .u64 (U a1.b)) fn1 (.pointer none) (fun e => hnB1 (e ▸ hj)))
  have hN3 : Bnd F1 (put7o B 4 (.int .i64 y1) (.int .i64 a1.op) (.int .i64 a1.at_) (.int .u64 (U a1.a)) (.int .u64 (U a1.b)) fn1 (.pointer none) V3) := hbn1.ext (by rw [put7o_size]; exact Nat.le_refl _)
  have hO3 : ∀ j, F1 j → (j < lo ∨ hi ≤ j) ∧ j ≠ B ∧ (Value.slice ra t.mine.length rc).ownBlock ≠ Option.some j := fun j hj => ⟨.inr (by have := hnew1 j hj; omega), fun e => hnB1 (e ▸ hj), fun e => by have := hgl0 _ e; have := hnew1 j hj; omega⟩
  have HSN := Lib.hid hnew1
  have ⟨d0, d1, d2, d3, d4, d5, d6, d7, d8, d9, d10, d11, dz, dl⟩ := (hT9.out.ext hx).cs
  simp only [put7o, Nat.reduceAdd] at hT3 hI3 hR3 hP3 hN3
  have HY := Lib.hid (And.intro hT3 (And.intro hI3 (And.intro hR3 (And.intro hP3 (And.intro hN3 hO3)))))
  have hsf := store_fn hfn1
  clear hT3 hI3 hR3 hP3 hN3 hO3 hx hp1 hbn1 hsub1 hfn1 hsz3 hnew1 hnB1 hT9 hI9 hR9 z0 z1 z2 z3 z4 z5 zlt c0 c1 c2 c3 c4 c5 c6 c7 c8 c9 c10 c11 cz cl
  go_upto_region 12 with (fail)
  obtain ⟨hT9, hI9, hR9, hQ9, hN9, hO9⟩ := HY.out
  clear HY hsf d0 d1 d2 d3 d4 d5 d6 d7 d8 d9 d10 d11 dz dl
  generalize (World.setCell _ (⟨B, 10, none⟩ : Addr) _) = W at hT9 hI9 hR9 hQ9 hN9 ⊢
  have HT := Lib.hid hT9
  have HI0 := Lib.hid hI9
  have HR := Lib.hid hR9
  have HQ0 : Hid (QI9 lo hi B (Value.slice ra t.mine.length rc).ownBlock (trT p (K + 1) .pl) F1 _ W) := Lib.hid ⟨hQ9, hN9, hO9⟩
  clear hT9 hI9 hR9 hQ9 hN9 hO9 hwl
  have hwl : w.heap.size < W.heap.size := heap_lt HI0.out.pb
  have ⟨c0, c1, c2, c3, c4, c5, c6, c7, c8, c9, c10, c11, cz, cl⟩ := HT.out.cs
  go_wp2
  refine wp_region_ways (fun x => ∃ s, x = off lo hi W s) (by kernel_rfl) (off_of ((Fr.refl lo hi W).drew)) ?_
  refine ways_reads [0, 1, 2, 3, 4, 5] (by kernel_rfl) ?_
  simp only [pickL, List.map_cons, List.map_nil, List.getD_cons_zero, List.getD_cons_succ]
  repeat (go_big_quiet_step (fail))
  refine wpQuiet_nil ?_
  have HZ := Lib.hid ((Fr.refl lo hi W).drew)
  have HI := Lib.hid (HI0.out.ext (ext_drew (ext_refl W)))
  have HQ := Lib.hid (HQ0.out.ext (ext_drew (ext_refl W)))
  have HQF := Lib.hid HQ0.out.bn
  replace HT := Lib.hid (HT.out.ext (ext_drew (ext_refl W)))
  replace HR := Lib.hid (HR.out.ext (ext_drew (ext_refl W)))
  have hsx : W.heap.size ≤ W.drew.heap.size := Nat.le_refl _
  have hwtop := HI0.out.m.top
  clear HI0 HQ0 c0 c1 c2 c3 c4 c5 c6 c7 c8 c9 c10 c11 cz cl
  generalize W.drew = X at HZ HI HQ hsx HT HR ⊢
  refine ways_fork 11 (by kernel_rfl) ?_ (ways_act 6 (by kernel_rfl) ?_)
  · simp only [pickL, List.map_cons, List.map_nil, List.getD_cons_zero, List.getD_cons_succ]
    go_wp2
    have hxa := ext_alloc (.cells #[.int .i64 0, .int .i64 0, .int .i64 0, .int .u64 0, .int .u64 0, .nilFunc, .pointer none] 39) (ext_refl X)
    replace HZ := Lib.hid (HZ.out.ext hxa)
    replace HI := Lib.hid (HI.out.ext hxa)
    replace HT := Lib.hid (HT.out.ext hxa)
    replace HR := Lib.hid (HR.out.ext hxa)
    replace HQ := Lib.hid (HQ.out.ext hxa)
    have hbx := Lib.hid (heap_at X (.cells #[.int .i64 0, .int .i64 0, .int .i64 0, .int .u64 0, .int .u64 0, .nilFunc, .pointer none] 39) X.heap.size rfl)
    have hlx : W.heap.size ≤ X.heap.size := hsx
    replace hsx : W.heap.size ≤ (X.alloc (.cells #[.int .i64 0, .int .i64 0, .int .i64 0, .int .u64 0, .int .u64 0, .nilFunc, .pointer none] 39)).heap.size := by simp; omega
    clear hxa
    refine mixQ_mk (off_of HZ.out) ?_
    generalize X.alloc (.cells #[.int .i64 0, .int .i64 0, .int .i64 0, .int .u64 0, .int .u64 0, .nilFunc, .pointer none] 39) = XA at HZ HI hbx hsx HT HR HQ ⊢
    generalize X.heap.size = bx at hbx hlx ⊢
    refine ways_act 6 (by kernel_rfl) ?_
    simp only [pickL, List.map_cons, List.map_nil, List.getD_cons_zero, List.getD_cons_succ]
    go_wp2_with (go_at_call 16; refine (cap_int HI.out.m 0 1#64 (by omega) (by rw [HI.out.mg.n]; omega) (Lib.hid HI.out.mg.e)).mono ?_; rintro e XC ⟨rfl, hx⟩; refine Hid.out ?_)
    refine Lib.hid ?_
    replace HZ := Lib.hid (HZ.out.ext hx)
    replace HI := Lib.hid (HI.out.ext hx)
    replace HQ := Lib.hid (HQ.out.ext hx)
    replace HT := Lib.hid (HT.out.ext hx)
    replace HR := Lib.hid (HR.out.ext hx)
    replace hbx := Lib.hid ((hx.block _ (heap_lt hbx.out)).trans hbx.out)
    replace hsx := Nat.le_trans hsx hx.size
    clear hx
    go_wp2
    refine mixQ_mk (off_of HZ.out) ?_
    refine ways_act 7 (by kernel_rfl) ?_
    simp only [pickL, List.map_cons, List.map_nil, List.getD_cons_zero, List.getD_cons_succ]
    go_wp2_with (go_at_call 19; refine (step_QI9 HQ.out HI.out.m HST.out).mono ?_; rintro e XS ⟨v2, F2, rfl, hp, hbn, hsub, hm, hf⟩; refine Hid.out ?_)
    refine Lib.hid ?_
    have hp2 := Lib.hid hp
    have hbn2 := Lib.hid hbn
    have hof2 := Lib.hid (fun j (hj : F2 j) => (hsub j hj).elim (fun h => (HQ.out.of j h)) (fun h => (⟨.inr (Nat.le_trans HI.out.m.top h), fun e => by omega, fun e => by have := hgl0 _ e; omega⟩ : (j < lo ∨ hi ≤ j) ∧ j ≠ B ∧ (Value.slice ra t.mine.length rc).ownBlock ≠ some j)))
    have HBO : Hid (∀ j, F2 j → j < XS.heap.size) := Lib.hid hbn
    have HSUB : Hid (∀ j, F2 j → F j ∨ w.heap.size ≤ j) := Lib.hid (fun j (hj : F2 j) => (hsub j hj).elim (fun h => .inr (by have := HSN.out j h; omega)) (fun h => .inr (Nat.le_trans HI.out.fr.size h)))
    have hnb : Hid (¬ F2 bx) := Lib.hid (fun h => (hsub _ h).elim (fun h => by have := HQF.out _ h; omega) (fun h => by have := heap_lt hbx.out; omega))
    replace HZ := Lib.hid (HZ.out.trans hf)
    replace HT := Lib.hid (HT.out.fr hf hB)
    replace HR := Lib.hid (HR.out.fr hf (Nat.le_of_lt (Nat.lt_of_le_of_lt hB hBb)))
    replace HI := Lib.hid (HI.out.ran hm hf HFL.out.mg (Nat.le_of_lt (Nat.lt_of_le_of_lt hB hBl)))
    replace hbx := Lib.hid ((hf.block _ (heap_lt hbx.out) (.inr (Nat.le_trans hwtop hlx))).trans hbx.out)
    replace hsx := Nat.le_trans hsx hf.size
    obtain ⟨y2, a2, fn2, rfl, hfn2⟩ := shI hp
    have HFN2 := Lib.hid hfn2
    clear hf hm hp hbn hsub hfn2 HQ
    go_wp2
    refine mixQ_mk (off_of HZ.out) ?_
    refine ways_reads [8, 9, 10] (by kernel_rfl) ?_
    simp only [pickL, List.map_cons, List.map_nil, List.getD_cons_zero, List.getD_cons_succ]
    repeat (go_big_quiet_step (fail))
    refine wpQuiet_nil ?_
    refine ways_act 12 (by kernel_rfl) ?_
    simp only [pickL, List.map_cons, List.map_nil, List.getD_cons_zero, List.getD_cons_succ]
    obtain ⟨k0, k1, k2, k3, k4, k5, k6, kz, kl⟩ := sev_of hbx.out
    have hB := put7_block (.int .i64 y2) (.int .i64 a2.op) (.int .i64 a2.at_) (.int .u64 (U a2.a)) (.int .u64 (U a2.b)) fn2 (.pointer none) hbx.out
    have hP := hp2.out.agr (Agr.of_put7 (b := bx) (.int .i64 y2) (.int .i64 a2.op) (.int .i64 a2.at_) (.int .u64 (U a2.a)) (.int .u64 (U a2.b)) fn2 (.pointer none) hnb.out)
    have hZZ := put7_frNew (b := bx) (.int .i64 y2) (.int .i64 a2.op) (.int .i64 a2.at_) (.int .u64 (U a2.a)) (.int .u64 (U a2.b)) fn2 (.pointer none) HZ.out hlx
    have hII := HI.out.put7 (b := bx) (.int .i64 y2) (.int .i64 a2.op) (.int .i64 a2.at_) (.int .u64 (U a2.a)) (.int .u64 (U a2.b)) fn2 (.pointer none) (Nat.le_trans hwtop hlx) (by omega) (by omega)
    have hSS : (put7 bx (.int .i64 y2) (.int .i64 a2.op) (.int .i64 a2.at_) (.int .u64 (U a2.a)) (.int .u64 (U a2.b)) fn2 (.pointer none) XS).heap.size = XS.heap.size := put7_size (.int .i64 y2) (.int .i64 a2.op) (.int .i64 a2.at_) (.int .u64 (U a2.a)) (.int .u64 (U a2.b)) fn2 (.pointer none)
    have hO0 := HT.out.put7 (b := bx) (.int .i64 y2) (.int .i64 a2.op) (.int .i64 a2.at_) (.int .u64 (U a2.a)) (.int .u64 (U a2.b)) fn2 (.pointer none) (by omega)
    have hO1 := HR.out.put7 (b := bx) (.int .i64 y2) (.int .i64 a2.op) (.int .i64 a2.at_) (.int .u64 (U a2.a)) (.int .u64 (U a2.b)) fn2 (.pointer none) (fun e => by have := hgl0 _ e; omega)
    rw [put7] at hB hP hZZ hII hSS hO0 hO1
    have HY := Lib.hid (And.intro hB (And.intro hP (And.intro hZZ (And.intro hII (And.intro hO0 (And.intro hO1 (hSS)))))))
    have HSW := Lib.hid (And.intro hbn2.out hsx)
    have hsf := store_fn HFN2.out
    clear hB hP hZZ hII hO0 hO1 hSS hp2 HZ HI hbx hbn2 HT HR
    go_wp2
    obtain ⟨hB, hP, hZZ, hII, hO0, hO1, hSS⟩ := HY.out
    obtain ⟨hbn2, hsx2⟩ := HSW.out
    rw [← hSS] at hsx2
    have hbn3 : Bnd F2 _ := hbn2.ext (Nat.le_of_eq hSS.symm)
    clear HY HSW k0 k1 k2 k3 k4 k5 k6 kz kl hSS hsf
    generalize (World.setCell _ (⟨bx, 6, none⟩ : Addr) _) = Y at hB hP hZZ hII hsx2 hbn3 hO0 hO1 ⊢
    refine mixQ_mk (off_of hZZ) ?_
    have HB := Lib.hid hB
    have HPT := Lib.hid hP
    have HZZ := Lib.hid hZZ
    have HI := Lib.hid hII
    have HBN := Lib.hid hbn3
    have HOF := hof2
    have HT := Lib.hid hO0
    have HR := Lib.hid hO1
    clear hB hP hZZ hII hbn3 hof2 hO0 hO1
    refine ways_reads [13] (by kernel_rfl) ?_
    simp only [pickL, List.map_cons, List.map_nil, List.getD_cons_zero, List.getD_cons_succ]
    repeat (go_big_quiet_step (fail))
    refine wpQuiet_nil ?_
    refine ways_end (by kernel_rfl) ?_
    obtain ⟨k0, k1, k2, k3, k4, k5, k6, kz, kl⟩ := sev_of HB.out
    have ⟨c0, c1, c2, c3, c4, c5, c6, c7, c8, c9, c10, c11, cz, cl⟩ := HT.out.cs
    have hsf := store_fn HFN2.out
    have hT9 := HT.out.sP (.int .i64 y2) (.int .i64 a2.op) (.int .i64 a2.at_) (.int .u64 (U a2.a)) (.int .u64 (U a2.b)) fn2 (.pointer none)
    have hI9 := HI.out.put7o 4 (.int .i64 y2) (.int .i64 a2.op) (.int .i64 a2.at_) (.int .u64 (U a2.a)) (.int .u64 (U a2.b)) fn2 (.pointer none) hB hBw2
    have hR9 := HR.out.put7o 4 (.int .i64 y2) (.int .i64 a2.op) (.int .i64 a2.at_) (.int .u64 (U a2.a)) (.int .u64 (U a2.b)) fn2 (.pointer none) hnbv.out
    have hQ9 := HPT.out.agr (fun j hj => put7o_other (b := B) (o := 4) (.int .i64 y2) (.int .i64 a2.op) (.int .i64 a2.at_) (.int .u64 (U a2.a)) (.int .u64 (U a2.b)) fn2 (.pointer none) (HOF.out j hj).2.1)
    have hK9 : Blk bx (.cells #[.int .i64 y2, .int .i64 a2.op, .int .i64 a2.at_, .int .u64 (U a2.a), .int .u64 (U a2.b), fn2, .pointer none] 39) (put7o B 4 (.int .i64 y2) (.int .i64 a2.op) (.int .i64 a2.at_) (.int .u64 (U a2.a)) (.int .u64 (U a2.b)) fn2 (.pointer none) Y) := (put7o_other (.int .i64 y2) (.int .i64 a2.op) (.int .i64 a2.at_) (.int .u64 (U a2.a)) (.int .u64 (U a2.b)) fn2 (.pointer none) (by omega)).trans HB.out
    have hN9 : Bnd F2 (put7o B 4 (.int .i64 y2) (.int .i64 a2.op) (.int .i64 a2.at_) (.int .u64 (U a2.a)) (.int .u64 (U a2.b)) fn2 (.pointer none) Y) := HBN.out.ext (by rw [put7o_size]; exact Nat.le_refl _)
    simp only [put7o, Nat.reduceAdd] at hT9 hI9 hR9 hQ9 hK9 hN9
    have HY := Lib.hid (And.intro hT9 (And.intro hI9 (And.intro hR9 (And.intro hQ9 (And.intro hK9 hN9)))))
    clear hT9 hI9 hR9 hQ9 hK9 hN9 HPT HI HT HR HBN HB
    go_upto_region 16 with (fail)
    obtain ⟨hT9, hI9, hR9, hQ9, hK9, hN9⟩ := HY.out
    clear HY hsf k0 k1 k2 k3 k4 k5 k6 kz kl c0 c1 c2 c3 c4 c5 c6 c7 c8 c9 c10 c11 cz cl
    generalize (World.setCell _ (⟨B, 10, none⟩ : Addr) _) = V at hT9 hI9 hR9 hQ9 hK9 hN9 ⊢
    have HT := Lib.hid hT9
    have HI := Lib.hid hI9
    have HR := Lib.hid hR9
    have HQ := Lib.hid hQ9
    have HN := Lib.hid hN9
    obtain ⟨k0, k1, k2, k3, k4, k5, k6, kz, kl⟩ := sev_of hK9
    clear hT9 hI9 hR9 hQ9 hK9 hN9
    rcases HTO.out with ⟨h3, h4⟩ | ⟨h3, h4, h5⟩ | ⟨n, h3, h4⟩
    · obtain ⟨o1, o2⟩ := ov_pop p N' h3
      replace o1 := Lib.hid o1
      replace o2 := Lib.hid o2
      go_wp2_with (go_at_call 20; refine (over_I _ F2 _ _ HQ.out 0 false o1 o2).mono ?_; rintro e wv ⟨rfl, hx⟩; have HIV := Lib.hid (HI.out.ext hx); have HTV := Lib.hid (HT.out.ext hx); have HRV := Lib.hid (HR.out.ext hx); have HQV := Lib.hid (HQ.out.agr (Agr.of_ext hx HN.out)); have HNV := Lib.hid (HN.out.ext hx.size); clear hx)
      have hgo := popped_go (t := (t.begun (K + 1) true .pl)) (N' := N') h3
      go_ret
      refine ⟨M', l', T', (t.begun (K + 1) true .pl).popped N' s', F2, _, y2, a2, fn2, rfl, HIV.out.m, HGN.out, hT0.out, ?_, HSUB.out, HIV.out.fr, .inl rfl, .inl HMU.out, fun _ => by rw [hgo]; exact hN0, by rw [hgo]; rfl⟩
      rw [hgo]
      refine ⟨?_, HRV.out, hnbv.out, HFN2.out, fun _ => HQV.out, HNV.out, HOF.out⟩
      exact HTV.out
    · subst h3
      go_wp2_with (go_at_call 20; refine (over_I _ F2 _ _ HQ.out (-1) true (Lib.hid rfl) (Lib.hid rfl)).mono ?_; rintro e wv ⟨rfl, hx⟩; have HIV := Lib.hid (HI.out.ext hx); have HTV := Lib.hid (HT.out.ext hx); have HRV := Lib.hid (HR.out.ext hx); have ⟨c0, c1, c2, c3, c4, c5, c6, c7, c8, c9, c10, c11, cz, cl⟩ := HTV.out.cs; clear hx k0 k1 k2 k3 k4 k5 k6 kz kl; refine Hid.out ?_)
      refine Lib.hid ?_
      have HTW := Lib.hid (HTV.out.s2 (.bool false))
      have HIW := Lib.hid (HIV.out.set 2 (.bool false) hB hBw2)
      have HRW := Lib.hid (HRV.out.setB 2 (.bool false) hnbv.out)
      have ⟨z0, z1, z2, z3, z4, z5, zlt⟩ := HIV.out.pb.plc
      have hpn1 := hpn.1
      have hd1 : decide (-1 < p.n) = true := by simp; omega
      clear HTV HIV HRV HT HI HR HQ HN
      go_wp2
      go_ret
      have hme : ((t.begun (K + 1) true .pl).popped N' (.dn (-1))).mine = t.mine := by simp [TS.begun, TS.popped]
      refine ⟨M', l', T', (t.begun (K + 1) true .pl).popped N' (.dn (-1)), noF, _, y2, a2, fn2, rfl, HIW.out.m, HGN.out, hT0.out, ?_, fun j hj => hj.elim, HIW.out.fr, .inl rfl, .inl HMU.out, fun hf => (by cases hf), rfl⟩
      refine ⟨?_, by rw [hme]; exact HRW.out, hnbv.out, HFN2.out, fun hf => (by cases hf), bnd_no _, fun j hj => hj.elim⟩
      exact HTW.out
    · subst h3
      have hn := HLR.out n (by rw [h4]; simp)
      have hn1 : 0 ≤ n := hn.1
      have hn2 : n < p.n := hn.2
      clear hn h4
      go_wp2_with (go_at_call 20; refine (over_I _ F2 _ _ HQ.out n true (Lib.hid rfl) (Lib.hid rfl)).mono ?_; rintro e wv ⟨rfl, hx⟩; have HIV := Lib.hid (HI.out.ext hx); have HTV := Lib.hid (HT.out.ext hx); have HRV := Lib.hid (HR.out.ext hx); have ⟨c0, c1, c2, c3, c4, c5, c6, c7, c8, c9, c10, c11, cz, cl⟩ := HTV.out.cs; clear hx k0 k1 k2 k3 k4 k5 k6 kz kl; refine Hid.out ?_)
      refine Lib.hid ?_
      have HY := Lib.hid (And.intro (HTV.out.s2 (.bool false)) (And.intro (HIV.out.set 2 (.bool false) hB hBw2) (HRV.out.setB 2 (.bool false) hnbv.out)))
      clear HTV HIV HRV
      go_upto_region 20 with (fail)
      obtain ⟨hT9, hI9, hR9⟩ := HY.out
      clear HY c0 c1 c2 c3 c4 c5 c6 c7 c8 c9 c10 c11 cz cl
      generalize (World.setCell _ (⟨B, 2, none⟩ : Addr) _) = V2 at hT9 hI9 hR9 ⊢
      have HTW := Lib.hid hT9
      have HIW := Lib.hid hI9
      have HRW := Lib.hid hR9
      have ⟨c0, c1, c2, c3, c4, c5, c6, c7, c8, c9, c10, c11, cz, cl⟩ := hT9.cs
      have ⟨z0, z1, z2, z3, z4, z5, zlt⟩ := hI9.pb.plc
      clear hT9 hI9 hR9 HT HI HR HQ HN
      have hsz := HIW.out.fr.size
      have hpn1 := hpn.1
      have hd1 : decide (-1 ≤ n) = true := by simp; omega
      have hd2 : decide (n < p.n) = true := by simp; omega
      have hd3 : -1 ≤ n := by omega
      have hml2 : t.mine.length ≤ 2000000 := by omega
      go_wp2_with (at_builtin; go_loud (refine wpList_irow rfl (.tmp 127) (.tmp 129) rfl base _ t.mine rfl (HRW.out.ext (ext_alloc _ (ext_refl V2))) ⟨V2.heap.size, 0, none⟩ n rfl (newy _ _ _ _ rfl) hml2 (by simp; omega) ?_); intro v5 w5 hv5 hg5 hn5; refine Hid.out ?_)
      refine Lib.hid ?_
      have hxa := ext_alloc (.cells #[.int .i64 n] 3) (ext_refl V2)
      obtain ⟨v5a, v5c, hv5e⟩ := hv5.slice
      rw [List.length_append, List.length_singleton] at hv5e
      subst hv5e
      have hT5 := (HTW.out.ext hxa).grown hg5 hnbv.out
      have hI5 := (HIW.out.ext hxa).grown hg5 fun j hj => by have := hgl0 j hj; omega
      have hs5 : V2.heap.size + 1 = (V2.alloc (.cells #[.int .i64 n] 3)).heap.size := by simp
      have hv5B : (Value.slice v5a (t.mine.length + 1) v5c).ownBlock ≠ Option.some B := fun e => by
        rcases hn5 with h | ⟨g, h, h2⟩
        · exact hnbv.out (h.symm.trans e)
        · rw [h] at e
          cases e
          omega
      have hv5N : (Value.slice v5a (t.mine.length + 1) v5c).ownBlock = (Value.slice ra t.mine.length rc).ownBlock ∨ ∃ g, (Value.slice v5a (t.mine.length + 1) v5c).ownBlock = Option.some g ∧ w.heap.size ≤ g := by
        rcases hn5 with h | ⟨g, h, h2⟩
        · exact .inl h
        · exact .inr ⟨g, h, by omega⟩
      have HY := Lib.hid (And.intro (hT5.s11 (.slice v5a (t.mine.length + 1) v5c)) (And.intro (hI5.set 11 (.slice v5a (t.mine.length + 1) v5c) hB hBw2) (hv5.setB 11 (.slice v5a (t.mine.length + 1) v5c) hv5B)))
      have ⟨d0, d1, d2, d3, d4, d5, d6, d7, d8, d9, d10, d11, dz, dl⟩ := hT5.cs
      replace hv5B := Lib.hid hv5B
      replace hv5N := Lib.hid hv5N
      clear hT5 hI5 hv5 hg5 hn5 hs5 hxa HTW HIW HRW z0 z1 z2 z3 z4 z5 zlt c0 c1 c2 c3 c4 c5 c6 c7 c8 c9 c10 c11 cz cl
      go_upto_region 23 with (fail)
      obtain ⟨hT9, hI9, hR9⟩ := HY.out
      clear HY d0 d1 d2 d3 d4 d5 d6 d7 d8 d9 d10 d11 dz dl
      generalize (World.setCell _ (⟨B, 11, none⟩ : Addr) _) = V3 at hT9 hI9 hR9 ⊢
      have ⟨z0, z1, z2, z3, z4, z5, zlt⟩ := hI9.pb.plc
      replace hT9 := Lib.hid hT9
      replace hI9 := Lib.hid hI9
      replace hR9 := Lib.hid hR9
      go_wp2
      go_ret
      have hme : ((t.begun (K + 1) true .pl).popped N' (.dn n)).mine = t.mine ++ [n] := by simp [TS.begun, TS.popped, hn1]
      refine ⟨M', l', T', (t.begun (K + 1) true .pl).popped N' (.dn n), noF, .slice v5a (t.mine.length + 1) v5c, y2, a2, fn2, by first | rfl | (congr 2; simp; omega), hI9.out.m, HGN.out, hT0.out, ?_, fun j hj => hj.elim, hI9.out.fr, hv5N.out, .inl HMU.out, fun hf => (by cases hf), rfl⟩
      refine ⟨?_, by rw [hme]; exact hR9.out, hv5B.out, HFN2.out, fun hf => (by cases hf), bnd_no _, fun j hj => hj.elim⟩
      exact hT9.out
  · simp only [pickL, List.map_cons, List.map_nil, List.getD_cons_zero, List.getD_cons_succ]
    go_wp2_with (go_at_call 16; refine (cap_int HI.out.m 0 1#64 (by omega) (by rw [HI.out.mg.n]; omega) (Lib.hid HI.out.mg.e)).mono ?_; rintro e XC ⟨rfl, hx⟩; refine Hid.out ?_)
    refine Lib.hid ?_
    replace HZ := Lib.hid (HZ.out.ext hx)
    replace HI := Lib.hid (HI.out.ext hx)
    replace HQ := Lib.hid (HQ.out.ext hx)
    replace HT := Lib.hid (HT.out.ext hx)
    replace HR := Lib.hid (HR.out.ext hx)
    replace hsx := Nat.le_trans hsx hx.size
    clear hx
    go_wp2
    refine mixQ_mk (off_of HZ.out) ?_
    refine ways_fork 11 (by kernel_rfl) ?_ (ways_act 7 (by kernel_rfl) ?_)
    · simp only [pickL, List.map_cons, List.map_nil, List.getD_cons_zero, List.getD_cons_succ]
      go_wp2
      have hxa := ext_alloc (.cells #[.int .i64 0, .int .i64 0, .int .i64 0, .int .u64 0, .int .u64 0, .nilFunc, .pointer none] 39) (ext_refl XC)
      replace HZ := Lib.hid (HZ.out.ext hxa)
      replace HI := Lib.hid (HI.out.ext hxa)
      replace HT := Lib.hid (HT.out.ext hxa)
      replace HR := Lib.hid (HR.out.ext hxa)
      replace HQ := Lib.hid (HQ.out.ext hxa)
      have hbx := Lib.hid (heap_at XC (.cells #[.int .i64 0, .int .i64 0, .int .i64 0, .int .u64 0, .int .u64 0, .nilFunc, .pointer none] 39) XC.heap.size rfl)
      have hlx : W.heap.size ≤ XC.heap.size := hsx
      replace hsx : W.heap.size ≤ (XC.alloc (.cells #[.int .i64 0, .int .i64 0, .int .i64 0, .int .u64 0, .int .u64 0, .nilFunc, .pointer none] 39)).heap.size := by simp; omega
      clear hxa
      refine mixQ_mk (off_of HZ.out) ?_
      generalize XC.alloc (.cells #[.int .i64 0, .int .i64 0, .int .i64 0, .int .u64 0, .int .u64 0, .nilFunc, .pointer none] 39) = XA at HZ HI hbx hsx HT HR HQ ⊢
      generalize XC.heap.size = bx at hbx hlx ⊢
      refine ways_act 7 (by kernel_rfl) ?_
      simp only [pickL, List.map_cons, List.map_nil, List.getD_cons_zero, List.getD_cons_succ]
      go_wp2_with (go_at_call 19; refine (step_QI9 HQ.out HI.out.m HST.out).mono ?_; rintro e XS ⟨v2, F2, rfl, hp, hbn, hsub, hm, hf⟩; refine Hid.out ?_)
      refine Lib.hid ?_
      have hp2 := Lib.hid hp
      have hbn2 := Lib.hid hbn
      have hof2 := Lib.hid (fun j (hj : F2 j) => (hsub j hj).elim (fun h => (HQ.out.of j h)) (fun h => (⟨.inr (Nat.le_trans HI.out.m.top h), fun e => by omega, fun e => by have := hgl0 _ e; omega⟩ : (j < lo ∨ hi ≤ j) ∧ j ≠ B ∧ (Value.slice ra t.mine.length rc).ownBlock ≠ some j)))
      have HBO : Hid (∀ j, F2 j → j < XS.heap.size) := Lib.hid hbn
      have HSUB : Hid (∀ j, F2 j → F j ∨ w.heap.size ≤ j) := Lib.hid (fun j (hj : F2 j) => (hsub j hj).elim (fun h => .inr (by have := HSN.out j h; omega)) (fun h => .inr (Nat.le_trans HI.out.fr.size h)))
      have hnb : Hid (¬ F2 bx) := Lib.hid (fun h => (hsub _ h).elim (fun h => by have := HQF.out _ h; omega) (fun h => by have := heap_lt hbx.out; omega))
      replace HZ := Lib.hid (HZ.out.trans hf)
      replace HT := Lib.hid (HT.out.fr hf hB)
      replace HR := Lib.hid (HR.out.fr hf (Nat.le_of_lt (Nat.lt_of_le_of_lt hB hBb)))
      replace HI := Lib.hid (HI.out.ran hm hf HFL.out.mg (Nat.le_of_lt (Nat.lt_of_le_of_lt hB hBl)))
      replace hbx := Lib.hid ((hf.block _ (heap_lt hbx.out) (.inr (Nat.le_trans hwtop hlx))).trans hbx.out)
      replace hsx := Nat.le_trans hsx hf.size
      obtain ⟨y2, a2, fn2, rfl, hfn2⟩ := shI hp
      have HFN2 := Lib.hid hfn2
      clear hf hm hp hbn hsub hfn2 HQ
      go_wp2
      refine mixQ_mk (off_of HZ.out) ?_
      refine ways_reads [8, 9, 10] (by kernel_rfl) ?_
      simp only [pickL, List.map_cons, List.map_nil, List.getD_cons_zero, List.getD_cons_succ]
      repeat (go_big_quiet_step (fail))
      refine wpQuiet_nil ?_
      refine ways_act 12 (by kernel_rfl) ?_
      simp only [pickL, List.map_cons, List.map_nil, List.getD_cons_zero, List.getD_cons_succ]
      obtain ⟨k0, k1, k2, k3, k4, k5, k6, kz, kl⟩ := sev_of hbx.out
      have hB := put7_block (.int .i64 y2) (.int .i64 a2.op) (.int .i64 a2.at_) (.int .u64 (U a2.a)) (.int .u64 (U a2.b)) fn2 (.pointer none) hbx.out
      have hP := hp2.out.agr (Agr.of_put7 (b := bx) (.int .i64 y2) (.int .i64 a2.op) (.int .i64 a2.at_) (.int .u64 (U a2.a)) (.int .u64 (U a2.b)) fn2 (.pointer none) hnb.out)
      have hZZ := put7_frNew (b := bx) (.int .i64 y2) (.int .i64 a2.op) (.int .i64 a2.at_) (.int .u64 (U a2.a)) (.int .u64 (U a2.b)) fn2 (.pointer none) HZ.out hlx
      have hII := HI.out.put7 (b := bx) (.int .i64 y2) (.int .i64 a2.op) (.int .i64 a2.at_) (.int .u64 (U a2.a)) (.int .u64 (U a2.b)) fn2 (.pointer none) (Nat.le_trans hwtop hlx) (by omega) (by omega)
      have hSS : (put7 bx (.int .i64 y2) (.int .i64 a2.op) (.int .i64 a2.at_) (.int .u64 (U a2.a)) (.int .u64 (U a2.b)) fn2 (.pointer none) XS).heap.size = XS.heap.size := put7_size (.int .i64 y2) (.int .i64 a2.op) (.int .i64 a2.at_) (.int .u64 (U a2.a)) (.int .u64 (U a2.b)) fn2 (.pointer none)
      have hO0 := HT.out.put7 (b := bx) (.int .i64 y2) (.int .i64 a2.op) (.int .i64 a2.at_) (.int .u64 (U a2.a)) (.int .u64 (U a2.b)) fn2 (.pointer none) (by omega)
      have hO1 := HR.out.put7 (b := bx) (.int .i64 y2) (.int .i64 a2.op) (.int .i64 a2.at_) (.int .u64 (U a2.a)) (.int .u64 (U a2.b)) fn2 (.pointer none) (fun e => by have := hgl0 _ e; omega)
      rw [put7] at hB hP hZZ hII hSS hO0 hO1
      have HY := Lib.hid (And.intro hB (And.intro hP (And.intro hZZ (And.intro hII (And.intro hO0 (And.intro hO1 (hSS)))))))
      have HSW := Lib.hid (And.intro hbn2.out hsx)
      have hsf := store_fn HFN2.out
      clear hB hP hZZ hII hO0 hO1 hSS hp2 HZ HI hbx hbn2 HT HR
      go_wp2
      obtain ⟨hB, hP, hZZ, hII, hO0, hO1, hSS⟩ := HY.out
      obtain ⟨hbn2, hsx2⟩ := HSW.out
      rw [← hSS] at hsx2
      have hbn3 : Bnd F2 _ := hbn2.ext (Nat.le_of_eq hSS.symm)
      clear HY HSW k0 k1 k2 k3 k4 k5 k6 kz kl hSS hsf
      generalize (World.setCell _ (⟨bx, 6, none⟩ : Addr) _) = Y at hB hP hZZ hII hsx2 hbn3 hO0 hO1 ⊢
      refine mixQ_mk (off_of hZZ) ?_
      have HB := Lib.hid hB
      have HPT := Lib.hid hP
      have HZZ := Lib.hid hZZ
      have HI := Lib.hid hII
      have HBN := Lib.hid hbn3
      have HOF := hof2
      have HT := Lib.hid hO0
      have HR := Lib.hid hO1
      clear hB hP hZZ hII hbn3 hof2 hO0 hO1
      refine ways_reads [13] (by kernel_rfl) ?_
      simp only [pickL, List.map_cons, List.map_nil, List.getD_cons_zero, List.getD_cons_succ]
      repeat (go_big_quiet_step (fail))
      refine wpQuiet_nil ?_
      refine ways_end (by kernel_rfl) ?_
      obtain ⟨k0, k1, k2, k3, k4, k5, k6, kz, kl⟩ := sev_of HB.out
      have ⟨c0, c1, c2, c3, c4, c5, c6, c7, c8, c9, c10, c11, cz, cl⟩ := HT.out.cs
      have hsf := store_fn HFN2.out
      have hT9 := HT.out.sP (.int .i64 y2) (.int .i64 a2.op) (.int .i64 a2.at_) (.int .u64 (U a2.a)) (.int .u64 (U a2.b)) fn2 (.pointer none)
      have hI9 := HI.out.put7o 4 (.int .i64 y2) (.int .i64 a2.op) (.int .i64 a2.at_) (.int .u64 (U a2.a)) (.int .u64 (U a2.b)) fn2 (.pointer none) hB hBw2
      have hR9 := HR.out.put7o 4 (.int .i64 y2) (.int .i64 a2.op) (.int .i64 a2.at_) (.int .u64 (U a2.a)) (.int .u64 (U a2.b)) fn2 (.pointer none) hnbv.out
      have hQ9 := HPT.out.agr (fun j hj => put7o_other (b := B) (o := 4) (.int .i64 y2) (.int .i64 a2.op) (.int .i64 a2.at_) (.int .u64 (U a2.a)) (.int .u64 (U a2.b)) fn2 (.pointer none) (HOF.out j hj).2.1)
      have hK9 : Blk bx (.cells #[.int .i64 y2, .int .i64 a2.op, .int .i64 a2.at_, .int .u64 (U a2.a), .int .u64 (U a2.b), fn2, .pointer none] 39) (put7o B 4 (.int .i64 y2) (.int .i64 a2.op) (.int .i64 a2.at_) (.int .u64 (U a2.a)) (.int .u64 (U a2.b)) fn2 (.pointer none) Y) := (put7o_other (.int .i64 y2) (.int .i64 a2.op) (.int .i64 a2.at_) (.int .u64 (U a2.a)) (.int .u64 (U a2.b)) fn2 (.pointer none) (by omega)).trans HB.out
      have hN9 : Bnd F2 (put7o B 4 (.int .i64 y2) (.int .i64 a2.op) (.int .i64 a2.at_) (.int .u64 (U a2.a)) (.int .u64 (U a2.b)) fn2 (.pointer none) Y) := HBN.out.ext (by rw [put7o_size]; exact Nat.le_refl _)
      simp only [put7o, Nat.reduceAdd] at hT9 hI9 hR9 hQ9 hK9 hN9
      have HY := Lib.hid (And.intro hT9 (And.intro hI9 (And.intro hR9 (And.intro hQ9 (And.intro hK9 hN9)))))
      clear hT9 hI9 hR9 hQ9 hK9 hN9 HPT HI HT HR HBN HB
      go_upto_region 16 with (fail)
      obtain ⟨hT9, hI9, hR9, hQ9, hK9, hN9⟩ := HY.out
      clear HY hsf k0 k1 k2 k3 k4 k5 k6 kz kl c0 c1 c2 c3 c4 c5 c6 c7 c8 c9 c10 c11 cz cl
      generalize (World.setCell _ (⟨B, 10, none⟩ : Addr) _) = V at hT9 hI9 hR9 hQ9 hK9 hN9 ⊢
      have HT := Lib.hid hT9
      have HI := Lib.hid hI9
      have HR := Lib.hid hR9
      have HQ := Lib.hid hQ9
      have HN := Lib.hid hN9
      obtain ⟨k0, k1, k2, k3, k4, k5, k6, kz, kl⟩ := sev_of hK9
      clear hT9 hI9 hR9 hQ9 hK9 hN9
      rcases HTO.out with ⟨h3, h4⟩ | ⟨h3, h4, h5⟩ | ⟨n, h3, h4⟩
      · obtain ⟨o1, o2⟩ := ov_pop p N' h3
        replace o1 := Lib.hid o1
        replace o2 := Lib.hid o2
        go_wp2_with (go_at_call 20; refine (over_I _ F2 _ _ HQ.out 0 false o1 o2).mono ?_; rintro e wv ⟨rfl, hx⟩; have HIV := Lib.hid (HI.out.ext hx); have HTV := Lib.hid (HT.out.ext hx); have HRV := Lib.hid (HR.out.ext hx); have HQV := Lib.hid (HQ.out.agr (Agr.of_ext hx HN.out)); have HNV := Lib.hid (HN.out.ext hx.size); clear hx)
        have hgo := popped_go (t := (t.begun (K + 1) true .pl)) (N' := N') h3
        go_ret
        refine ⟨M', l', T', (t.begun (K + 1) true .pl).popped N' s', F2, _, y2, a2, fn2, rfl, HIV.out.m, HGN.out, hT0.out, ?_, HSUB.out, HIV.out.fr, .inl rfl, .inl HMU.out, fun _ => by rw [hgo]; exact hN0, by rw [hgo]; rfl⟩
        rw [hgo]
        refine ⟨?_, HRV.out, hnbv.out, HFN2.out, fun _ => HQV.out, HNV.out, HOF.out⟩
        exact HTV.out
      · subst h3
        go_wp2_with (go_at_call 20; refine (over_I _ F2 _ _ HQ.out (-1) true (Lib.hid rfl) (Lib.hid rfl)).mono ?_; rintro e wv ⟨rfl, hx⟩; have HIV := Lib.hid (HI.out.ext hx); have HTV := Lib.hid (HT.out.ext hx); have HRV := Lib.hid (HR.out.ext hx); have ⟨c0, c1, c2, c3, c4, c5, c6, c7, c8, c9, c10, c11, cz, cl⟩ := HTV.out.cs; clear hx k0 k1 k2 k3 k4 k5 k6 kz kl; refine Hid.out ?_)
        refine Lib.hid ?_
        have HTW := Lib.hid (HTV.out.s2 (.bool false))
        have HIW := Lib.hid (HIV.out.set 2 (.bool false) hB hBw2)
        have HRW := Lib.hid (HRV.out.setB 2 (.bool false) hnbv.out)
        have ⟨z0, z1, z2, z3, z4, z5, zlt⟩ := HIV.out.pb.plc
        have hpn1 := hpn.1
        have hd1 : decide (-1 < p.n) = true := by simp; omega
        clear HTV HIV HRV HT HI HR HQ HN
        go_wp2
        go_ret
        have hme : ((t.begun (K + 1) true .pl).popped N' (.dn (-1))).mine = t.mine := by simp [TS.begun, TS.popped]
        refine ⟨M', l', T', (t.begun (K + 1) true .pl).popped N' (.dn (-1)), noF, _, y2, a2, fn2, rfl, HIW.out.m, HGN.out, hT0.out, ?_, fun j hj => hj.elim, HIW.out.fr, .inl rfl, .inl HMU.out, fun hf => (by cases hf), rfl⟩
        refine ⟨?_, by rw [hme]; exact HRW.out, hnbv.out, HFN2.out, fun hf => (by cases hf), bnd_no _, fun j hj => hj.elim⟩
        exact HTW.out
      · subst h3
        have hn := HLR.out n (by rw [h4]; simp)
        have hn1 : 0 ≤ n := hn.1
        have hn2 : n < p.n := hn.2
        clear hn h4
        go_wp2_with (go_at_call 20; refine (over_I _ F2 _ _ HQ.out n true (Lib.hid rfl) (Lib.hid rfl)).mono ?_; rintro e wv ⟨rfl, hx⟩; have HIV := Lib.hid (HI.out.ext hx); have HTV := Lib.hid (HT.out.ext hx); have HRV := Lib.hid (HR.out.ext hx); have ⟨c0, c1, c2, c3, c4, c5, c6, c7, c8, c9, c10, c11, cz, cl⟩ := HTV.out.cs; clear hx k0 k1 k2 k3 k4 k5 k6 kz kl; refine Hid.out ?_)
        refine Lib.hid ?_
        have HY := Lib.hid (And.intro (HTV.out.s2 (.bool false)) (And.intro (HIV.out.set 2 (.bool false) hB hBw2) (HRV.out.setB 2 (.bool false) hnbv.out)))
        clear HTV HIV HRV
        go_upto_region 20 with (fail)
        obtain ⟨hT9, hI9, hR9⟩ := HY.out
        clear HY c0 c1 c2 c3 c4 c5 c6 c7 c8 c9 c10 c11 cz cl
        generalize (World.setCell _ (⟨B, 2, none⟩ : Addr) _) = V2 at hT9 hI9 hR9 ⊢
        have HTW := Lib.hid hT9
        have HIW := Lib.hid hI9
        have HRW := Lib.hid hR9
        have ⟨c0, c1, c2, c3, c4, c5, c6, c7, c8, c9, c10, c11, cz, cl⟩ := hT9.cs
        have ⟨z0, z1, z2, z3, z4, z5, zlt⟩ := hI9.pb.plc
        clear hT9 hI9 hR9 HT HI HR HQ HN
        have hsz := HIW.out.fr.size
        have hpn1 := hpn.1
        have hd1 : decide (-1 ≤ n) = true := by simp; omega
        have hd2 : decide (n < p.n) = true := by simp; omega
        have hd3 : -1 ≤ n := by omega
        have hml2 : t.mine.length ≤ 2000000 := by omega
        go_wp2_with (at_builtin; go_loud (refine wpList_irow rfl (.tmp 127) (.tmp 129) rfl base _ t.mine rfl (HRW.out.ext (ext_alloc _ (ext_refl V2))) ⟨V2.heap.size, 0, none⟩ n rfl (newy _ _ _ _ rfl) hml2 (by simp; omega) ?_); intro v5 w5 hv5 hg5 hn5; refine Hid.out ?_)
        refine Lib.hid ?_
        have hxa := ext_alloc (.cells #[.int .i64 n] 3) (ext_refl V2)
        obtain ⟨v5a, v5c, hv5e⟩ := hv5.slice
        rw [List.length_append, List.length_singleton] at hv5e
        subst hv5e
        have hT5 := (HTW.out.ext hxa).grown hg5 hnbv.out
        have hI5 := (HIW.out.ext hxa).grown hg5 fun j hj => by have := hgl0 j hj; omega
        have hs5 : V2.heap.size + 1 = (V2.alloc (.cells #[.int .i64 n] 3)).heap.size := by simp
        have hv5B : (Value.slice v5a (t.mine.length + 1) v5c).ownBlock ≠ Option.some B := fun e => by
          rcases hn5 with h | ⟨g, h, h2⟩
          · exact hnbv.out (h.symm.trans e)
          · rw [h] at e
            cases e
            omega
        have hv5N : (Value.slice v5a (t.mine.length + 1) v5c).ownBlock = (Value.slice ra t.mine.length rc).ownBlock ∨ ∃ g, (Value.slice v5a (t.mine.length + 1) v5c).ownBlock = Option.some g ∧ w.heap.size ≤ g := by
          rcases hn5 with h | ⟨g, h, h2⟩
          · exact .inl h
          · exact .inr ⟨g, h, by omega⟩
        have HY := Lib.hid (And.intro (hT5.s11 (.slice v5a (t.mine.length + 1) v5c)) (And.intro (hI5.set 11 (.slice v5a (t.mine.length + 1) v5c) hB hBw2) (hv5.setB 11 (.slice v5a (t.mine.length + 1) v5c) hv5B)))
        have ⟨d0, d1, d2, d3, d4, d5, d6, d7, d8, d9, d10, d11, dz, dl⟩ := hT5.cs
        replace hv5B := Lib.hid hv5B
        replace hv5N := Lib.hid hv5N
        clear hT5 hI5 hv5 hg5 hn5 hs5 hxa HTW HIW HRW z0 z1 z2 z3 z4 z5 zlt c0 c1 c2 c3 c4 c5 c6 c7 c8 c9 c10 c11 cz cl
        go_upto_region 23 with (fail)
        obtain ⟨hT9, hI9, hR9⟩ := HY.out
        clear HY d0 d1 d2 d3 d4 d5 d6 d7 d8 d9 d10 d11 dz dl
        generalize (World.setCell _ (⟨B, 11, none⟩ : Addr) _) = V3 at hT9 hI9 hR9 ⊢
        have ⟨z0, z1, z2, z3, z4, z5, zlt⟩ := hI9.pb.plc
        replace hT9 := Lib.hid hT9
        replace hI9 := Lib.hid hI9
        replace hR9 := Lib.hid hR9
        go_wp2
        go_ret
        have hme : ((t.begun (K + 1) true .pl).popped N' (.dn n)).mine = t.mine ++ [n] := by simp [TS.begun, TS.popped, hn1]
        refine ⟨M', l', T', (t.begun (K + 1) true .pl).popped N' (.dn n), noF, .slice v5a (t.mine.length + 1) v5c, y2, a2, fn2, by first | rfl | (congr 2; simp; omega), hI9.out.m, HGN.out, hT0.out, ?_, fun j hj => hj.elim, hI9.out.fr, hv5N.out, .inl HMU.out, fun hf => (by cases hf), rfl⟩
        refine ⟨?_, by rw [hme]; exact hR9.out, hv5B.out, HFN2.out, fun hf => (by cases hf), bnd_no _, fun j hj => hj.elim⟩
        exact hT9.out
    · simp only [pickL, List.map_cons, List.map_nil, List.getD_cons_zero, List.getD_cons_succ]
      go_wp2_with (go_at_call 19; refine (step_QI9 HQ.out HI.out.m HST.out).mono ?_; rintro e XS ⟨v2, F2, rfl, hp, hbn, hsub, hm, hf⟩; refine Hid.out ?_)
      refine Lib.hid ?_
      have hp2 := Lib.hid hp
      have hbn2 := Lib.hid hbn
      have hof2 := Lib.hid (fun j (hj : F2 j) => (hsub j hj).elim (fun h => (HQ.out.of j h)) (fun h => (⟨.inr (Nat.le_trans HI.out.m.top h), fun e => by omega, fun e => by have := hgl0 _ e; omega⟩ : (j < lo ∨ hi ≤ j) ∧ j ≠ B ∧ (Value.slice ra t.mine.length rc).ownBlock ≠ some j)))
      have HBO : Hid (∀ j, F2 j → j < XS.heap.size) := Lib.hid hbn
      have HSUB : Hid (∀ j, F2 j → F j ∨ w.heap.size ≤ j) := Lib.hid (fun j (hj : F2 j) => (hsub j hj).elim (fun h => .inr (by have := HSN.out j h; omega)) (fun h => .inr (Nat.le_trans HI.out.fr.size h)))
      replace HZ := Lib.hid (HZ.out.trans hf)
      replace HT := Lib.hid (HT.out.fr hf hB)
      replace HR := Lib.hid (HR.out.fr hf (Nat.le_of_lt (Nat.lt_of_le_of_lt hB hBb)))
      replace HI := Lib.hid (HI.out.ran hm hf HFL.out.mg (Nat.le_of_lt (Nat.lt_of_le_of_lt hB hBl)))
      replace hsx := Nat.le_trans hsx hf.size
      obtain ⟨y2, a2, fn2, rfl, hfn2⟩ := shI hp
      have HFN2 := Lib.hid hfn2
      clear hf hm hp hbn hsub hfn2 HQ
      go_wp2
      refine mixQ_mk (off_of HZ.out) ?_
      refine ways_reads [8, 9, 10] (by kernel_rfl) ?_
      simp only [pickL, List.map_cons, List.map_nil, List.getD_cons_zero, List.getD_cons_succ]
      repeat (go_big_quiet_step (fail))
      refine wpQuiet_nil ?_
      refine ways_act 11 (by kernel_rfl) ?_
      simp only [pickL, List.map_cons, List.map_nil, List.getD_cons_zero, List.getD_cons_succ]
      go_wp2
      have hxa := ext_alloc (.cells #[.int .i64 0, .int .i64 0, .int .i64 0, .int .u64 0, .int .u64 0, .nilFunc, .pointer none] 39) (ext_refl XS)
      replace HZ := Lib.hid (HZ.out.ext hxa)
      replace HI := Lib.hid (HI.out.ext hxa)
      replace HT := Lib.hid (HT.out.ext hxa)
      replace HR := Lib.hid (HR.out.ext hxa)
      replace hp2 := Lib.hid (hp2.out.agr (Agr.of_ext hxa hbn2.out))
      replace hbn2 := Lib.hid (hbn2.out.ext hxa.size)
      have hbx := Lib.hid (heap_at XS (.cells #[.int .i64 0, .int .i64 0, .int .i64 0, .int .u64 0, .int .u64 0, .nilFunc, .pointer none] 39) XS.heap.size rfl)
      have hlx : W.heap.size ≤ XS.heap.size := hsx
      replace hsx : W.heap.size ≤ (XS.alloc (.cells #[.int .i64 0, .int .i64 0, .int .i64 0, .int .u64 0, .int .u64 0, .nilFunc, .pointer none] 39)).heap.size := by simp; omega
      have hnb : Hid (¬ F2 XS.heap.size) := Lib.hid (fun h => by have := HBO.out _ h; omega)
      clear hxa
      refine mixQ_mk (off_of HZ.out) ?_
      generalize XS.alloc (.cells #[.int .i64 0, .int .i64 0, .int .i64 0, .int .u64 0, .int .u64 0, .nilFunc, .pointer none] 39) = XA at HZ HI hbx hsx HT HR hp2 hbn2 ⊢
      generalize XS.heap.size = bx at hbx hlx hnb ⊢
      refine ways_act 12 (by kernel_rfl) ?_
      simp only [pickL, List.map_cons, List.map_nil, List.getD_cons_zero, List.getD_cons_succ]
      obtain ⟨k0, k1, k2, k3, k4, k5, k6, kz, kl⟩ := sev_of hbx.out
      have hB := put7_block (.int .i64 y2) (.int .i64 a2.op) (.int .i64 a2.at_) (.int .u64 (U a2.a)) (.int .u64 (U a2.b)) fn2 (.pointer none) hbx.out
      have hP := hp2.out.agr (Agr.of_put7 (b := bx) (.int .i64 y2) (.int .i64 a2.op) (.int .i64 a2.at_) (.int .u64 (U a2.a)) (.int .u64 (U a2.b)) fn2 (.pointer none) hnb.out)
      have hZZ := put7_frNew (b := bx) (.int .i64 y2) (.int .i64 a2.op) (.int .i64 a2.at_) (.int .u64 (U a2.a)) (.int .u64 (U a2.b)) fn2 (.pointer none) HZ.out hlx
      have hII := HI.out.put7 (b := bx) (.int .i64 y2) (.int .i64 a2.op) (.int .i64 a2.at_) (.int .u64 (U a2.a)) (.int .u64 (U a2.b)) fn2 (.pointer none) (Nat.le_trans hwtop hlx) (by omega) (by omega)
      have hSS : (put7 bx (.int .i64 y2) (.int .i64 a2.op) (.int .i64 a2.at_) (.int .u64 (U a2.a)) (.int .u64 (U a2.b)) fn2 (.pointer none) XA).heap.size = XA.heap.size := put7_size (.int .i64 y2) (.int .i64 a2.op) (.int .i64 a2.at_) (.int .u64 (U a2.a)) (.int .u64 (U a2.b)) fn2 (.pointer none)
      have hO0 := HT.out.put7 (b := bx) (.int .i64 y2) (.int .i64 a2.op) (.int .i64 a2.at_) (.int .u64 (U a2.a)) (.int .u64 (U a2.b)) fn2 (.pointer none) (by omega)
      have hO1 := HR.out.put7 (b := bx) (.int .i64 y2) (.int .i64 a2.op) (.int .i64 a2.at_) (.int .u64 (U a2.a)) (.int .u64 (U a2.b)) fn2 (.pointer none) (fun e => by have := hgl0 _ e; omega)
      rw [put7] at hB hP hZZ hII hSS hO0 hO1
      have HY := Lib.hid (And.intro hB (And.intro hP (And.intro hZZ (And.intro hII (And.intro hO0 (And.intro hO1 (hSS)))))))
      have HSW := Lib.hid (And.intro hbn2.out hsx)
      have hsf := store_fn HFN2.out
      clear hB hP hZZ hII hO0 hO1 hSS hp2 HZ HI hbx hbn2 HT HR
      go_wp2
      obtain ⟨hB, hP, hZZ, hII, hO0, hO1, hSS⟩ := HY.out
      obtain ⟨hbn2, hsx2⟩ := HSW.out
      rw [← hSS] at hsx2
      have hbn3 : Bnd F2 _ := hbn2.ext (Nat.le_of_eq hSS.symm)
      clear HY HSW k0 k1 k2 k3 k4 k5 k6 kz kl hSS hsf
      generalize (World.setCell _ (⟨bx, 6, none⟩ : Addr) _) = Y at hB hP hZZ hII hsx2 hbn3 hO0 hO1 ⊢
      refine mixQ_mk (off_of hZZ) ?_
      have HB := Lib.hid hB
      have HPT := Lib.hid hP
      have HZZ := Lib.hid hZZ
      have HI := Lib.hid hII
      have HBN := Lib.hid hbn3
      have HOF := hof2
      have HT := Lib.hid hO0
      have HR := Lib.hid hO1
      clear hB hP hZZ hII hbn3 hof2 hO0 hO1
      refine ways_reads [13] (by kernel_rfl) ?_
      simp only [pickL, List.map_cons, List.map_nil, List.getD_cons_zero, List.getD_cons_succ]
      repeat (go_big_quiet_step (fail))
      refine wpQuiet_nil ?_
      refine ways_end (by kernel_rfl) ?_
      obtain ⟨k0, k1, k2, k3, k4, k5, k6, kz, kl⟩ := sev_of HB.out
      have ⟨c0, c1, c2, c3, c4, c5, c6, c7, c8, c9, c10, c11, cz, cl⟩ := HT.out.cs
      have hsf := store_fn HFN2.out
      have hT9 := HT.out.sP (.int .i64 y2) (.int .i64 a2.op) (.int .i64 a2.at_) (.int .u64 (U a2.a)) (.int .u64 (U a2.b)) fn2 (.pointer none)
      have hI9 := HI.out.put7o 4 (.int .i64 y2) (.int .i64 a2.op) (.int .i64 a2.at_) (.int .u64 (U a2.a)) (.int .u64 (U a2.b)) fn2 (.pointer none) hB hBw2
      have hR9 := HR.out.put7o 4 (.int .i64 y2) (.int .i64 a2.op) (.int .i64 a2.at_) (.int .u64 (U a2.a)) (.int .u64 (U a2.b)) fn2 (.pointer none) hnbv.out
      have hQ9 := HPT.out.agr (fun j hj => put7o_other (b := B) (o := 4) (.int .i64 y2) (.int .i64 a2.op) (.int .i64 a2.at_) (.int .u64 (U a2.a)) (.int .u64 (U a2.b)) fn2 (.pointer none) (HOF.out j hj).2.1)
      have hK9 : Blk bx (.cells #[.int .i64 y2, .int .i64 a2.op, .int .i64 a2.at_, .int .u64 (U a2.a), .int .u64 (U a2.b), fn2, .pointer none] 39) (put7o B 4 (.int .i64 y2) (.int .i64 a2.op) (.int .i64 a2.at_) (.int .u64 (U a2.a)) (.int .u64 (U a2.b)) fn2 (.pointer none) Y) := (put7o_other (.int .i64 y2) (.int .i64 a2.op) (.int .i64 a2.at_) (.int .u64 (U a2.a)) (.int .u64 (U a2.b)) fn2 (.pointer none) (by omega)).trans HB.out
      have hN9 : Bnd F2 (put7o B 4 (.int .i64 y2) (.int .i64 a2.op) (.int .i64 a2.at_) (.int .u64 (U a2.a)) (.int .u64 (U a2.b)) fn2 (.pointer none) Y) := HBN.out.ext (by rw [put7o_size]; exact Nat.le_refl _)
      simp only [put7o, Nat.reduceAdd] at hT9 hI9 hR9 hQ9 hK9 hN9
      have HY := Lib.hid (And.intro hT9 (And.intro hI9 (And.intro hR9 (And.intro hQ9 (And.intro hK9 hN9)))))
      clear hT9 hI9 hR9 hQ9 hK9 hN9 HPT HI HT HR HBN HB
      go_upto_region 16 with (fail)
      obtain ⟨hT9, hI9, hR9, hQ9, hK9, hN9⟩ := HY.out
      clear HY hsf k0 k1 k2 k3 k4 k5 k6 kz kl c0 c1 c2 c3 c4 c5 c6 c7 c8 c9 c10 c11 cz cl
      generalize (World.setCell _ (⟨B, 10, none⟩ : Addr) _) = V at hT9 hI9 hR9 hQ9 hK9 hN9 ⊢
      have HT := Lib.hid hT9
      have HI := Lib.hid hI9
      have HR := Lib.hid hR9
      have HQ := Lib.hid hQ9
      have HN := Lib.hid hN9
      obtain ⟨k0, k1, k2, k3, k4, k5, k6, kz, kl⟩ := sev_of hK9
      clear hT9 hI9 hR9 hQ9 hK9 hN9
      rcases HTO.out with ⟨h3, h4⟩ | ⟨h3, h4, h5⟩ | ⟨n, h3, h4⟩
      · obtain ⟨o1, o2⟩ := ov_pop p N' h3
        replace o1 := Lib.hid o1
        replace o2 := Lib.hid o2
        go_wp2_with (go_at_call 20; refine (over_I _ F2 _ _ HQ.out 0 false o1 o2).mono ?_; rintro e wv ⟨rfl, hx⟩; have HIV := Lib.hid (HI.out.ext hx); have HTV := Lib.hid (HT.out.ext hx); have HRV := Lib.hid (HR.out.ext hx); have HQV := Lib.hid (HQ.out.agr (Agr.of_ext hx HN.out)); have HNV := Lib.hid (HN.out.ext hx.size); clear hx)
        have hgo := popped_go (t := (t.begun (K + 1) true .pl)) (N' := N') h3
        go_ret
        refine ⟨M', l', T', (t.begun (K + 1) true .pl).popped N' s', F2, _, y2, a2, fn2, rfl, HIV.out.m, HGN.out, hT0.out, ?_, HSUB.out, HIV.out.fr, .inl rfl, .inl HMU.out, fun _ => by rw [hgo]; exact hN0, by rw [hgo]; rfl⟩
        rw [hgo]
        refine ⟨?_, HRV.out, hnbv.out, HFN2.out, fun _ => HQV.out, HNV.out, HOF.out⟩
        exact HTV.out
      · subst h3
        go_wp2_with (go_at_call 20; refine (over_I _ F2 _ _ HQ.out (-1) true (Lib.hid rfl) (Lib.hid rfl)).mono ?_; rintro e wv ⟨rfl, hx⟩; have HIV := Lib.hid (HI.out.ext hx); have HTV := Lib.hid (HT.out.ext hx); have HRV := Lib.hid (HR.out.ext hx); have ⟨c0, c1, c2, c3, c4, c5, c6, c7, c8, c9, c10, c11, cz, cl⟩ := HTV.out.cs; clear hx k0 k1 k2 k3 k4 k5 k6 kz kl; refine Hid.out ?_)
        refine Lib.hid ?_
        have HTW := Lib.hid (HTV.out.s2 (.bool false))
        have HIW := Lib.hid (HIV.out.set 2 (.bool false) hB hBw2)
        have HRW := Lib.hid (HRV.out.setB 2 (.bool false) hnbv.out)
        have ⟨z0, z1, z2, z3, z4, z5, zlt⟩ := HIV.out.pb.plc
        have hpn1 := hpn.1
        have hd1 : decide (-1 < p.n) = true := by simp; omega
        clear HTV HIV HRV HT HI HR HQ HN
        go_wp2
        go_ret
        have hme : ((t.begun (K + 1) true .pl).popped N' (.dn (-1))).mine = t.mine := by simp [TS.begun, TS.popped]
        refine ⟨M', l', T', (t.begun (K + 1) true .pl).popped N' (.dn (-1)), noF, _, y2, a2, fn2, rfl, HIW.out.m, HGN.out, hT0.out, ?_, fun j hj => hj.elim, HIW.out.fr, .inl rfl, .inl HMU.out, fun hf => (by cases hf), rfl⟩
        refine ⟨?_, by rw [hme]; exact HRW.out, hnbv.out, HFN2.out, fun hf => (by cases hf), bnd_no _, fun j hj => hj.elim⟩
        exact HTW.out
      · subst h3
        have hn := HLR.out n (by rw [h4]; simp)
        have hn1 : 0 ≤ n := hn.1
        have hn2 : n < p.n := hn.2
        clear hn h4
        go_wp2_with (go_at_call 20; refine (over_I _ F2 _ _ HQ.out n true (Lib.hid rfl) (Lib.hid rfl)).mono ?_; rintro e wv ⟨rfl, hx⟩; have HIV := Lib.hid (HI.out.ext hx); have HTV := Lib.hid (HT.out.ext hx); have HRV := Lib.hid (HR.out.ext hx); have ⟨c0, c1, c2, c3, c4, c5, c6, c7, c8, c9, c10, c11, cz, cl⟩ := HTV.out.cs; clear hx k0 k1 k2 k3 k4 k5 k6 kz kl; refine Hid.out ?_)
        refine Lib.hid ?_
        have HY := Lib.hid (And.intro (HTV.out.s2 (.bool false)) (And.intro (HIV.out.set 2 (.bool false) hB hBw2) (HRV.out.setB 2 (.bool false) hnbv.out)))
        clear HTV HIV HRV
        go_upto_region 20 with (fail)
        obtain ⟨hT9, hI9, hR9⟩ := HY.out
        clear HY c0 c1 c2 c3 c4 c5 c6 c7 c8 c9 c10 c11 cz cl
        generalize (World.setCell _ (⟨B, 2, none⟩ : Addr) _) = V2 at hT9 hI9 hR9 ⊢
        have HTW := Lib.hid hT9
        have HIW := Lib.hid hI9
        have HRW := Lib.hid hR9
        have ⟨c0, c1, c2, c3, c4, c5, c6, c7, c8, c9, c10, c11, cz, cl⟩ := hT9.cs
        have ⟨z0, z1, z2, z3, z4, z5, zlt⟩ := hI9.pb.plc
        clear hT9 hI9 hR9 HT HI HR HQ HN
        have hsz := HIW.out.fr.size
        have hpn1 := hpn.1
        have hd1 : decide (-1 ≤ n) = true := by simp; omega
        have hd2 : decide (n < p.n) = true := by simp; omega
        have hd3 : -1 ≤ n := by omega
        have hml2 : t.mine.length ≤ 2000000 := by omega
        go_wp2_with (at_builtin; go_loud (refine wpList_irow rfl (.tmp 127) (.tmp 129) rfl base _ t.mine rfl (HRW.out.ext (ext_alloc _ (ext_refl V2))) ⟨V2.heap.size, 0, none⟩ n rfl (newy _ _ _ _ rfl) hml2 (by simp; omega) ?_); intro v5 w5 hv5 hg5 hn5; refine Hid.out ?_)
        refine Lib.hid ?_
        have hxa := ext_alloc (.cells #[.int .i64 n] 3) (ext_refl V2)
        obtain ⟨v5a, v5c, hv5e⟩ := hv5.slice
        rw [List.length_append, List.length_singleton] at hv5e
        subst hv5e
        have hT5 := (HTW.out.ext hxa).grown hg5 hnbv.out
        have hI5 := (HIW.out.ext hxa).grown hg5 fun j hj => by have := hgl0 j hj; omega
        have hs5 : V2.heap.size + 1 = (V2.alloc (.cells #[.int .i64 n] 3)).heap.size := by simp
        have hv5B : (Value.slice v5a (t.mine.length + 1) v5c).ownBlock ≠ Option.some B := fun e => by
          rcases hn5 with h | ⟨g, h, h2⟩
          · exact hnbv.out (h.symm.trans e)
          · rw [h] at e
            cases e
            omega
        have hv5N : (Value.slice v5a (t.mine.length + 1) v5c).ownBlock = (Value.slice ra t.mine.length rc).ownBlock ∨ ∃ g, (Value.slice v5a (t.mine.length + 1) v5c).ownBlock = Option.some g ∧ w.heap.size ≤ g := by
          rcases hn5 with h | ⟨g, h, h2⟩
          · exact .inl h
          · exact .inr ⟨g, h, by omega⟩
        have HY := Lib.hid (And.intro (hT5.s11 (.slice v5a (t.mine.length + 1) v5c)) (And.intro (hI5.set 11 (.slice v5a (t.mine.length + 1) v5c) hB hBw2) (hv5.setB 11 (.slice v5a (t.mine.length + 1) v5c) hv5B)))
        have ⟨d0, d1, d2, d3, d4, d5, d6, d7, d8, d9, d10, d11, dz, dl⟩ := hT5.cs
        replace hv5B := Lib.hid hv5B
        replace hv5N := Lib.hid hv5N
        clear hT5 hI5 hv5 hg5 hn5 hs5 hxa HTW HIW HRW z0 z1 z2 z3 z4 z5 zlt c0 c1 c2 c3 c4 c5 c6 c7 c8 c9 c10 c11 cz cl
        go_upto_region 23 with (fail)
        obtain ⟨hT9, hI9, hR9⟩ := HY.out
        clear HY d0 d1 d2 d3 d4 d5 d6 d7 d8 d9 d10 d11 dz dl
        generalize (World.setCell _ (⟨B, 11, none⟩ : Addr) _) = V3 at hT9 hI9 hR9 ⊢
        have ⟨z0, z1, z2, z3, z4, z5, zlt⟩ := hI9.pb.plc
        replace hT9 := Lib.hid hT9
        replace hI9 := Lib.hid hI9
        replace hR9 := Lib.hid hR9
        go_wp2
        go_ret
        have hme : ((t.begun (K + 1) true .pl).popped N' (.dn n)).mine = t.mine ++ [n] := by simp [TS.begun, TS.popped, hn1]
        refine ⟨M', l', T', (t.begun (K + 1) true .pl).popped N' (.dn n), noF, .slice v5a (t.mine.length + 1) v5c, y2, a2, fn2, by first | rfl | (congr 2; simp; omega), hI9.out.m, HGN.out, hT0.out, ?_, fun j hj => hj.elim, hI9.out.fr, hv5N.out, .inl HMU.out, fun hf => (by cases hf), rfl⟩
        refine ⟨?_, by rw [hme]; exact hR9.out, hv5B.out, HFN2.out, fun hf => (by cases hf), bnd_no _, fun j hj => hj.elim⟩
        exact hT9.out
end Go.Proofs.Ytpidmbclgfnekaa
