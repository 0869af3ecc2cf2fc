/-
  A pick of a thread of the law FreeMany: it is at a Push. Conditions: those of each theorem.
-/
import Derived.Test.YtpidmbclgfnekaaGaw
import Derived.Deep.Cut
namespace Go.Proofs.Ytpidmbclgfnekaa
open Go Go.RowKit

set_option maxRecDepth 8000 in
set_option maxHeartbeats 4000000 in
theorem pick_atPush {p : Pl} {lo hi base B K : Nat} {L : Lay} {M : MS} {l : List Int} {T : Nat} {us vs : List TS} {t : TS} {F : Nat → Prop} {vp vm : Value} {y : Int} {a : Acc} {fn : Value} {w : World} (hp : p.ok) (hps : Bs w vp t.ps) (h : TIn p lo hi base B t F vp vm y a fn w) (hM : MemIn lo hi L M w) (hG : GIn p M l T (us ++ t :: vs)) (hT : T < 8796093022207) (hB : hi ≤ B) (hBb : B < base) (_ : base ≤ w.heap.size) (hb : t.busy = true) (hq : t.pop = false) (hK : K + 1 ≤ t.N) : Calls Try.prog 8 #[.pointer (some ⟨B, 0, none⟩), plV p, .pointer (some ⟨L.bm, 0, none⟩)] w (RetPk p lo hi base B K L M T us vs t F vp vm w) := by
  obtain ⟨N, hN⟩ : ∃ N, t.N = N + 1 := ⟨t.N - 1, by omega⟩
  obtain ⟨rest, n, hmn, hs⟩ := (hG.ok t (by simp)).isQ hb hq
  obtain ⟨M', l', T', N', s', hnx, hto, hmu, hgin⟩ := g_push hp hG hT hb hq hN hmn hs
  have hin : InR p n := (hG.ok t (by simp)).rg n (by rw [hmn]; simp)
  have hnx0 : p.nxF n ≠ -1 := by have := nx_in hp hin; omega
  have HST := Lib.hid hnx.st
  have HFL := Lib.hid hnx.fl
  have HTO := Lib.hid hto
  have HGN := Lib.hid hgin
  have HMU := Lib.hid (TS.mu_pushed (t := t) (rest := rest) (N' := N') hb hmu)
  have hT0 := Lib.hid hnx.T0
  have hN0 : K ≤ N' := by have := hnx.N0; omega
  have hpt0 := h.pt hb
  have hq0 : QI9 lo hi B vm.ownBlock (trT p t.N t.s) F (.agg #[.int .i64 y, .int .i64 a.op, .int .i64 a.at_, .int .u64 (U a.a), .int .u64 (U a.b), fn, .pointer none]) w := ⟨hpt0, h.bn, h.of⟩
  have HQ0 := Lib.hid (hq0.ext (ext_alloc (.cells #[.int .i64 p.n, .int .i64 p.t, .int .i64 p.r, .int .i64 p.d, .int .i64 p.b, .int .i64 p.g] 23) (ext_refl w)))
  have hlen : t.mine.length = rest.length + 1 := by rw [hmn]; simp
  have hpn := hp.1
  replace hmn := Lib.hid hmn
  replace hlen := Lib.hid hlen
  replace hnx0 := Lib.hid hnx0
  clear hnx hto hmu hgin hpt0 hq0 hs hin
  have HMI := Lib.hid hM.mIn
  have hgl0 : ∀ j, vm.ownBlock = some j → base ≤ j ∧ j < w.heap.size := fun j hj => by obtain ⟨h1, cur, h2⟩ := h.row.own hj; exact ⟨h1, heap_lt h2⟩
  have HTI := Lib.hid h
  have HG := Lib.hid hG
  have HP := Lib.hid hp
  have hbo : (Value.bool t.busy) = .bool true := by rw [hb]
  have hE := ext_alloc (.cells #[.int .i64 p.n, .int .i64 p.t, .int .i64 p.r, .int .i64 p.d, .int .i64 p.b, .int .i64 p.g] 23) (ext_refl w)
  have HI : Hid (KIn p lo hi L w.heap.size B vm.ownBlock w M (w.alloc (.cells #[.int .i64 p.n, .int .i64 p.t, .int .i64 p.r, .int .i64 p.d, .int .i64 p.b, .int .i64 p.g] 23))) := Lib.hid ⟨hM.ext hE, hG.fl.mg, (FrP.refl lo hi B vm.ownBlock w).ext hE, heap_at w _ _ rfl⟩
  have HT0 := h.blk.ext hE
  rw [hb] at HT0
  have HT := Lib.hid HT0
  have HR := Lib.hid (h.row.ext hE)
  have HPS := Lib.hid (hps.ext hE)
  have hwl : w.heap.size < (w.alloc (.cells #[.int .i64 p.n, .int .i64 p.t, .int .i64 p.r, .int .i64 p.d, .int .i64 p.b, .int .i64 p.g] 23)).heap.size := by simp
  have hBl : B < w.heap.size := h.blk.lt
  have hnbv := Lib.hid h.nb
  obtain ⟨pa, pc, hvp, _, _⟩ := id hps
  obtain ⟨ra, rc, hvm⟩ := h.row.slice
  have hml : (t.mine.length : Int) ≤ 1048576 := by
    have h1 := nodup_le (by have := hp.1; omega) (List.nodup_append.1 (by have h2 := hG.nd; rw [flat_mid] at h2; exact (List.nodup_append.1 (List.nodup_append.1 h2).2.1).2.1)).1 (hG.ok t (by simp)).rg
    have := hp.1
    omega
  subst hvp hvm
  clear HT0 hE hG hM hp hps
  go_enter Try.func8, Try.ntmps8
  have dd2 : w.cell? ⟨B, 2, none⟩ = some (.bool true) := by rw [← hb]; exact h.blk.cs.c2
  have hBw : B ≠ w.heap.size := by omega
  have hBw2 : w.heap.size ≠ B := by omega
  clear h
  go_upto_region 1 with (fail)
  generalize w.alloc (.cells #[.int .i64 p.n, .int .i64 p.t, .int .i64 p.r, .int .i64 p.d, .int .i64 p.b, .int .i64 p.g] 23) = W at HQ0 HI HT HR HPS hwl ⊢
  have HI0 := HI
  replace HT := Lib.hid (by have h := HT.out; rw [hq] at h; exact h)
  clear HI
  have ⟨c0, c1, c2, c3, c4, c5, c6, c7, c8, c9, c10, c11, cz, cl⟩ := HT.out.cs
  go_wp2
  refine wp_region_ways (fun x => ∃ s, x = off lo hi W s) (by kernel_rfl) (off_of ((Fr.refl lo hi W).drew)) ?_
  refine ways_reads [0, 1, 2, 3, 4, 5] (by kernel_rfl) ?_
  simp only [pickL, List.map_cons, List.map_nil, List.getD_cons_zero, List.getD_cons_succ]
  repeat (go_big_quiet_step (fail))
  refine wpQuiet_nil ?_
  have HZ := Lib.hid ((Fr.refl lo hi W).drew)
  have HI := Lib.hid (HI0.out.ext (ext_drew (ext_refl W)))
  have HQ := Lib.hid (HQ0.out.ext (ext_drew (ext_refl W)))
  have HQF := Lib.hid HQ0.out.bn
  replace HT := Lib.hid (HT.out.ext (ext_drew (ext_refl W)))
  replace HR := Lib.hid (HR.out.ext (ext_drew (ext_refl W)))
  have hsx : W.heap.size ≤ W.drew.heap.size := Nat.le_refl _
  have hwtop := HI0.out.m.top
  clear HI0 HQ0 c0 c1 c2 c3 c4 c5 c6 c7 c8 c9 c10 c11 cz cl
  generalize W.drew = X at HZ HI HQ hsx HT HR ⊢
  refine ways_fork 11 (by kernel_rfl) ?_ (ways_act 6 (by kernel_rfl) ?_)
  · simp only [pickL, List.map_cons, List.map_nil, List.getD_cons_zero, List.getD_cons_succ]
    go_wp2
    have hxa := ext_alloc (.cells #[.int .i64 0, .int .i64 0, .int .i64 0, .int .u64 0, .int .u64 0, .nilFunc, .pointer none] 39) (ext_refl X)
    replace HZ := Lib.hid (HZ.out.ext hxa)
    replace HI := Lib.hid (HI.out.ext hxa)
    replace HT := Lib.hid (HT.out.ext hxa)
    replace HR := Lib.hid (HR.out.ext hxa)
    replace HQ := Lib.hid (HQ.out.ext hxa)
    have hbx := Lib.hid (heap_at X (.cells #[.int .i64 0, .int .i64 0, .int .i64 0, .int .u64 0, .int .u64 0, .nilFunc, .pointer none] 39) X.heap.size rfl)
    have hlx : W.heap.size ≤ X.heap.size := hsx
    replace hsx : W.heap.size ≤ (X.alloc (.cells #[.int .i64 0, .int .i64 0, .int .i64 0, .int .u64 0, .int .u64 0, .nilFunc, .pointer none] 39)).heap.size := by simp; omega
    clear hxa
    refine mixQ_mk (off_of HZ.out) ?_
    generalize X.alloc (.cells #[.int .i64 0, .int .i64 0, .int .i64 0, .int .u64 0, .int .u64 0, .nilFunc, .pointer none] 39) = XA at HZ HI hbx hsx HT HR HQ ⊢
    generalize X.heap.size = bx at hbx hlx ⊢
    refine ways_act 6 (by kernel_rfl) ?_
    simp only [pickL, List.map_cons, List.map_nil, List.getD_cons_zero, List.getD_cons_succ]
    go_wp2_with (go_at_call 16; refine (cap_int HI.out.m 0 1#64 (by omega) (by rw [HI.out.mg.n]; omega) (Lib.hid HI.out.mg.e)).mono ?_; rintro e XC ⟨rfl, hx⟩; refine Hid.out ?_)
    refine Lib.hid ?_
    replace HZ := Lib.hid (HZ.out.ext hx)
    replace HI := Lib.hid (HI.out.ext hx)
    replace HQ := Lib.hid (HQ.out.ext hx)
    replace HT := Lib.hid (HT.out.ext hx)
    replace HR := Lib.hid (HR.out.ext hx)
    replace hbx := Lib.hid ((hx.block _ (heap_lt hbx.out)).trans hbx.out)
    replace hsx := Nat.le_trans hsx hx.size
    clear hx
    go_wp2
    refine mixQ_mk (off_of HZ.out) ?_
    refine ways_act 7 (by kernel_rfl) ?_
    simp only [pickL, List.map_cons, List.map_nil, List.getD_cons_zero, List.getD_cons_succ]
    go_wp2_with (go_at_call 19; refine (step_QI9 HQ.out HI.out.m HST.out).mono ?_; rintro e XS ⟨v2, F2, rfl, hp, hbn, hsub, hm, hf⟩; refine Hid.out ?_)
    refine Lib.hid ?_
    have hp2 := Lib.hid hp
    have hbn2 := Lib.hid hbn
    have hof2 := Lib.hid (fun j (hj : F2 j) => (hsub j hj).elim (fun h => (HQ.out.of j h)) (fun h => (⟨.inr (Nat.le_trans HI.out.m.top h), fun e => by omega, fun e => by have := hgl0 _ e; omega⟩ : (j < lo ∨ hi ≤ j) ∧ j ≠ B ∧ (Value.slice ra t.mine.length rc).ownBlock ≠ some j)))
    have HBO : Hid (∀ j, F2 j → j < XS.heap.size) := Lib.hid hbn
    have HSUB := Lib.hid (fun j (hj : F2 j) => (hsub j hj).imp_right (fun h => Nat.le_trans HI.out.fr.size h))
    have hnb : Hid (¬ F2 bx) := Lib.hid (fun h => (hsub _ h).elim (fun h => by have := HQF.out _ h; omega) (fun h => by have := heap_lt hbx.out; omega))
    replace HZ := Lib.hid (HZ.out.trans hf)
    replace HT := Lib.hid (HT.out.fr hf hB)
    replace HR := Lib.hid (HR.out.fr hf (Nat.le_of_lt (Nat.lt_of_le_of_lt hB hBb)))
    replace HI := Lib.hid (HI.out.ran hm hf HFL.out.mg (Nat.le_of_lt (Nat.lt_of_le_of_lt hB hBl)))
    replace hbx := Lib.hid ((hf.block _ (heap_lt hbx.out) (.inr (Nat.le_trans hwtop hlx))).trans hbx.out)
    replace hsx := Nat.le_trans hsx hf.size
    obtain ⟨y2, a2, fn2, rfl, hfn2⟩ := shI hp
    have HFN2 := Lib.hid hfn2
    clear hf hm hp hbn hsub hfn2 HQ
    go_wp2
    refine mixQ_mk (off_of HZ.out) ?_
    refine ways_reads [8, 9, 10] (by kernel_rfl) ?_
    simp only [pickL, List.map_cons, List.map_nil, List.getD_cons_zero, List.getD_cons_succ]
    repeat (go_big_quiet_step (fail))
    refine wpQuiet_nil ?_
    refine ways_act 12 (by kernel_rfl) ?_
    simp only [pickL, List.map_cons, List.map_nil, List.getD_cons_zero, List.getD_cons_succ]
    obtain ⟨k0, k1, k2, k3, k4, k5, k6, kz, kl⟩ := sev_of hbx.out
    have hB := put7_block (.int .i64 y2) (.int .i64 a2.op) (.int .i64 a2.at_) (.int .u64 (U a2.a)) (.int .u64 (U a2.b)) fn2 (.pointer none) hbx.out
    have hP := hp2.out.agr (Agr.of_put7 (b := bx) (.int .i64 y2) (.int .i64 a2.op) (.int .i64 a2.at_) (.int .u64 (U a2.a)) (.int .u64 (U a2.b)) fn2 (.pointer none) hnb.out)
    have hZZ := put7_frNew (b := bx) (.int .i64 y2) (.int .i64 a2.op) (.int .i64 a2.at_) (.int .u64 (U a2.a)) (.int .u64 (U a2.b)) fn2 (.pointer none) HZ.out hlx
    have hII := HI.out.put7 (b := bx) (.int .i64 y2) (.int .i64 a2.op) (.int .i64 a2.at_) (.int .u64 (U a2.a)) (.int .u64 (U a2.b)) fn2 (.pointer none) (Nat.le_trans hwtop hlx) (by omega) (by omega)
    have hSS : (put7 bx (.int .i64 y2) (.int .i64 a2.op) (.int .i64 a2.at_) (.int .u64 (U a2.a)) (.int .u64 (U a2.b)) fn2 (.pointer none) XS).heap.size = XS.heap.size := put7_size (.int .i64 y2) (.int .i64 a2.op) (.int .i64 a2.at_) (.int .u64 (U a2.a)) (.int .u64 (U a2.b)) fn2 (.pointer none)
    have hO0 := HT.out.put7 (b := bx) (.int .i64 y2) (.int .i64 a2.op) (.int .i64 a2.at_) (.int .u64 (U a2.a)) (.int .u64 (U a2.b)) fn2 (.pointer none) (by omega)
    have hO1 := HR.out.put7 (b := bx) (.int .i64 y2) (.int .i64 a2.op) (.int .i64 a2.at_) (.int .u64 (U a2.a)) (.int .u64 (U a2.b)) fn2 (.pointer none) (fun e => by have := hgl0 _ e; omega)
    rw [put7] at hB hP hZZ hII hSS hO0 hO1
    have HY := Lib.hid (And.intro hB (And.intro hP (And.intro hZZ (And.intro hII (And.intro hO0 (And.intro hO1 (hSS)))))))
    have HSW := Lib.hid (And.intro hbn2.out hsx)
    have hsf := store_fn HFN2.out
    clear hB hP hZZ hII hO0 hO1 hSS hp2 HZ HI hbx hbn2 HT HR
    go_wp2
    obtain ⟨hB, hP, hZZ, hII, hO0, hO1, hSS⟩ := HY.out
    obtain ⟨hbn2, hsx2⟩ := HSW.out
    rw [← hSS] at hsx2
    have hbn3 : Bnd F2 _ := hbn2.ext (Nat.le_of_eq hSS.symm)
    clear HY HSW k0 k1 k2 k3 k4 k5 k6 kz kl hSS hsf
    generalize (World.setCell _ (⟨bx, 6, none⟩ : Addr) _) = Y at hB hP hZZ hII hsx2 hbn3 hO0 hO1 ⊢
    refine mixQ_mk (off_of hZZ) ?_
    have HB := Lib.hid hB
    have HPT := Lib.hid hP
    have HZZ := Lib.hid hZZ
    have HI := Lib.hid hII
    have HBN := Lib.hid hbn3
    have HOF := hof2
    have HT := Lib.hid hO0
    have HR := Lib.hid hO1
    clear hB hP hZZ hII hbn3 hof2 hO0 hO1
    refine ways_reads [13] (by kernel_rfl) ?_
    simp only [pickL, List.map_cons, List.map_nil, List.getD_cons_zero, List.getD_cons_succ]
    repeat (go_big_quiet_step (fail))
    refine wpQuiet_nil ?_
    refine ways_end (by kernel_rfl) ?_
    obtain ⟨k0, k1, k2, k3, k4, k5, k6, kz, kl⟩ := sev_of HB.out
    have ⟨c0, c1, c2, c3, c4, c5, c6, c7, c8, c9, c10, c11, cz, cl⟩ := HT.out.cs
    have hsf := store_fn HFN2.out
    have hT9 := HT.out.sP (.int .i64 y2) (.int .i64 a2.op) (.int .i64 a2.at_) (.int .u64 (U a2.a)) (.int .u64 (U a2.b)) fn2 (.pointer none)
    have hI9 := HI.out.put7o 4 (.int .i64 y2) (.int .i64 a2.op) (.int .i64 a2.at_) (.int .u64 (U a2.a)) (.int .u64 (U a2.b)) fn2 (.pointer none) hB hBw2
    have hR9 := HR.out.put7o 4 (.int .i64 y2) (.int .i64 a2.op) (.int .i64 a2.at_) (.int .u64 (U a2.a)) (.int .u64 (U a2.b)) fn2 (.pointer none) hnbv.out
    have hQ9 := HPT.out.agr (fun j hj => put7o_other (b := B) (o := 4) (.int .i64 y2) (.int .i64 a2.op) (.int .i64 a2.at_) (.int .u64 (U a2.a)) (.int .u64 (U a2.b)) fn2 (.pointer none) (HOF.out j hj).2.1)
    have hK9 : Blk bx (.cells #[.int .i64 y2, .int .i64 a2.op, .int .i64 a2.at_, .int .u64 (U a2.a), .int .u64 (U a2.b), fn2, .pointer none] 39) (put7o B 4 (.int .i64 y2) (.int .i64 a2.op) (.int .i64 a2.at_) (.int .u64 (U a2.a)) (.int .u64 (U a2.b)) fn2 (.pointer none) Y) := (put7o_other (.int .i64 y2) (.int .i64 a2.op) (.int .i64 a2.at_) (.int .u64 (U a2.a)) (.int .u64 (U a2.b)) fn2 (.pointer none) (by omega)).trans HB.out
    have hN9 : Bnd F2 (put7o B 4 (.int .i64 y2) (.int .i64 a2.op) (.int .i64 a2.at_) (.int .u64 (U a2.a)) (.int .u64 (U a2.b)) fn2 (.pointer none) Y) := HBN.out.ext (by rw [put7o_size]; exact Nat.le_refl _)
    simp only [put7o, Nat.reduceAdd] at hT9 hI9 hR9 hQ9 hK9 hN9
    have HY := Lib.hid (And.intro hT9 (And.intro hI9 (And.intro hR9 (And.intro hQ9 (And.intro hK9 hN9)))))
    clear hT9 hI9 hR9 hQ9 hK9 hN9 HPT HI HT HR HBN HB
    go_upto_region 16 with (fail)
    obtain ⟨hT9, hI9, hR9, hQ9, hK9, hN9⟩ := HY.out
    clear HY hsf k0 k1 k2 k3 k4 k5 k6 kz kl c0 c1 c2 c3 c4 c5 c6 c7 c8 c9 c10 c11 cz cl
    generalize (World.setCell _ (⟨B, 10, none⟩ : Addr) _) = V at hT9 hI9 hR9 hQ9 hK9 hN9 ⊢
    have HT := Lib.hid hT9
    have HI := Lib.hid hI9
    have HR := Lib.hid hR9
    have HQ := Lib.hid hQ9
    have HN := Lib.hid hN9
    obtain ⟨k0, k1, k2, k3, k4, k5, k6, kz, kl⟩ := sev_of hK9
    clear hT9 hI9 hR9 hQ9 hK9 hN9
    rcases HTO.out with ⟨h3, h4⟩ | ⟨h3, h4⟩
    · obtain ⟨o1, o2⟩ := ov_push p N' hnx0.out h3
      replace o1 := Lib.hid o1
      replace o2 := Lib.hid o2
      go_wp2_with (go_at_call 20; refine (over_I _ F2 _ _ HQ.out 0 false o1 o2).mono ?_; rintro e wv ⟨rfl, hx⟩; have HIV := Lib.hid (HI.out.ext hx); have HTV := Lib.hid (HT.out.ext hx); have HRV := Lib.hid (HR.out.ext hx); have HQV := Lib.hid (HQ.out.agr (Agr.of_ext hx HN.out)); have HNV := Lib.hid (HN.out.ext hx.size); clear hx)
      have hgo := pushed_go (t := t) (rest := rest) (N' := N') h3
      go_ret
      refine ⟨M', l', T', t.pushed rest N' s', F2, _, y2, a2, fn2, rfl, HIV.out.m, HGN.out, hT0.out, ?_, HSUB.out, HIV.out.fr, .inl rfl, .inl HMU.out, fun _ => by rw [hgo]; exact hN0, by rw [hgo]⟩
      rw [hgo]
      refine ⟨?_, HRV.out, hnbv.out, HFN2.out, fun _ => HQV.out, HNV.out, HOF.out⟩
      show Th12 B _ _ (.bool t.busy) (.bool t.pop) _ _ _ _ _ _ _ _ _
      rw [hb, hq]
      exact HTV.out
    · subst h3
      go_wp2_with (go_at_call 20; refine (over_I _ F2 _ _ HQ.out n true (Lib.hid rfl) (Lib.hid rfl)).mono ?_; rintro e wv ⟨rfl, hx⟩; have HIV := Lib.hid (HI.out.ext hx); have HTV := Lib.hid (HT.out.ext hx); have HRV := Lib.hid (HR.out.ext hx); have ⟨c0, c1, c2, c3, c4, c5, c6, c7, c8, c9, c10, c11, cz, cl⟩ := HTV.out.cs; clear hx k0 k1 k2 k3 k4 k5 k6 kz kl; refine Hid.out ?_)
      refine Lib.hid ?_
      have HY := Lib.hid (And.intro (HTV.out.s2 (.bool false)) (And.intro (HIV.out.set 2 (.bool false) hB hBw2) (HRV.out.setB 2 (.bool false) hnbv.out)))
      clear HTV HIV HRV
      go_upto_region 20 with (fail)
      obtain ⟨hT9, hI9, hR9⟩ := HY.out
      clear HY c0 c1 c2 c3 c4 c5 c6 c7 c8 c9 c10 c11 cz cl
      generalize (World.setCell _ (⟨B, 2, none⟩ : Addr) _) = V2 at hT9 hI9 hR9 ⊢
      have HTW := Lib.hid hT9
      have HIW := Lib.hid hI9
      have hR9' := hR9
      have hmn1 := hmn.out
      obtain ⟨g, off9, cap9, ev, hgl, hgb, hgc, hgd⟩ := hR9'.some (by rw [hlen.out]; omega)
      simp only [Value.slice.injEq, true_and] at ev
      obtain ⟨rfl, rfl⟩ := ev
      have hg0 : V2.cell? ⟨g, off9 + rest.length, none⟩ = Option.some (.int .i64 n) := by
        rw [hgd rest.length (by rw [hlen.out]; omega), hmn1, iN_snoc_eq]
      have HRW := Lib.hid hR9
      have ⟨c0, c1, c2, c3, c4, c5, c6, c7, c8, c9, c10, c11, cz, cl⟩ := hT9.cs
      rw [hlen.out] at c11
      have hgc1 : rest.length + 1 ≤ rc := by have := hlen.out; omega
      have hgB : g ≠ B := fun e => hnbv.out (by rw [e]; rfl)
      have hrl8 : (rest.length : Int) ≤ 1048576 := by have := hlen.out; omega
      clear hT9 hI9 hR9 hR9' HT HI HR HQ HN hgd hmn1
      go_wp2
      refine wp_region_over (by kernel_rfl) (by kernel_rfl) ?_
      repeat (go_big_quiet_step (fail))
      refine wpQuiet_nil ?_
      intro _ hw'
      obtain ⟨s1, hw''⟩ := hw'
      subst hw''
      have hxo := over_below V2 s1
      replace HTW := Lib.hid (HTW.out.ext hxo)
      replace HIW := Lib.hid (HIW.out.ext hxo)
      replace HRW := Lib.hid (HRW.out.ext hxo)
      clear hxo hg0 hgl c0 c1 c2 c3 c4 c5 c6 c7 c8 c9 c10 c11 cz cl
      generalize over V2 s1 = V3 at HTW HIW HRW ⊢
      have ⟨c0, c1, c2, c3, c4, c5, c6, c7, c8, c9, c10, c11, cz, cl⟩ := HTW.out.cs
      rw [hlen.out] at c11
      go_wp2
      refine wp_region_mix (fun w' => ∃ s, w' = over V3 s) [(0, [0, 1, 2, 3, 4, 5, 6, 7, 8, 9, 10, 11, 12, 13]), (2, [14])] (by kernel_rfl) (by kernel_rfl) (over_of (ext_drew (ext_refl V3))) ?_
      simp only [pieces, pickL, List.map_cons, List.map_nil, List.getD_cons_zero, List.getD_cons_succ]
      refine mix_reads ?_
      repeat (go_big_quiet_step (fail))
      refine wpQuiet_nil (mix_late ?_)
      have hxd := ext_drew (ext_refl V3)
      have hR0 := HRW.out
      rw [hmn.out] at hR0
      have hR1 := hR0.init
      have hnb2 : (Value.slice (some ⟨g, off9, none⟩) rest.length rc).ownBlock ≠ Option.some B := hnbv.out
      have HY := Lib.hid (And.intro ((HTW.out.s11 (.slice (some ⟨g, off9, none⟩) rest.length rc)).ext (ext_drew (ext_refl _))) (And.intro ((HIW.out.set 11 (.slice (some ⟨g, off9, none⟩) rest.length rc) hB hBw2).ext (ext_drew (ext_refl _))) ((hR1.setB 11 (.slice (some ⟨g, off9, none⟩) rest.length rc) hnb2).ext (ext_drew (ext_refl _)))))
      have ⟨d0, d1, d2, d3, d4, d5, d6, d7, d8, d9, d10, d11, dz, dl⟩ := (HTW.out.ext hxd).cs
      replace hnb2 := Lib.hid hnb2
      clear hR0 hR1 hxd HTW HIW HRW c0 c1 c2 c3 c4 c5 c6 c7 c8 c9 c10 c11 cz cl
      go_wp2
      refine lateQ_mk (fun _ => True) trivial (mix_end ?_)
      obtain ⟨hT9, hI9, hR9⟩ := HY.out
      clear HY d0 d1 d2 d3 d4 d5 d6 d7 d8 d9 d10 d11 dz dl
      generalize (World.drew (World.setCell _ (⟨B, 11, none⟩ : Addr) _)) = V4 at hT9 hI9 hR9 ⊢
      replace hT9 := Lib.hid hT9
      replace hI9 := Lib.hid hI9
      replace hR9 := Lib.hid hR9
      go_wp2
      go_ret
      refine ⟨M', l', T', t.pushed rest N' (.dn n), noF, .slice (some ⟨g, off9, none⟩) rest.length rc, y2, a2, fn2, by first | rfl | (congr 2; simp), hI9.out.m, HGN.out, hT0.out, ?_, fun j hj => hj.elim, hI9.out.fr, .inl rfl, .inl HMU.out, fun hf => (by cases hf), rfl⟩
      refine ⟨?_, hR9.out, hnb2.out, HFN2.out, fun hf => (by cases hf), bnd_no _, fun j hj => hj.elim⟩
      show Th12 B _ _ (.bool false) (.bool t.pop) _ _ _ _ _ _ _ _ _
      rw [hq]
      exact hT9.out
  · simp only [pickL, List.map_cons, List.map_nil, List.getD_cons_zero, List.getD_cons_succ]
    go_wp2_with (go_at_call 16; refine (cap_int HI.out.m 0 1#64 (by omega) (by rw [HI.out.mg.n]; omega) (Lib.hid HI.out.mg.e)).mono ?_; rintro e XC ⟨rfl, hx⟩; refine Hid.out ?_)
    refine Lib.hid ?_
    replace HZ := Lib.hid (HZ.out.ext hx)
    replace HI := Lib.hid (HI.out.ext hx)
    replace HQ := Lib.hid (HQ.out.ext hx)
    replace HT := Lib.hid (HT.out.ext hx)
    replace HR := Lib.hid (HR.out.ext hx)
    replace hsx := Nat.le_trans hsx hx.size
    clear hx
    go_wp2
    refine mixQ_mk (off_of HZ.out) ?_
    refine ways_fork 11 (by kernel_rfl) ?_ (ways_act 7 (by kernel_rfl) ?_)
    · simp only [pickL, List.map_cons, List.map_nil, List.getD_cons_zero, List.getD_cons_succ]
      go_wp2
      have hxa := ext_alloc (.cells #[.int .i64 0, .int .i64 0, .int .i64 0, .int .u64 0, .int .u64 0, .nilFunc, .pointer none] 39) (ext_refl XC)
      replace HZ := Lib.hid (HZ.out.ext hxa)
      replace HI := Lib.hid (HI.out.ext hxa)
      replace HT := Lib.hid (HT.out.ext hxa)
      replace HR := Lib.hid (HR.out.ext hxa)
      replace HQ := Lib.hid (HQ.out.ext hxa)
      have hbx := Lib.hid (heap_at XC (.cells #[.int .i64 0, .int .i64 0, .int .i64 0, .int .u64 0, .int .u64 0, .nilFunc, .pointer none] 39) XC.heap.size rfl)
      have hlx : W.heap.size ≤ XC.heap.size := hsx
      replace hsx : W.heap.size ≤ (XC.alloc (.cells #[.int .i64 0, .int .i64 0, .int .i64 0, .int .u64 0, .int .u64 0, .nilFunc, .pointer none] 39)).heap.size := by simp; omega
      clear hxa
      refine mixQ_mk (off_of HZ.out) ?_
      generalize XC.alloc (.cells #[.int .i64 0, .int .i64 0, .int .i64 0, .int .u64 0, .int .u64 0, .nilFunc, .pointer none] 39) = XA at HZ HI hbx hsx HT HR HQ ⊢
      generalize XC.heap.size = bx at hbx hlx ⊢
      refine ways_act 7 (by kernel_rfl) ?_
      simp only [pickL, List.map_cons, List.map_nil, List.getD_cons_zero, List.getD_cons_succ]
      go_wp2_with (go_at_call 19; refine (step_QI9 HQ.out HI.out.m HST.out).mono ?_; rintro e XS ⟨v2, F2, rfl, hp, hbn, hsub, hm, hf⟩; refine Hid.out ?_)
      refine Lib.hid ?_
      have hp2 := Lib.hid hp
      have hbn2 := Lib.hid hbn
      have hof2 := Lib.hid (fun j (hj : F2 j) => (hsub j hj).elim (fun h => (HQ.out.of j h)) (fun h => (⟨.inr (Nat.le_trans HI.out.m.top h), fun e => by omega, fun e => by have := hgl0 _ e; omega⟩ : (j < lo ∨ hi ≤ j) ∧ j ≠ B ∧ (Value.slice ra t.mine.length rc).ownBlock ≠ some j)))
      have HBO : Hid (∀ j, F2 j → j < XS.heap.size) := Lib.hid hbn
      have HSUB := Lib.hid (fun j (hj : F2 j) => (hsub j hj).imp_right (fun h => Nat.le_trans HI.out.fr.size h))
      have hnb : Hid (¬ F2 bx) := Lib.hid (fun h => (hsub _ h).elim (fun h => by have := HQF.out _ h; omega) (fun h => by have := heap_lt hbx.out; omega))
      replace HZ := Lib.hid (HZ.out.trans hf)
      replace HT := Lib.hid (HT.out.fr hf hB)
      replace HR := Lib.hid (HR.out.fr hf (Nat.le_of_lt (Nat.lt_of_le_of_lt hB hBb)))
      replace HI := Lib.hid (HI.out.ran hm hf HFL.out.mg (Nat.le_of_lt (Nat.lt_of_le_of_lt hB hBl)))
      replace hbx := Lib.hid ((hf.block _ (heap_lt hbx.out) (.inr (Nat.le_trans hwtop hlx))).trans hbx.out)
      replace hsx := Nat.le_trans hsx hf.size
      obtain ⟨y2, a2, fn2, rfl, hfn2⟩ := shI hp
      have HFN2 := Lib.hid hfn2
      clear hf hm hp hbn hsub hfn2 HQ
      go_wp2
      refine mixQ_mk (off_of HZ.out) ?_
      refine ways_reads [8, 9, 10] (by kernel_rfl) ?_
      simp only [pickL, List.map_cons, List.map_nil, List.getD_cons_zero, List.getD_cons_succ]
      repeat (go_big_quiet_step (fail))
      refine wpQuiet_nil ?_
      refine ways_act 12 (by kernel_rfl) ?_
      simp only [pickL, List.map_cons, List.map_nil, List.getD_cons_zero, List.getD_cons_succ]
      obtain ⟨k0, k1, k2, k3, k4, k5, k6, kz, kl⟩ := sev_of hbx.out
      have hB := put7_block (.int .i64 y2) (.int .i64 a2.op) (.int .i64 a2.at_) (.int .u64 (U a2.a)) (.int .u64 (U a2.b)) fn2 (.pointer none) hbx.out
      have hP := hp2.out.agr (Agr.of_put7 (b := bx) (.int .i64 y2) (.int .i64 a2.op) (.int .i64 a2.at_) (.int .u64 (U a2.a)) (.int .u64 (U a2.b)) fn2 (.pointer none) hnb.out)
      have hZZ := put7_frNew (b := bx) (.int .i64 y2) (.int .i64 a2.op) (.int .i64 a2.at_) (.int .u64 (U a2.a)) (.int .u64 (U a2.b)) fn2 (.pointer none) HZ.out hlx
      have hII := HI.out.put7 (b := bx) (.int .i64 y2) (.int .i64 a2.op) (.int .i64 a2.at_) (.int .u64 (U a2.a)) (.int .u64 (U a2.b)) fn2 (.pointer none) (Nat.le_trans hwtop hlx) (by omega) (by omega)
      have hSS : (put7 bx (.int .i64 y2) (.int .i64 a2.op) (.int .i64 a2.at_) (.int .u64 (U a2.a)) (.int .u64 (U a2.b)) fn2 (.pointer none) XS).heap.size = XS.heap.size := put7_size (.int .i64 y2) (.int .i64 a2.op) (.int .i64 a2.at_) (.int .u64 (U a2.a)) (.int .u64 (U a2.b)) fn2 (.pointer none)
      have hO0 := HT.out.put7 (b := bx) (.int .i64 y2) (.int .i64 a2.op) (.int .i64 a2.at_) (.int .u64 (U a2.a)) (.int .u64 (U a2.b)) fn2 (.pointer none) (by omega)
      have hO1 := HR.out.put7 (b := bx) (.int .i64 y2) (.int .i64 a2.op) (.int .i64 a2.at_) (.int .u64 (U a2.a)) (.int .u64 (U a2.b)) fn2 (.pointer none) (fun e => by have := hgl0 _ e; omega)
      rw [put7] at hB hP hZZ hII hSS hO0 hO1
      have HY := Lib.hid (And.intro hB (And.intro hP (And.intro hZZ (And.intro hII (And.intro hO0 (And.intro hO1 (hSS)))))))
      have HSW := Lib.hid (And.intro hbn2.out hsx)
      have hsf := store_fn HFN2.out
      clear hB hP hZZ hII hO0 hO1 hSS hp2 HZ HI hbx hbn2 HT HR
      go_wp2
      obtain ⟨hB, hP, hZZ, hII, hO0, hO1, hSS⟩ := HY.out
      obtain ⟨hbn2, hsx2⟩ := HSW.out
      rw [← hSS] at hsx2
      have hbn3 : Bnd F2 _ := hbn2.ext (Nat.le_of_eq hSS.symm)
      clear HY HSW k0 k1 k2 k3 k4 k5 k6 kz kl hSS hsf
      generalize (World.setCell _ (⟨bx, 6, none⟩ : Addr) _) = Y at hB hP hZZ hII hsx2 hbn3 hO0 hO1 ⊢
      refine mixQ_mk (off_of hZZ) ?_
      have HB := Lib.hid hB
      have HPT := Lib.hid hP
      have HZZ := Lib.hid hZZ
      have HI := Lib.hid hII
      have HBN := Lib.hid hbn3
      have HOF := hof2
      have HT := Lib.hid hO0
      have HR := Lib.hid hO1
      clear hB hP hZZ hII hbn3 hof2 hO0 hO1
      refine ways_reads [13] (by kernel_rfl) ?_
      simp only [pickL, List.map_cons, List.map_nil, List.getD_cons_zero, List.getD_cons_succ]
      repeat (go_big_quiet_step (fail))
      refine wpQuiet_nil ?_
      refine ways_end (by kernel_rfl) ?_
      obtain ⟨k0, k1, k2, k3, k4, k5, k6, kz, kl⟩ := sev_of HB.out
      have ⟨c0, c1, c2, c3, c4, c5, c6, c7, c8, c9, c10, c11, cz, cl⟩ := HT.out.cs
      have hsf := store_fn HFN2.out
      have hT9 := HT.out.sP (.int .i64 y2) (.int .i64 a2.op) (.int .i64 a2.at_) (.int .u64 (U a2.a)) (.int .u64 (U a2.b)) fn2 (.pointer none)
      have hI9 := HI.out.put7o 4 (.int .i64 y2) (.int .i64 a2.op) (.int .i64 a2.at_) (.int .u64 (U a2.a)) (.int .u64 (U a2.b)) fn2 (.pointer none) hB hBw2
      have hR9 := HR.out.put7o 4 (.int .i64 y2) (.int .i64 a2.op) (.int .i64 a2.at_) (.int .u64 (U a2.a)) (.int .u64 (U a2.b)) fn2 (.pointer none) hnbv.out
      have hQ9 := HPT.out.agr (fun j hj => put7o_other (b := B) (o := 4) (.int .i64 y2) (.int .i64 a2.op) (.int .i64 a2.at_) (.int .u64 (U a2.a)) (.int .u64 (U a2.b)) fn2 (.pointer none) (HOF.out j hj).2.1)
      have hK9 : Blk bx (.cells #[.int .i64 y2, .int .i64 a2.op, .int .i64 a2.at_, .int .u64 (U a2.a), .int .u64 (U a2.b), fn2, .pointer none] 39) (put7o B 4 (.int .i64 y2) (.int .i64 a2.op) (.int .i64 a2.at_) (.int .u64 (U a2.a)) (.int .u64 (U a2.b)) fn2 (.pointer none) Y) := (put7o_other (.int .i64 y2) (.int .i64 a2.op) (.int .i64 a2.at_) (.int .u64 (U a2.a)) (.int .u64 (U a2.b)) fn2 (.pointer none) (by omega)).trans HB.out
      have hN9 : Bnd F2 (put7o B 4 (.int .i64 y2) (.int .i64 a2.op) (.int .i64 a2.at_) (.int .u64 (U a2.a)) (.int .u64 (U a2.b)) fn2 (.pointer none) Y) := HBN.out.ext (by rw [put7o_size]; exact Nat.le_refl _)
      simp only [put7o, Nat.reduceAdd] at hT9 hI9 hR9 hQ9 hK9 hN9
      have HY := Lib.hid (And.intro hT9 (And.intro hI9 (And.intro hR9 (And.intro hQ9 (And.intro hK9 hN9)))))
      clear hT9 hI9 hR9 hQ9 hK9 hN9 HPT HI HT HR HBN HB
      go_upto_region 16 with (fail)
      obtain ⟨hT9, hI9, hR9, hQ9, hK9, hN9⟩ := HY.out
      clear HY hsf k0 k1 k2 k3 k4 k5 k6 kz kl c0 c1 c2 c3 c4 c5 c6 c7 c8 c9 c10 c11 cz cl
      generalize (World.setCell _ (⟨B, 10, none⟩ : Addr) _) = V at hT9 hI9 hR9 hQ9 hK9 hN9 ⊢
      have HT := Lib.hid hT9
      have HI := Lib.hid hI9
      have HR := Lib.hid hR9
      have HQ := Lib.hid hQ9
      have HN := Lib.hid hN9
      obtain ⟨k0, k1, k2, k3, k4, k5, k6, kz, kl⟩ := sev_of hK9
      clear hT9 hI9 hR9 hQ9 hK9 hN9
      rcases HTO.out with ⟨h3, h4⟩ | ⟨h3, h4⟩
      · obtain ⟨o1, o2⟩ := ov_push p N' hnx0.out h3
        replace o1 := Lib.hid o1
        replace o2 := Lib.hid o2
        go_wp2_with (go_at_call 20; refine (over_I _ F2 _ _ HQ.out 0 false o1 o2).mono ?_; rintro e wv ⟨rfl, hx⟩; have HIV := Lib.hid (HI.out.ext hx); have HTV := Lib.hid (HT.out.ext hx); have HRV := Lib.hid (HR.out.ext hx); have HQV := Lib.hid (HQ.out.agr (Agr.of_ext hx HN.out)); have HNV := Lib.hid (HN.out.ext hx.size); clear hx)
        have hgo := pushed_go (t := t) (rest := rest) (N' := N') h3
        go_ret
        refine ⟨M', l', T', t.pushed rest N' s', F2, _, y2, a2, fn2, rfl, HIV.out.m, HGN.out, hT0.out, ?_, HSUB.out, HIV.out.fr, .inl rfl, .inl HMU.out, fun _ => by rw [hgo]; exact hN0, by rw [hgo]⟩
        rw [hgo]
        refine ⟨?_, HRV.out, hnbv.out, HFN2.out, fun _ => HQV.out, HNV.out, HOF.out⟩
        show Th12 B _ _ (.bool t.busy) (.bool t.pop) _ _ _ _ _ _ _ _ _
        rw [hb, hq]
        exact HTV.out
      · subst h3
        go_wp2_with (go_at_call 20; refine (over_I _ F2 _ _ HQ.out n true (Lib.hid rfl) (Lib.hid rfl)).mono ?_; rintro e wv ⟨rfl, hx⟩; have HIV := Lib.hid (HI.out.ext hx); have HTV := Lib.hid (HT.out.ext hx); have HRV := Lib.hid (HR.out.ext hx); have ⟨c0, c1, c2, c3, c4, c5, c6, c7, c8, c9, c10, c11, cz, cl⟩ := HTV.out.cs; clear hx k0 k1 k2 k3 k4 k5 k6 kz kl; refine Hid.out ?_)
        refine Lib.hid ?_
        have HY := Lib.hid (And.intro (HTV.out.s2 (.bool false)) (And.intro (HIV.out.set 2 (.bool false) hB hBw2) (HRV.out.setB 2 (.bool false) hnbv.out)))
        clear HTV HIV HRV
        go_upto_region 20 with (fail)
        obtain ⟨hT9, hI9, hR9⟩ := HY.out
        clear HY c0 c1 c2 c3 c4 c5 c6 c7 c8 c9 c10 c11 cz cl
        generalize (World.setCell _ (⟨B, 2, none⟩ : Addr) _) = V2 at hT9 hI9 hR9 ⊢
        have HTW := Lib.hid hT9
        have HIW := Lib.hid hI9
        have hR9' := hR9
        have hmn1 := hmn.out
        obtain ⟨g, off9, cap9, ev, hgl, hgb, hgc, hgd⟩ := hR9'.some (by rw [hlen.out]; omega)
        simp only [Value.slice.injEq, true_and] at ev
        obtain ⟨rfl, rfl⟩ := ev
        have hg0 : V2.cell? ⟨g, off9 + rest.length, none⟩ = Option.some (.int .i64 n) := by
          rw [hgd rest.length (by rw [hlen.out]; omega), hmn1, iN_snoc_eq]
        have HRW := Lib.hid hR9
        have ⟨c0, c1, c2, c3, c4, c5, c6, c7, c8, c9, c10, c11, cz, cl⟩ := hT9.cs
        rw [hlen.out] at c11
        have hgc1 : rest.length + 1 ≤ rc := by have := hlen.out; omega
        have hgB : g ≠ B := fun e => hnbv.out (by rw [e]; rfl)
        have hrl8 : (rest.length : Int) ≤ 1048576 := by have := hlen.out; omega
        clear hT9 hI9 hR9 hR9' HT HI HR HQ HN hgd hmn1
        go_wp2
        refine wp_region_over (by kernel_rfl) (by kernel_rfl) ?_
        repeat (go_big_quiet_step (fail))
        refine wpQuiet_nil ?_
        intro _ hw'
        obtain ⟨s1, hw''⟩ := hw'
        subst hw''
        have hxo := over_below V2 s1
        replace HTW := Lib.hid (HTW.out.ext hxo)
        replace HIW := Lib.hid (HIW.out.ext hxo)
        replace HRW := Lib.hid (HRW.out.ext hxo)
        clear hxo hg0 hgl c0 c1 c2 c3 c4 c5 c6 c7 c8 c9 c10 c11 cz cl
        generalize over V2 s1 = V3 at HTW HIW HRW ⊢
        have ⟨c0, c1, c2, c3, c4, c5, c6, c7, c8, c9, c10, c11, cz, cl⟩ := HTW.out.cs
        rw [hlen.out] at c11
        go_wp2
        refine wp_region_mix (fun w' => ∃ s, w' = over V3 s) [(0, [0, 1, 2, 3, 4, 5, 6, 7, 8, 9, 10, 11, 12, 13]), (2, [14])] (by kernel_rfl) (by kernel_rfl) (over_of (ext_drew (ext_refl V3))) ?_
        simp only [pieces, pickL, List.map_cons, List.map_nil, List.getD_cons_zero, List.getD_cons_succ]
        refine mix_reads ?_
        repeat (go_big_quiet_step (fail))
        refine wpQuiet_nil (mix_late ?_)
        have hxd := ext_drew (ext_refl V3)
        have hR0 := HRW.out
        rw [hmn.out] at hR0
        have hR1 := hR0.init
        have hnb2 : (Value.slice (some ⟨g, off9, none⟩) rest.length rc).ownBlock ≠ Option.some B := hnbv.out
        have HY := Lib.hid (And.intro ((HTW.out.s11 (.slice (some ⟨g, off9, none⟩) rest.length rc)).ext (ext_drew (ext_refl _))) (And.intro ((HIW.out.set 11 (.slice (some ⟨g, off9, none⟩) rest.length rc) hB hBw2).ext (ext_drew (ext_refl _))) ((hR1.setB 11 (.slice (some ⟨g, off9, none⟩) rest.length rc) hnb2).ext (ext_drew (ext_refl _)))))
        have ⟨d0, d1, d2, d3, d4, d5, d6, d7, d8, d9, d10, d11, dz, dl⟩ := (HTW.out.ext hxd).cs
        replace hnb2 := Lib.hid hnb2
        clear hR0 hR1 hxd HTW HIW HRW c0 c1 c2 c3 c4 c5 c6 c7 c8 c9 c10 c11 cz cl
        go_wp2
        refine lateQ_mk (fun _ => True) trivial (mix_end ?_)
        obtain ⟨hT9, hI9, hR9⟩ := HY.out
        clear HY d0 d1 d2 d3 d4 d5 d6 d7 d8 d9 d10 d11 dz dl
        generalize (World.drew (World.setCell _ (⟨B, 11, none⟩ : Addr) _)) = V4 at hT9 hI9 hR9 ⊢
        replace hT9 := Lib.hid hT9
        replace hI9 := Lib.hid hI9
        replace hR9 := Lib.hid hR9
        go_wp2
        go_ret
        refine ⟨M', l', T', t.pushed rest N' (.dn n), noF, .slice (some ⟨g, off9, none⟩) rest.length rc, y2, a2, fn2, by first | rfl | (congr 2; simp), hI9.out.m, HGN.out, hT0.out, ?_, fun j hj => hj.elim, hI9.out.fr, .inl rfl, .inl HMU.out, fun hf => (by cases hf), rfl⟩
        refine ⟨?_, hR9.out, hnb2.out, HFN2.out, fun hf => (by cases hf), bnd_no _, fun j hj => hj.elim⟩
        show Th12 B _ _ (.bool false) (.bool t.pop) _ _ _ _ _ _ _ _ _
        rw [hq]
        exact hT9.out
    · simp only [pickL, List.map_cons, List.map_nil, List.getD_cons_zero, List.getD_cons_succ]
      go_wp2_with (go_at_call 19; refine (step_QI9 HQ.out HI.out.m HST.out).mono ?_; rintro e XS ⟨v2, F2, rfl, hp, hbn, hsub, hm, hf⟩; refine Hid.out ?_)
      refine Lib.hid ?_
      have hp2 := Lib.hid hp
      have hbn2 := Lib.hid hbn
      have hof2 := Lib.hid (fun j (hj : F2 j) => (hsub j hj).elim (fun h => (HQ.out.of j h)) (fun h => (⟨.inr (Nat.le_trans HI.out.m.top h), fun e => by omega, fun e => by have := hgl0 _ e; omega⟩ : (j < lo ∨ hi ≤ j) ∧ j ≠ B ∧ (Value.slice ra t.mine.length rc).ownBlock ≠ some j)))
      have HBO : Hid (∀ j, F2 j → j < XS.heap.size) := Lib.hid hbn
      have HSUB := Lib.hid (fun j (hj : F2 j) => (hsub j hj).imp_right (fun h => Nat.le_trans HI.out.fr.size h))
      replace HZ := Lib.hid (HZ.out.trans hf)
      replace HT := Lib.hid (HT.out.fr hf hB)
      replace HR := Lib.hid (HR.out.fr hf (Nat.le_of_lt (Nat.lt_of_le_of_lt hB hBb)))
      replace HI := Lib.hid (HI.out.ran hm hf HFL.out.mg (Nat.le_of_lt (Nat.lt_of_le_of_lt hB hBl)))
      replace hsx := Nat.le_trans hsx hf.size
      obtain ⟨y2, a2, fn2, rfl, hfn2⟩ := shI hp
      have HFN2 := Lib.hid hfn2
      clear hf hm hp hbn hsub hfn2 HQ
      go_wp2
      refine mixQ_mk (off_of HZ.out) ?_
      refine ways_reads [8, 9, 10] (by kernel_rfl) ?_
      simp only [pickL, List.map_cons, List.map_nil, List.getD_cons_zero, List.getD_cons_succ]
      repeat (go_big_quiet_step (fail))
      refine wpQuiet_nil ?_
      refine ways_act 11 (by kernel_rfl) ?_
      simp only [pickL, List.map_cons, List.map_nil, List.getD_cons_zero, List.getD_cons_succ]
      go_wp2
      have hxa := ext_alloc (.cells #[.int .i64 0, .int .i64 0, .int .i64 0, .int .u64 0, .int .u64 0, .nilFunc, .pointer none] 39) (ext_refl XS)
      replace HZ := Lib.hid (HZ.out.ext hxa)
      replace HI := Lib.hid (HI.out.ext hxa)
      replace HT := Lib.hid (HT.out.ext hxa)
      replace HR := Lib.hid (HR.out.ext hxa)
      replace hp2 := Lib.hid (hp2.out.agr (Agr.of_ext hxa hbn2.out))
      replace hbn2 := Lib.hid (hbn2.out.ext hxa.size)
      have hbx := Lib.hid (heap_at XS (.cells #[.int .i64 0, .int .i64 0, .int .i64 0, .int .u64 0, .int .u64 0, .nilFunc, .pointer none] 39) XS.heap.size rfl)
      have hlx : W.heap.size ≤ XS.heap.size := hsx
      replace hsx : W.heap.size ≤ (XS.alloc (.cells #[.int .i64 0, .int .i64 0, .int .i64 0, .int .u64 0, .int .u64 0, .nilFunc, .pointer none] 39)).heap.size := by simp; omega
      have hnb : Hid (¬ F2 XS.heap.size) := Lib.hid (fun h => by have := HBO.out _ h; omega)
      clear hxa
      refine mixQ_mk (off_of HZ.out) ?_
      generalize XS.alloc (.cells #[.int .i64 0, .int .i64 0, .int .i64 0, .int .u64 0, .int .u64 0, .nilFunc, .pointer none] 39) = XA at HZ HI hbx hsx HT HR hp2 hbn2 ⊢
      generalize XS.heap.size = bx at hbx hlx hnb ⊢
      refine ways_act 12 (by kernel_rfl) ?_
      simp only [pickL, List.map_cons, List.map_nil, List.getD_cons_zero, List.getD_cons_succ]
      obtain ⟨k0, k1, k2, k3, k4, k5, k6, kz, kl⟩ := sev_of hbx.out
      have hB := put7_block (.int .i64 y2) (.int .i64 a2.op) (.int .i64 a2.at_) (.int .u64 (U a2.a)) (.int .u64 (U a2.b)) fn2 (.pointer none) hbx.out
      have hP := hp2.out.agr (Agr.of_put7 (b := bx) (.int .i64 y2) (.int .i64 a2.op) (.int .i64 a2.at_) (.int .u64 (U a2.a)) (.int .u64 (U a2.b)) fn2 (.pointer none) hnb.out)
      have hZZ := put7_frNew (b := bx) (.int .i64 y2) (.int .i64 a2.op) (.int .i64 a2.at_) (.int .u64 (U a2.a)) (.int .u64 (U a2.b)) fn2 (.pointer none) HZ.out hlx
      have hII := HI.out.put7 (b := bx) (.int .i64 y2) (.int .i64 a2.op) (.int .i64 a2.at_) (.int .u64 (U a2.a)) (.int .u64 (U a2.b)) fn2 (.pointer none) (Nat.le_trans hwtop hlx) (by omega) (by omega)
      have hSS : (put7 bx (.int .i64 y2) (.int .i64 a2.op) (.int .i64 a2.at_) (.int .u64 (U a2.a)) (.int .u64 (U a2.b)) fn2 (.pointer none) XA).heap.size = XA.heap.size := put7_size (.int .i64 y2) (.int .i64 a2.op) (.int .i64 a2.at_) (.int .u64 (U a2.a)) (.int .u64 (U a2.b)) fn2 (.pointer none)
      have hO0 := HT.out.put7 (b := bx) (.int .i64 y2) (.int .i64 a2.op) (.int .i64 a2.at_) (.int .u64 (U a2.a)) (.int .u64 (U a2.b)) fn2 (.pointer none) (by omega)
      have hO1 := HR.out.put7 (b := bx) (.int .i64 y2) (.int .i64 a2.op) (.int .i64 a2.at_) (.int .u64 (U a2.a)) (.int .u64 (U a2.b)) fn2 (.pointer none) (fun e => by have := hgl0 _ e; omega)
      rw [put7] at hB hP hZZ hII hSS hO0 hO1
      have HY := Lib.hid (And.intro hB (And.intro hP (And.intro hZZ (And.intro hII (And.intro hO0 (And.intro hO1 (hSS)))))))
      have HSW := Lib.hid (And.intro hbn2.out hsx)
      have hsf := store_fn HFN2.out
      clear hB hP hZZ hII hO0 hO1 hSS hp2 HZ HI hbx hbn2 HT HR
      go_wp2
      obtain ⟨hB, hP, hZZ, hII, hO0, hO1, hSS⟩ := HY.out
      obtain ⟨hbn2, hsx2⟩ := HSW.out
      rw [← hSS] at hsx2
      have hbn3 : Bnd F2 _ := hbn2.ext (Nat.le_of_eq hSS.symm)
      clear HY HSW k0 k1 k2 k3 k4 k5 k6 kz kl hSS hsf
      generalize (World.setCell _ (⟨bx, 6, none⟩ : Addr) _) = Y at hB hP hZZ hII hsx2 hbn3 hO0 hO1 ⊢
      refine mixQ_mk (off_of hZZ) ?_
      have HB := Lib.hid hB
      have HPT := Lib.hid hP
      have HZZ := Lib.hid hZZ
      have HI := Lib.hid hII
      have HBN := Lib.hid hbn3
      have HOF := hof2
      have HT := Lib.hid hO0
      have HR := Lib.hid hO1
      clear hB hP hZZ hII hbn3 hof2 hO0 hO1
      refine ways_reads [13] (by kernel_rfl) ?_
      simp only [pickL, List.map_cons, List.map_nil, List.getD_cons_zero, List.getD_cons_succ]
      repeat (go_big_quiet_step (fail))
      refine wpQuiet_nil ?_
      refine ways_end (by kernel_rfl) ?_
      obtain ⟨k0, k1, k2, k3, k4, k5, k6, kz, kl⟩ := sev_of HB.out
      have ⟨c0, c1, c2, c3, c4, c5, c6, c7, c8, c9, c10, c11, cz, cl⟩ := HT.out.cs
      have hsf := store_fn HFN2.out
      have hT9 := HT.out.sP (.int .i64 y2) (.int .i64 a2.op) (.int .i64 a2.at_) (.int .u64 (U a2.a)) (.int .u64 (U a2.b)) fn2 (.pointer none)
      have hI9 := HI.out.put7o 4 (.int .i64 y2) (.int .i64 a2.op) (.int .i64 a2.at_) (.int .u64 (U a2.a)) (.int .u64 (U a2.b)) fn2 (.pointer none) hB hBw2
      have hR9 := HR.out.put7o 4 (.int .i64 y2) (.int .i64 a2.op) (.int .i64 a2.at_) (.int .u64 (U a2.a)) (.int .u64 (U a2.b)) fn2 (.pointer none) hnbv.out
      have hQ9 := HPT.out.agr (fun j hj => put7o_other (b := B) (o := 4) (.int .i64 y2) (.int .i64 a2.op) (.int .i64 a2.at_) (.int .u64 (U a2.a)) (.int .u64 (U a2.b)) fn2 (.pointer none) (HOF.out j hj).2.1)
      have hK9 : Blk bx (.cells #[.int .i64 y2, .int .i64 a2.op, .int .i64 a2.at_, .int .u64 (U a2.a), .int .u64 (U a2.b), fn2, .pointer none] 39) (put7o B 4 (.int .i64 y2) (.int .i64 a2.op) (.int .i64 a2.at_) (.int .u64 (U a2.a)) (.int .u64 (U a2.b)) fn2 (.pointer none) Y) := (put7o_other (.int .i64 y2) (.int .i64 a2.op) (.int .i64 a2.at_) (.int .u64 (U a2.a)) (.int .u64 (U a2.b)) fn2 (.pointer none) (by omega)).trans HB.out
      have hN9 : Bnd F2 (put7o B 4 (.int .i64 y2) (.int .i64 a2.op) (.int .i64 a2.at_) (.int .u64 (U a2.a)) (.int .u64 (U a2.b)) fn2 (.pointer none) Y) := HBN.out.ext (by rw [put7o_size]; exact Nat.le_refl _)
      simp only [put7o, Nat.reduceAdd] at hT9 hI9 hR9 hQ9 hK9 hN9
      have HY := Lib.hid (And.intro hT9 (And.intro hI9 (And.intro hR9 (And.intro hQ9 (And.intro hK9 hN9)))))
      clear hT9 hI9 hR9 hQ9 hK9 hN9 HPT HI HT HR HBN HB
      go_upto_region 16 with (fail)
      obtain ⟨hT9, hI9, hR9, hQ9, hK9, hN9⟩ := HY.out
      clear HY hsf k0 k1 k2 k3 k4 k5 k6 kz kl c0 c1 c2 c3 c4 c5 c6 c7 c8 c9 c10 c11 cz cl
      generalize (World.setCell _ (⟨B, 10, none⟩ : Addr) _) = V at hT9 hI9 hR9 hQ9 hK9 hN9 ⊢
      have HT := Lib.hid hT9
      have HI := Lib.hid hI9
      have HR := Lib.hid hR9
      have HQ := Lib.hid hQ9
      have HN := Lib.hid hN9
      obtain ⟨k0, k1, k2, k3, k4, k5, k6, kz, kl⟩ := sev_of hK9
      clear hT9 hI9 hR9 hQ9 hK9 hN9
      rcases HTO.out with ⟨h3, h4⟩ | ⟨h3, h4⟩
      · obtain ⟨o1, o2⟩ := ov_push p N' hnx0.out h3
        replace o1 := Lib.hid o1
        replace o2 := Lib.hid o2
        go_wp2_with (go_at_call 20; refine (over_I _ F2 _ _ HQ.out 0 false o1 o2).mono ?_; rintro e wv ⟨rfl, hx⟩; have HIV := Lib.hid (HI.out.ext hx); have HTV := Lib.hid (HT.out.ext hx); have HRV := Lib.hid (HR.out.ext hx); have HQV := Lib.hid (HQ.out.agr (Agr.of_ext hx HN.out)); have HNV := Lib.hid (HN.out.ext hx.size); clear hx)
        have hgo := pushed_go (t := t) (rest := rest) (N' := N') h3
        go_ret
        refine ⟨M', l', T', t.pushed rest N' s', F2, _, y2, a2, fn2, rfl, HIV.out.m, HGN.out, hT0.out, ?_, HSUB.out, HIV.out.fr, .inl rfl, .inl HMU.out, fun _ => by rw [hgo]; exact hN0, by rw [hgo]⟩
        rw [hgo]
        refine ⟨?_, HRV.out, hnbv.out, HFN2.out, fun _ => HQV.out, HNV.out, HOF.out⟩
        show Th12 B _ _ (.bool t.busy) (.bool t.pop) _ _ _ _ _ _ _ _ _
        rw [hb, hq]
        exact HTV.out
      · subst h3
        go_wp2_with (go_at_call 20; refine (over_I _ F2 _ _ HQ.out n true (Lib.hid rfl) (Lib.hid rfl)).mono ?_; rintro e wv ⟨rfl, hx⟩; have HIV := Lib.hid (HI.out.ext hx); have HTV := Lib.hid (HT.out.ext hx); have HRV := Lib.hid (HR.out.ext hx); have ⟨c0, c1, c2, c3, c4, c5, c6, c7, c8, c9, c10, c11, cz, cl⟩ := HTV.out.cs; clear hx k0 k1 k2 k3 k4 k5 k6 kz kl; refine Hid.out ?_)
        refine Lib.hid ?_
        have HY := Lib.hid (And.intro (HTV.out.s2 (.bool false)) (And.intro (HIV.out.set 2 (.bool false) hB hBw2) (HRV.out.setB 2 (.bool false) hnbv.out)))
        clear HTV HIV HRV
        go_upto_region 20 with (fail)
        obtain ⟨hT9, hI9, hR9⟩ := HY.out
        clear HY c0 c1 c2 c3 c4 c5 c6 c7 c8 c9 c10 c11 cz cl
        generalize (World.setCell _ (⟨B, 2, none⟩ : Addr) _) = V2 at hT9 hI9 hR9 ⊢
        have HTW := Lib.hid hT9
        have HIW := Lib.hid hI9
        have hR9' := hR9
        have hmn1 := hmn.out
        obtain ⟨g, off9, cap9, ev, hgl, hgb, hgc, hgd⟩ := hR9'.some (by rw [hlen.out]; omega)
        simp only [Value.slice.injEq, true_and] at ev
        obtain ⟨rfl, rfl⟩ := ev
        have hg0 : V2.cell? ⟨g, off9 + rest.length, none⟩ = Option.some (.int .i64 n) := by
          rw [hgd rest.length (by rw [hlen.out]; omega), hmn1, iN_snoc_eq]
        have HRW := Lib.hid hR9
        have ⟨c0, c1, c2, c3, c4, c5, c6, c7, c8, c9, c10, c11, cz, cl⟩ := hT9.cs
        rw [hlen.out] at c11
        have hgc1 : rest.length + 1 ≤ rc := by have := hlen.out; omega
        have hgB : g ≠ B := fun e => hnbv.out (by rw [e]; rfl)
        have hrl8 : (rest.length : Int) ≤ 1048576 := by have := hlen.out; omega
        clear hT9 hI9 hR9 hR9' HT HI HR HQ HN hgd hmn1
        go_wp2
        refine wp_region_over (by kernel_rfl) (by kernel_rfl) ?_
        repeat (go_big_quiet_step (fail))
        refine wpQuiet_nil ?_
        intro _ hw'
        obtain ⟨s1, hw''⟩ := hw'
        subst hw''
        have hxo := over_below V2 s1
        replace HTW := Lib.hid (HTW.out.ext hxo)
        replace HIW := Lib.hid (HIW.out.ext hxo)
        replace HRW := Lib.hid (HRW.out.ext hxo)
        clear hxo hg0 hgl c0 c1 c2 c3 c4 c5 c6 c7 c8 c9 c10 c11 cz cl
        generalize over V2 s1 = V3 at HTW HIW HRW ⊢
        have ⟨c0, c1, c2, c3, c4, c5, c6, c7, c8, c9, c10, c11, cz, cl⟩ := HTW.out.cs
        rw [hlen.out] at c11
        go_wp2
        refine wp_region_mix (fun w' => ∃ s, w' = over V3 s) [(0, [0, 1, 2, 3, 4, 5, 6, 7, 8, 9, 10, 11, 12, 13]), (2, [14])] (by kernel_rfl) (by kernel_rfl) (over_of (ext_drew (ext_refl V3))) ?_
        simp only [pieces, pickL, List.map_cons, List.map_nil, List.getD_cons_zero, List.getD_cons_succ]
        refine mix_reads ?_
        repeat (go_big_quiet_step (fail))
        refine wpQuiet_nil (mix_late ?_)
        have hxd := ext_drew (ext_refl V3)
        have hR0 := HRW.out
        rw [hmn.out] at hR0
        have hR1 := hR0.init
        have hnb2 : (Value.slice (some ⟨g, off9, none⟩) rest.length rc).ownBlock ≠ Option.some B := hnbv.out
        have HY := Lib.hid (And.intro ((HTW.out.s11 (.slice (some ⟨g, off9, none⟩) rest.length rc)).ext (ext_drew (ext_refl _))) (And.intro ((HIW.out.set 11 (.slice (some ⟨g, off9, none⟩) rest.length rc) hB hBw2).ext (ext_drew (ext_refl _))) ((hR1.setB 11 (.slice (some ⟨g, off9, none⟩) rest.length rc) hnb2).ext (ext_drew (ext_refl _)))))
        have ⟨d0, d1, d2, d3, d4, d5, d6, d7, d8, d9, d10, d11, dz, dl⟩ := (HTW.out.ext hxd).cs
        replace hnb2 := Lib.hid hnb2
        clear hR0 hR1 hxd HTW HIW HRW c0 c1 c2 c3 c4 c5 c6 c7 c8 c9 c10 c11 cz cl
        go_wp2
        refine lateQ_mk (fun _ => True) trivial (mix_end ?_)
        obtain ⟨hT9, hI9, hR9⟩ := HY.out
        clear HY d0 d1 d2 d3 d4 d5 d6 d7 d8 d9 d10 d11 dz dl
        generalize (World.drew (World.setCell _ (⟨B, 11, none⟩ : Addr) _)) = V4 at hT9 hI9 hR9 ⊢
        replace hT9 := Lib.hid hT9
        replace hI9 := Lib.hid hI9
        replace hR9 := Lib.hid hR9
        go_wp2
        go_ret
        refine ⟨M', l', T', t.pushed rest N' (.dn n), noF, .slice (some ⟨g, off9, none⟩) rest.length rc, y2, a2, fn2, by first | rfl | (congr 2; simp), hI9.out.m, HGN.out, hT0.out, ?_, fun j hj => hj.elim, hI9.out.fr, .inl rfl, .inl HMU.out, fun hf => (by cases hf), rfl⟩
        refine ⟨?_, hR9.out, hnb2.out, HFN2.out, fun hf => (by cases hf), bnd_no _, fun j hj => hj.elim⟩
        show Th12 B _ _ (.bool false) (.bool t.pop) _ _ _ _ _ _ _ _ _
        rw [hq]
        exact hT9.out
end Go.Proofs.Ytpidmbclgfnekaa
