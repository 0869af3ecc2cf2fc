/-
  The law FreeStalls, walked. Conditions: those of each theorem.
-/
import Derived.Test.YtlpjmnbipbgkdaaGar
namespace Go.Proofs.Ytlpjmnbipbgkdaa
open Go Go.RowKit

set_option maxRecDepth 8000 in
set_option maxHeartbeats 1000000 in
theorem stalls_nofew (p : Pl) (st : Int) (a : Option Addr) (n c : Nat) (hf : ¬ p.few) (w : World) : Calls Try.prog 6 #[plV p, .int .u8 st, .slice a n c] w (Ret (.bool true) w) := by
  have HFW := Lib.hid hf
  clear hf
  go_enter Try.func6, Try.ntmps6
  go_wp2_with (first
    | (go_at_call 7; refine (fwake_any _).mono ?_; rintro e w' hr; obtain ⟨rfl, s, rfl⟩ := hr.over; clear hr)
    | (go_at_call 8; refine (few_any p _ false (hid_no HFW.out)).mono ?_; rintro e w' hr; obtain ⟨rfl, s, rfl⟩ := hr.over; clear hr))
  go_ret
  exact Ret.mk (by repeat (first | exact ext_refl _ | apply ext_over | apply ext_alloc))
set_option maxRecDepth 8000 in
set_option maxHeartbeats 1000000 in
theorem stalls_noform (p : Pl) (st : Int) (a : Option Addr) (n c : Nat) (hf : p.few) (hp : ¬ p.ok) (w : World) : Calls Try.prog 6 #[plV p, .int .u8 st, .slice a n c] w (Ret (.bool true) w) := by
  have HFW := Lib.hid hf
  clear hf
  have HP := Lib.hid hp
  clear hp
  go_enter Try.func6, Try.ntmps6
  go_wp2_with (first
    | (go_at_call 7; refine (fwake_any _).mono ?_; rintro e w' hr; obtain ⟨rfl, s, rfl⟩ := hr.over; clear hr)
    | (go_at_call 8; refine (few_any p _ true (hid_yes HFW.out)).mono ?_; rintro e w' hr; obtain ⟨rfl, s, rfl⟩ := hr.over; clear hr)
    | (go_at_call 9; refine (rformed_any p _ false (hid_no HP.out)).mono ?_; rintro e w' hr; obtain ⟨rfl, s, rfl⟩ := hr.over; clear hr))
  go_ret
  exact Ret.mk (by repeat (first | exact ext_refl _ | apply ext_over | apply ext_alloc))
set_option maxRecDepth 8000 in
set_option maxHeartbeats 1000000 in
theorem stalls_long (p : Pl) (st : Int) (a : Option Addr) (n c : Nat) (hf : p.few) (hp : p.ok) (hn : 40 < n) (w : World) : Calls Try.prog 6 #[plV p, .int .u8 st, .slice a n c] w (Ret (.bool true) w) := by
  have HFW := Lib.hid hf
  clear hf
  have HP := Lib.hid hp
  clear hp
  have q1 : decide (40 < (n : Int)) = true := by simp; omega
  go_enter Try.func6, Try.ntmps6
  go_wp2_with (first
    | (go_at_call 7; refine (fwake_any _).mono ?_; rintro e w' hr; obtain ⟨rfl, s, rfl⟩ := hr.over; clear hr)
    | (go_at_call 8; refine (few_any p _ true (hid_yes HFW.out)).mono ?_; rintro e w' hr; obtain ⟨rfl, s, rfl⟩ := hr.over; clear hr)
    | (go_at_call 9; refine (rformed_any p _ true (hid_yes HP.out)).mono ?_; rintro e w' hr; obtain ⟨rfl, s, rfl⟩ := hr.over; clear hr))
  go_ret
  exact Ret.mk (by repeat (first | exact ext_refl _ | apply ext_over | apply ext_alloc))
def Stg (j : Nat) (s : PS) : Prop := (j = 0 ∧ s = .pl) ∨ (j = 1 ∧ ∃ h, s = .pn h) ∨ (j = 2 ∧ ∃ h nx, s = .ps h nx)
structure SIn (p : Pl) (lo hi : Nat) (L : Lay) (BQ : Nat) (w0 : World) (j : Nat) (M : MS) (s : PS) (F : Nat → Prop) (vq : Value) (wr : World) : Prop where
  m : MemIn lo hi L M wr
  fl : FL p M (rfr p.n.toNat 0) 0
  ex : Ext w0 wr
  pb : PBox w0.heap.size p wr
  th : Th p M 0 s
  stg : Stg j s
  q : QIn p lo hi BQ 3 s F vq wr
def StopRel (p : Pl) (lo hi : Nat) (L : Lay) (BQ : Nat) (w0 : World) (k : Nat) (vi : Value) (wr : World) : Prop :=
  ∃ (j : Nat) (M : MS) (s : PS) (F : Nat → Prop) (vq : Value), vi = .int .i64 (j : Int) ∧ j ≤ k ∧ SIn p lo hi L BQ w0 j M s F vq wr
def StRel (p : Pl) (lo hi : Nat) (L : Lay) (base BQ : Nat) (w0 : World) (s : PS) (F : Nat → Prop) (vq : Value) (ps : List Bool) (vm vi : Value) (wr : World) : Prop :=
  ∃ (i : Nat) (M : MS) (l : List Int) (T : Nat) (mine : List Int), vi = .int .i64 (i : Int) ∧ T ≤ i ∧ i ≤ ps.length ∧ FIn p lo hi L base w0 M l T mine vm wr ∧ Th p M T s ∧ QIn p lo hi BQ 3 s F vq wr
theorem w64r2 (a b : Nat) (n : Int) (ha : a ≤ 2000000) (hb : b ≤ 2000000) (h : (a : Int) + (b : Int) + 1 = n) : wrap64 (wrap64 ((a : Int) + (b : Int)) + 1) = n := by
  unfold wrap64
  omega
theorem stg_next {p : Pl} (hp : p.ok) {M : MS} {l : List Int} (hl : l ≠ []) (hL : FL p M l 0) {j : Nat} {s : PS} (h : Stg j s) (ht : Th p M 0 s) (hj : j < 2) : ∃ M' s', Nxt p M l 0 3 s M' l 0 3 s' ∧ Stg (j + 1) s' := by
  rcases h with ⟨rfl, rfl⟩ | ⟨rfl, x, rfl⟩ | ⟨rfl, _⟩
  · obtain ⟨M', s', h1, _, h3, _⟩ := go_pl (N := 3) hp hL
    exact ⟨M', s', h1, .inr (.inl ⟨rfl, _, h3 hl⟩)⟩
  · obtain ⟨M', nx, h1, _⟩ := go_pn (N := 3) hp hL ht
    exact ⟨M', _, h1, .inr (.inr ⟨rfl, _, _, rfl⟩)⟩
  · omega
set_option maxRecDepth 8000 in
set_option maxHeartbeats 4000000 in
theorem stalls_yes (p : Pl) (hf : p.few) (hp : p.ok) (st : Int) (hs0 : 0 ≤ st) (ps : List Bool) (v : Value) (w : World) (hB : Bs w v ps) (hn : ps.length ≤ 40) : Calls Try.prog 6 #[plV p, .int .u8 st, v] w (Ret (.bool true) w) := by
  have HFW := Lib.hid hf
  have HP := Lib.hid hp
  have HB := Lib.hid hB
  have hn1 : p.n ≤ 1048576 := hp.1.2
  have hn0 : 1 ≤ p.n := hp.1.1
  obtain ⟨a0, cap, rfl, _, _⟩ := hB
  have q1 : decide (40 < (ps.length : Int)) = false := by simp; omega
  have hst0 : rfr p.n.toNat 0 ≠ [] := fun e => by have := rfr_len p.n.toNat 0; rw [e] at this; simp at this; omega
  clear hf hp
  go_enter Try.func6, Try.ntmps6
  go_wp2_with (first
    | (go_at_call 7; refine (fwake_any _).mono ?_; rintro e w' hr; obtain ⟨rfl, s, rfl⟩ := hr.over; clear hr)
    | (go_at_call 8; refine (few_any p _ true (hid_yes HFW.out)).mono ?_; rintro e w' hr; obtain ⟨rfl, s, rfl⟩ := hr.over; clear hr)
    | (go_at_call 9; refine (rformed_any p _ true (hid_yes HP.out)).mono ?_; rintro e w' hr; obtain ⟨rfl, s, rfl⟩ := hr.over; clear hr)
    | (go_at_call 10; refine Hid.out ?_))
  refine Lib.hid ?_
  refine (laid_any p HP.out _).mono ?_
  rintro e w1 ⟨lo, hi, L, M, rfl, hM, hF, hx, hlo⟩
  have hx1 : Ext (w.alloc (.cells #[.int .i64 p.n, .int .i64 p.t, .int .i64 p.r, .int .i64 p.d, .int .i64 p.b, .int .i64 p.g] 23)) w1 := by
    refine ext_trans ?_ hx
    repeat (first | exact ext_refl _ | apply ext_over)
  have hlo1 : w.heap.size < lo := by
    refine Nat.lt_of_lt_of_le ?_ hlo
    refine Nat.lt_of_lt_of_le (m := (w.alloc (.cells #[.int .i64 p.n, .int .i64 p.t, .int .i64 p.r, .int .i64 p.d, .int .i64 p.b, .int .i64 p.g] 23)).heap.size) (by simp) ?_
    first | exact over_size _ _ | exact Nat.le_trans (over_size _ _) (over_size _ _) | exact Nat.le_trans (over_size _ _) (Nat.le_trans (over_size _ _) (over_size _ _))
  have hb0 : PBox w.heap.size p w1 := (hx1.block _ (by simp)).trans (heap_at w _ _ rfl)
  have HI := Lib.hid (FIn.start hM hF (ext_trans (ext_alloc _ (ext_refl w)) hx1) hb0)
  have hhb := hM.top
  have hwb : w.heap.size < w1.heap.size := heap_lt hb0
  clear hM hF hx hx1 hlo hb0
  have ⟨c0, c1, c2, c3, c4, c5, lt⟩ := HI.out.pb.plc
  go_wp2_with (go_at_call 13; refine (pop_PT p 4 _).mono ?_; rintro e w2 ⟨v1, F1, rfl, hx2, hp1, hbn1, hsub1⟩; refine Hid.out ?_)
  refine Lib.hid ?_
  obtain ⟨y, a, fn, rfl, hfn⟩ := shI hp1
  have HFN := Lib.hid hfn
  have hsf := store_fn hfn
  have HQ := Lib.hid (And.intro hp1 (And.intro hbn1 hsub1))
  have hs2 := hx2.size
  replace HI := Lib.hid (HI.out.ext hx2)
  clear hfn hp1 hbn1 hsub1 hx2 c0 c1 c2 c3 c4 c5 lt
  go_wp2
  obtain ⟨BQ, hbq⟩ : ∃ b, Hid (w2.heap.size = b) := ⟨_, Lib.hid rfl⟩
  have hBQ : hi ≤ BQ := by have := hbq.out; omega
  have HS : Hid (SIn p lo hi L BQ w 0 M .pl F1 (.agg #[.int .i64 y, .int .i64 a.op, .int .i64 a.at_, .int .u64 (U a.a), .int .u64 (U a.b), fn, .pointer none]) (w2.alloc (.cells #[.int .i64 y, .int .i64 a.op, .int .i64 a.at_, .int .u64 (U a.a), .int .u64 (U a.b), fn, .pointer none] 39))) := by
    obtain ⟨h1, h2, h3⟩ := HQ.out
    have hx := ext_alloc (.cells #[.int .i64 y, .int .i64 a.op, .int .i64 a.at_, .int .u64 (U a.a), .int .u64 (U a.b), fn, .pointer none] 39) (ext_refl w2)
    refine Lib.hid ⟨HI.out.m.ext hx, HI.out.fl, ext_trans HI.out.ex hx, HI.out.pb.ext hx, trivial, .inl ⟨rfl, rfl⟩, h1.agr (Agr.of_ext hx h2), h2.ext hx.size, fun j hj => ?_, y, a, fn, rfl, HFN.out, heap_at _ _ _ hbq.out.symm⟩
    have h4 := h2 j hj
    have h5 := hbq.out
    rcases h3 j hj with h | h
    · exact h.elim
    · exact ⟨.inr (by omega), by omega⟩
  have hBQw : w.heap.size < BQ := by have := HI.out.ex.size; have := heap_lt HI.out.pb; have := hbq.out; omega
  rw [hbq.out]
  clear HQ HI hbq hs2 hsf HFN
  generalize w2.alloc (.cells #[.int .i64 y, .int .i64 a.op, .int .i64 a.at_, .int .u64 (U a.a), .int .u64 (U a.b), fn, .pointer none] 39) = W3 at HS ⊢
  obtain ⟨k, hk⟩ : ∃ k : Nat, st % 3 = (k : Int) := ⟨(st % 3).toNat, by omega⟩
  have hk3 : k < 3 := by omega
  have hk2 : Int.tmod st 3 = (k : Int) := by rw [Int.tmod_eq_emod_of_nonneg hs0]; exact hk
  go_loopw [9] (fun vi wr => StopRel p lo hi L BQ w k vi wr) (fun i _ => (k - intOf i).toNat)
  case atStart => exact ⟨0, M, .pl, F1, _, rfl, Nat.zero_le _, HS.out⟩
  case round =>
    obtain ⟨j, M, s, F, vq, rfl, hjk, hR⟩ := hrel
    have HR := Lib.hid hR
    obtain ⟨y, a, fn, rfl, hfn, hqb⟩ := hR.q.box
    have HQB := Lib.hid hqb
    obtain ⟨d0, d1, d2, d3, d4, d5, d6, dz, dl⟩ := sev_of hqb
    have hbql := dl
    clear hR hfn hqb HS
    by_cases hlt : (j : Int) < (k : Int)
    · obtain ⟨M', s', hN, hst'⟩ := stg_next HP.out hst0 HR.out.fl HR.out.stg HR.out.th (by omega)
      have HN := Lib.hid hN
      replace hst' := Lib.hid hst'
      have e2 := Lib.hid (w64 j (by omega))
      have HFL := Lib.hid HR.out.fl
      have HEX := Lib.hid HR.out.ex
      have HPB := Lib.hid HR.out.pb
      have HQF := Lib.hid HR.out.q.bn
      have hBQl : BQ < wr.heap.size := hbql
      have hmt := HR.out.m.top
      clear hN
      have hBQw' : w.heap.size ≤ BQ := Nat.le_of_lt hBQw
      go_wp2
      refine wp_region_ways (fun x => ∃ s, x = off lo hi wr s) (by kernel_rfl) (off_of ((Fr.refl lo hi wr).drew)) ?_
      refine ways_reads [0, 1, 2] (by kernel_rfl) ?_
      simp only [pickL, List.map_cons, List.map_nil, List.getD_cons_zero, List.getD_cons_succ]
      repeat (go_big_quiet_step (fail))
      refine wpQuiet_nil ?_
      have HZ := Lib.hid ((Fr.refl lo hi wr).drew)
      have HM := Lib.hid HR.out.m.drew
      have HQ := Lib.hid (HR.out.q.ext (ext_drew (ext_refl wr)))
      have hsx : wr.heap.size ≤ wr.drew.heap.size := Nat.le_refl _
      clear d0 d1 d2 d3 d4 d5 d6 dz dl HR
      generalize wr.drew = X at HZ HM HQ hsx ⊢
      refine ways_fork 8 (by kernel_rfl) ?_ (ways_act 3 (by kernel_rfl) ?_)
      · simp only [pickL, List.map_cons, List.map_nil, List.getD_cons_zero, List.getD_cons_succ]
        go_wp2
        replace HZ := Lib.hid (HZ.out.alloc (.cells #[.int .i64 0, .int .i64 0, .int .i64 0, .int .u64 0, .int .u64 0, .nilFunc, .pointer none] 39))
        replace HM := Lib.hid (HM.out.alloc (.cells #[.int .i64 0, .int .i64 0, .int .i64 0, .int .u64 0, .int .u64 0, .nilFunc, .pointer none] 39))
        replace HQ := Lib.hid (HQ.out.ext (ext_alloc (.cells #[.int .i64 0, .int .i64 0, .int .i64 0, .int .u64 0, .int .u64 0, .nilFunc, .pointer none] 39) (ext_refl X)))
        have hbx := Lib.hid (heap_at X (.cells #[.int .i64 0, .int .i64 0, .int .i64 0, .int .u64 0, .int .u64 0, .nilFunc, .pointer none] 39) X.heap.size rfl)
        have hlx : wr.heap.size ≤ X.heap.size := hsx
        replace hsx : wr.heap.size ≤ (X.alloc (.cells #[.int .i64 0, .int .i64 0, .int .i64 0, .int .u64 0, .int .u64 0, .nilFunc, .pointer none] 39)).heap.size := by simp; omega
        refine mixQ_mk (off_of HZ.out) ?_
        generalize X.alloc (.cells #[.int .i64 0, .int .i64 0, .int .i64 0, .int .u64 0, .int .u64 0, .nilFunc, .pointer none] 39) = X2 at HZ HM hbx hsx HQ ⊢
        generalize X.heap.size = bx at hbx hlx ⊢
        refine ways_act 3 (by kernel_rfl) ?_
        simp only [pickL, List.map_cons, List.map_nil, List.getD_cons_zero, List.getD_cons_succ]
        go_wp2_with (go_at_call 14; refine (cap_int HM.out 0 1#64 (by omega) (by rw [HFL.out.mg.n]; omega) (Lib.hid HFL.out.mg.e)).mono ?_; rintro e X3 ⟨rfl, hx⟩; refine Hid.out ?_)
        refine Lib.hid ?_
        replace HZ := Lib.hid (HZ.out.ext hx)
        replace HM := Lib.hid (HM.out.ext hx)
        replace HQ := Lib.hid (HQ.out.ext hx)
        replace hbx := Lib.hid ((hx.block _ (heap_lt hbx.out)).trans hbx.out)
        replace hsx := Nat.le_trans hsx hx.size
        clear hx
        go_wp2
        refine mixQ_mk (off_of HZ.out) ?_
        refine ways_act 4 (by kernel_rfl) ?_
        simp only [pickL, List.map_cons, List.map_nil, List.getD_cons_zero, List.getD_cons_succ]
        go_wp2_with (go_at_call 25; refine (step_PS HQ.out HM.out HN.out.st).mono ?_; rintro e X4 ⟨v2, F2, rfl, hp, hbn, hsub, hm, hf⟩; refine Hid.out ?_)
        refine Lib.hid ?_
        have hp2 := Lib.hid hp
        have hbn2 := Lib.hid hbn
        have hof2 := Lib.hid (fun j (hj : F2 j) => (hsub j hj).elim (fun h => (HQ.out.of j h)) (fun h => (⟨.inr (by omega), by omega⟩ : (j < lo ∨ hi ≤ j) ∧ j ≠ BQ)))
        have HBO : Hid (∀ j, F2 j → j < X4.heap.size) := Lib.hid hbn
        have hnb : Hid (¬ F2 bx) := Lib.hid (fun h => (hsub _ h).elim (fun h => by have := HQF.out _ h; omega) (fun h => by have := heap_lt hbx.out; omega))
        replace HZ := Lib.hid (HZ.out.trans hf)
        replace HM := Lib.hid hm
        replace hbx := Lib.hid ((hf.block _ (heap_lt hbx.out) (.inr (by omega))).trans hbx.out)
        replace hsx := Nat.le_trans hsx hf.size
        obtain ⟨y2, a2, fn2, rfl, hfn2⟩ := shI hp
        have HFN2 := Lib.hid hfn2
        clear hf hm hp hbn hsub hfn2 HQ
        go_wp2
        refine mixQ_mk (off_of HZ.out) ?_
        refine ways_reads [5, 6, 7] (by kernel_rfl) ?_
        simp only [pickL, List.map_cons, List.map_nil, List.getD_cons_zero, List.getD_cons_succ]
        repeat (go_big_quiet_step (fail))
        refine wpQuiet_nil ?_
        refine ways_act 9 (by kernel_rfl) ?_
        simp only [pickL, List.map_cons, List.map_nil, List.getD_cons_zero, List.getD_cons_succ]
        obtain ⟨k0, k1, k2, k3, k4, k5, k6, kz, kl⟩ := sev_of hbx.out
        have hB := put7_block (.int .i64 y2) (.int .i64 a2.op) (.int .i64 a2.at_) (.int .u64 (U a2.a)) (.int .u64 (U a2.b)) fn2 (.pointer none) hbx.out
        have hP := hp2.out.agr (Agr.of_put7 (b := bx) (.int .i64 y2) (.int .i64 a2.op) (.int .i64 a2.at_) (.int .u64 (U a2.a)) (.int .u64 (U a2.b)) fn2 (.pointer none) hnb.out)
        have hZZ := put7_frNew (b := bx) (.int .i64 y2) (.int .i64 a2.op) (.int .i64 a2.at_) (.int .u64 (U a2.a)) (.int .u64 (U a2.b)) fn2 (.pointer none) HZ.out hlx
        have hMM := put7_mem (b := bx) (.int .i64 y2) (.int .i64 a2.op) (.int .i64 a2.at_) (.int .u64 (U a2.a)) (.int .u64 (U a2.b)) fn2 (.pointer none) HM.out (by omega)
        have hSS : (put7 bx (.int .i64 y2) (.int .i64 a2.op) (.int .i64 a2.at_) (.int .u64 (U a2.a)) (.int .u64 (U a2.b)) fn2 (.pointer none) X4).heap.size = X4.heap.size := put7_size (.int .i64 y2) (.int .i64 a2.op) (.int .i64 a2.at_) (.int .u64 (U a2.a)) (.int .u64 (U a2.b)) fn2 (.pointer none)
        rw [put7] at hB hP hZZ hMM hSS
        have HY := Lib.hid (And.intro hB (And.intro hP (And.intro hZZ (And.intro hMM hSS))))
        have HSW := Lib.hid (And.intro hbn2.out hsx)
        clear hB hP hZZ hMM hSS hp2 HZ HM hbx hnb hbn2
        have hsf := store_fn HFN2.out
        go_wp2
        obtain ⟨hB, hP, hZZ, hMM, hSS⟩ := HY.out
        obtain ⟨hbn2, hsx2⟩ := HSW.out
        rw [← hSS] at hsx2
        have hbn3 : Bnd F2 _ := hbn2.ext (Nat.le_of_eq hSS.symm)
        clear HY HSW k0 k1 k2 k3 k4 k5 k6 kz kl hSS
        generalize (World.setCell _ (⟨bx, 6, none⟩ : Addr) _) = Y at hB hP hZZ hMM hsx2 hbn3 ⊢
        refine mixQ_mk (off_of hZZ) ?_
        have HB := Lib.hid hB
        have HPT := Lib.hid hP
        have HZZ := Lib.hid hZZ
        have HMM := Lib.hid hMM
        have HBN3 := Lib.hid hbn3
        clear hB hP hZZ hMM hbn3
        refine ways_reads [10] (by kernel_rfl) ?_
        simp only [pickL, List.map_cons, List.map_nil, List.getD_cons_zero, List.getD_cons_succ]
        repeat (go_big_quiet_step (fail))
        refine wpQuiet_nil ?_
        refine ways_end (by kernel_rfl) ?_
        obtain ⟨k0, k1, k2, k3, k4, k5, k6, kz, kl⟩ := sev_of HB.out
        have hqY := (HZZ.out.block BQ hBQl (.inr hBQ)).trans HQB.out
        obtain ⟨d0, d1, d2, d3, d4, d5, d6, dz, dl⟩ := sev_of hqY
        have hB := put7_block (.int .i64 y2) (.int .i64 a2.op) (.int .i64 a2.at_) (.int .u64 (U a2.a)) (.int .u64 (U a2.b)) fn2 (.pointer none) hqY
        have hP := HPT.out.agr (Agr.of_put7 (b := BQ) (.int .i64 y2) (.int .i64 a2.op) (.int .i64 a2.at_) (.int .u64 (U a2.a)) (.int .u64 (U a2.b)) fn2 (.pointer none) (fun h => (hof2.out _ h).2 rfl))
        have hMM := put7_mem (b := BQ) (.int .i64 y2) (.int .i64 a2.op) (.int .i64 a2.at_) (.int .u64 (U a2.a)) (.int .u64 (U a2.b)) fn2 (.pointer none) HMM.out hBQ
        have hEX := put7_ext (b := BQ) (.int .i64 y2) (.int .i64 a2.op) (.int .i64 a2.at_) (.int .u64 (U a2.a)) (.int .u64 (U a2.b)) fn2 (.pointer none) (HZZ.out.below HEX.out (by omega)) hBQw'
        have hPB := (put7_other (w := Y) (b := BQ) (k := w.heap.size) (.int .i64 y2) (.int .i64 a2.op) (.int .i64 a2.at_) (.int .u64 (U a2.a)) (.int .u64 (U a2.b)) fn2 (.pointer none) (by omega)).trans ((HZZ.out.block w.heap.size (heap_lt HPB.out) (.inl hlo1)).trans HPB.out)
        have hSS : (put7 BQ (.int .i64 y2) (.int .i64 a2.op) (.int .i64 a2.at_) (.int .u64 (U a2.a)) (.int .u64 (U a2.b)) fn2 (.pointer none) Y).heap.size = Y.heap.size := put7_size (.int .i64 y2) (.int .i64 a2.op) (.int .i64 a2.at_) (.int .u64 (U a2.a)) (.int .u64 (U a2.b)) fn2 (.pointer none)
        rw [put7] at hB hP hMM hEX hPB hSS
        have HY := Lib.hid (And.intro hB (And.intro hP (And.intro hMM (And.intro hEX (And.intro hPB hSS)))))
        clear hB hP hMM hEX hPB hSS hqY
        go_wp2
        obtain ⟨hB, hP, hMM, hEX, hPB, hSS⟩ := HY.out
        have hbn4 : Bnd F2 _ := HBN3.out.ext (Nat.le_of_eq hSS.symm)
        refine ⟨⟨j + 1, M', s', F2, _, by first | exact congrArg _ e2.out | rfl, by omega, ⟨hMM, HN.out.fl, hEX, hPB, HN.out.th, hst'.out, ⟨hP, hbn4, hof2.out, y2, a2, _, rfl, HFN2.out, hB⟩⟩⟩, by simp [intOf]; omega⟩
      · simp only [pickL, List.map_cons, List.map_nil, List.getD_cons_zero, List.getD_cons_succ]
        go_wp2_with (go_at_call 14; refine (cap_int HM.out 0 1#64 (by omega) (by rw [HFL.out.mg.n]; omega) (Lib.hid HFL.out.mg.e)).mono ?_; rintro e X3 ⟨rfl, hx⟩; refine Hid.out ?_)
        refine Lib.hid ?_
        replace HZ := Lib.hid (HZ.out.ext hx)
        replace HM := Lib.hid (HM.out.ext hx)
        replace HQ := Lib.hid (HQ.out.ext hx)
        replace hsx := Nat.le_trans hsx hx.size
        clear hx
        go_wp2
        refine mixQ_mk (off_of HZ.out) ?_
        refine ways_fork 8 (by kernel_rfl) ?_ (ways_act 4 (by kernel_rfl) ?_)
        · simp only [pickL, List.map_cons, List.map_nil, List.getD_cons_zero, List.getD_cons_succ]
          go_wp2
          replace HZ := Lib.hid (HZ.out.alloc (.cells #[.int .i64 0, .int .i64 0, .int .i64 0, .int .u64 0, .int .u64 0, .nilFunc, .pointer none] 39))
          replace HM := Lib.hid (HM.out.alloc (.cells #[.int .i64 0, .int .i64 0, .int .i64 0, .int .u64 0, .int .u64 0, .nilFunc, .pointer none] 39))
          replace HQ := Lib.hid (HQ.out.ext (ext_alloc (.cells #[.int .i64 0, .int .i64 0, .int .i64 0, .int .u64 0, .int .u64 0, .nilFunc, .pointer none] 39) (ext_refl X3)))
          have hbx := Lib.hid (heap_at X3 (.cells #[.int .i64 0, .int .i64 0, .int .i64 0, .int .u64 0, .int .u64 0, .nilFunc, .pointer none] 39) X3.heap.size rfl)
          have hlx : wr.heap.size ≤ X3.heap.size := hsx
          replace hsx : wr.heap.size ≤ (X3.alloc (.cells #[.int .i64 0, .int .i64 0, .int .i64 0, .int .u64 0, .int .u64 0, .nilFunc, .pointer none] 39)).heap.size := by simp; omega
          refine mixQ_mk (off_of HZ.out) ?_
          generalize X3.alloc (.cells #[.int .i64 0, .int .i64 0, .int .i64 0, .int .u64 0, .int .u64 0, .nilFunc, .pointer none] 39) = X2 at HZ HM hbx hsx HQ ⊢
          generalize X3.heap.size = bx at hbx hlx ⊢
          refine ways_act 4 (by kernel_rfl) ?_
          simp only [pickL, List.map_cons, List.map_nil, List.getD_cons_zero, List.getD_cons_succ]
          go_wp2_with (go_at_call 25; refine (step_PS HQ.out HM.out HN.out.st).mono ?_; rintro e X4 ⟨v2, F2, rfl, hp, hbn, hsub, hm, hf⟩; refine Hid.out ?_)
          refine Lib.hid ?_
          have hp2 := Lib.hid hp
          have hbn2 := Lib.hid hbn
          have hof2 := Lib.hid (fun j (hj : F2 j) => (hsub j hj).elim (fun h => (HQ.out.of j h)) (fun h => (⟨.inr (by omega), by omega⟩ : (j < lo ∨ hi ≤ j) ∧ j ≠ BQ)))
          have HBO : Hid (∀ j, F2 j → j < X4.heap.size) := Lib.hid hbn
          have hnb : Hid (¬ F2 bx) := Lib.hid (fun h => (hsub _ h).elim (fun h => by have := HQF.out _ h; omega) (fun h => by have := heap_lt hbx.out; omega))
          replace HZ := Lib.hid (HZ.out.trans hf)
          replace HM := Lib.hid hm
          replace hbx := Lib.hid ((hf.block _ (heap_lt hbx.out) (.inr (by omega))).trans hbx.out)
          replace hsx := Nat.le_trans hsx hf.size
          obtain ⟨y2, a2, fn2, rfl, hfn2⟩ := shI hp
          have HFN2 := Lib.hid hfn2
          clear hf hm hp hbn hsub hfn2 HQ
          go_wp2
          refine mixQ_mk (off_of HZ.out) ?_
          refine ways_reads [5, 6, 7] (by kernel_rfl) ?_
          simp only [pickL, List.map_cons, List.map_nil, List.getD_cons_zero, List.getD_cons_succ]
          repeat (go_big_quiet_step (fail))
          refine wpQuiet_nil ?_
          refine ways_act 9 (by kernel_rfl) ?_
          simp only [pickL, List.map_cons, List.map_nil, List.getD_cons_zero, List.getD_cons_succ]
          obtain ⟨k0, k1, k2, k3, k4, k5, k6, kz, kl⟩ := sev_of hbx.out
          have hB := put7_block (.int .i64 y2) (.int .i64 a2.op) (.int .i64 a2.at_) (.int .u64 (U a2.a)) (.int .u64 (U a2.b)) fn2 (.pointer none) hbx.out
          have hP := hp2.out.agr (Agr.of_put7 (b := bx) (.int .i64 y2) (.int .i64 a2.op) (.int .i64 a2.at_) (.int .u64 (U a2.a)) (.int .u64 (U a2.b)) fn2 (.pointer none) hnb.out)
          have hZZ := put7_frNew (b := bx) (.int .i64 y2) (.int .i64 a2.op) (.int .i64 a2.at_) (.int .u64 (U a2.a)) (.int .u64 (U a2.b)) fn2 (.pointer none) HZ.out hlx
          have hMM := put7_mem (b := bx) (.int .i64 y2) (.int .i64 a2.op) (.int .i64 a2.at_) (.int .u64 (U a2.a)) (.int .u64 (U a2.b)) fn2 (.pointer none) HM.out (by omega)
          have hSS : (put7 bx (.int .i64 y2) (.int .i64 a2.op) (.int .i64 a2.at_) (.int .u64 (U a2.a)) (.int .u64 (U a2.b)) fn2 (.pointer none) X4).heap.size = X4.heap.size := put7_size (.int .i64 y2) (.int .i64 a2.op) (.int .i64 a2.at_) (.int .u64 (U a2.a)) (.int .u64 (U a2.b)) fn2 (.pointer none)
          rw [put7] at hB hP hZZ hMM hSS
          have HY := Lib.hid (And.intro hB (And.intro hP (And.intro hZZ (And.intro hMM hSS))))
          have HSW := Lib.hid (And.intro hbn2.out hsx)
          clear hB hP hZZ hMM hSS hp2 HZ HM hbx hnb hbn2
          have hsf := store_fn HFN2.out
          go_wp2
          obtain ⟨hB, hP, hZZ, hMM, hSS⟩ := HY.out
          obtain ⟨hbn2, hsx2⟩ := HSW.out
          rw [← hSS] at hsx2
          have hbn3 : Bnd F2 _ := hbn2.ext (Nat.le_of_eq hSS.symm)
          clear HY HSW k0 k1 k2 k3 k4 k5 k6 kz kl hSS
          generalize (World.setCell _ (⟨bx, 6, none⟩ : Addr) _) = Y at hB hP hZZ hMM hsx2 hbn3 ⊢
          refine mixQ_mk (off_of hZZ) ?_
          have HB := Lib.hid hB
          have HPT := Lib.hid hP
          have HZZ := Lib.hid hZZ
          have HMM := Lib.hid hMM
          have HBN3 := Lib.hid hbn3
          clear hB hP hZZ hMM hbn3
          refine ways_reads [10] (by kernel_rfl) ?_
          simp only [pickL, List.map_cons, List.map_nil, List.getD_cons_zero, List.getD_cons_succ]
          repeat (go_big_quiet_step (fail))
          refine wpQuiet_nil ?_
          refine ways_end (by kernel_rfl) ?_
          obtain ⟨k0, k1, k2, k3, k4, k5, k6, kz, kl⟩ := sev_of HB.out
          have hqY := (HZZ.out.block BQ hBQl (.inr hBQ)).trans HQB.out
          obtain ⟨d0, d1, d2, d3, d4, d5, d6, dz, dl⟩ := sev_of hqY
          have hB := put7_block (.int .i64 y2) (.int .i64 a2.op) (.int .i64 a2.at_) (.int .u64 (U a2.a)) (.int .u64 (U a2.b)) fn2 (.pointer none) hqY
          have hP := HPT.out.agr (Agr.of_put7 (b := BQ) (.int .i64 y2) (.int .i64 a2.op) (.int .i64 a2.at_) (.int .u64 (U a2.a)) (.int .u64 (U a2.b)) fn2 (.pointer none) (fun h => (hof2.out _ h).2 rfl))
          have hMM := put7_mem (b := BQ) (.int .i64 y2) (.int .i64 a2.op) (.int .i64 a2.at_) (.int .u64 (U a2.a)) (.int .u64 (U a2.b)) fn2 (.pointer none) HMM.out hBQ
          have hEX := put7_ext (b := BQ) (.int .i64 y2) (.int .i64 a2.op) (.int .i64 a2.at_) (.int .u64 (U a2.a)) (.int .u64 (U a2.b)) fn2 (.pointer none) (HZZ.out.below HEX.out (by omega)) hBQw'
          have hPB := (put7_other (w := Y) (b := BQ) (k := w.heap.size) (.int .i64 y2) (.int .i64 a2.op) (.int .i64 a2.at_) (.int .u64 (U a2.a)) (.int .u64 (U a2.b)) fn2 (.pointer none) (by omega)).trans ((HZZ.out.block w.heap.size (heap_lt HPB.out) (.inl hlo1)).trans HPB.out)
          have hSS : (put7 BQ (.int .i64 y2) (.int .i64 a2.op) (.int .i64 a2.at_) (.int .u64 (U a2.a)) (.int .u64 (U a2.b)) fn2 (.pointer none) Y).heap.size = Y.heap.size := put7_size (.int .i64 y2) (.int .i64 a2.op) (.int .i64 a2.at_) (.int .u64 (U a2.a)) (.int .u64 (U a2.b)) fn2 (.pointer none)
          rw [put7] at hB hP hMM hEX hPB hSS
          have HY := Lib.hid (And.intro hB (And.intro hP (And.intro hMM (And.intro hEX (And.intro hPB hSS)))))
          clear hB hP hMM hEX hPB hSS hqY
          go_wp2
          obtain ⟨hB, hP, hMM, hEX, hPB, hSS⟩ := HY.out
          have hbn4 : Bnd F2 _ := HBN3.out.ext (Nat.le_of_eq hSS.symm)
          refine ⟨⟨j + 1, M', s', F2, _, by first | exact congrArg _ e2.out | rfl, by omega, ⟨hMM, HN.out.fl, hEX, hPB, HN.out.th, hst'.out, ⟨hP, hbn4, hof2.out, y2, a2, _, rfl, HFN2.out, hB⟩⟩⟩, by simp [intOf]; omega⟩
        · simp only [pickL, List.map_cons, List.map_nil, List.getD_cons_zero, List.getD_cons_succ]
          go_wp2_with (go_at_call 25; refine (step_PS HQ.out HM.out HN.out.st).mono ?_; rintro e X4 ⟨v2, F2, rfl, hp, hbn, hsub, hm, hf⟩; refine Hid.out ?_)
          refine Lib.hid ?_
          have hp2 := Lib.hid hp
          have hbn2 := Lib.hid hbn
          have hof2 := Lib.hid (fun j (hj : F2 j) => (hsub j hj).elim (fun h => (HQ.out.of j h)) (fun h => (⟨.inr (by omega), by omega⟩ : (j < lo ∨ hi ≤ j) ∧ j ≠ BQ)))
          have HBO : Hid (∀ j, F2 j → j < X4.heap.size) := Lib.hid hbn
          replace HZ := Lib.hid (HZ.out.trans hf)
          replace HM := Lib.hid hm
          replace hsx := Nat.le_trans hsx hf.size
          obtain ⟨y2, a2, fn2, rfl, hfn2⟩ := shI hp
          have HFN2 := Lib.hid hfn2
          clear hf hm hp hbn hsub hfn2 HQ
          go_wp2
          refine mixQ_mk (off_of HZ.out) ?_
          refine ways_reads [5, 6, 7] (by kernel_rfl) ?_
          simp only [pickL, List.map_cons, List.map_nil, List.getD_cons_zero, List.getD_cons_succ]
          repeat (go_big_quiet_step (fail))
          refine wpQuiet_nil ?_
          refine ways_act 8 (by kernel_rfl) ?_
          simp only [pickL, List.map_cons, List.map_nil, List.getD_cons_zero, List.getD_cons_succ]
          go_wp2
          replace HZ := Lib.hid (HZ.out.alloc (.cells #[.int .i64 0, .int .i64 0, .int .i64 0, .int .u64 0, .int .u64 0, .nilFunc, .pointer none] 39))
          replace HM := Lib.hid (HM.out.alloc (.cells #[.int .i64 0, .int .i64 0, .int .i64 0, .int .u64 0, .int .u64 0, .nilFunc, .pointer none] 39))
          replace hp2 := Lib.hid (hp2.out.agr (Agr.of_ext (ext_alloc (.cells #[.int .i64 0, .int .i64 0, .int .i64 0, .int .u64 0, .int .u64 0, .nilFunc, .pointer none] 39) (ext_refl X4)) hbn2.out))
          replace hbn2 := Lib.hid (hbn2.out.ext (w' := X4.alloc (.cells #[.int .i64 0, .int .i64 0, .int .i64 0, .int .u64 0, .int .u64 0, .nilFunc, .pointer none] 39)) (by simp))
          have hbx := Lib.hid (heap_at X4 (.cells #[.int .i64 0, .int .i64 0, .int .i64 0, .int .u64 0, .int .u64 0, .nilFunc, .pointer none] 39) X4.heap.size rfl)
          have hlx : wr.heap.size ≤ X4.heap.size := hsx
          replace hsx : wr.heap.size ≤ (X4.alloc (.cells #[.int .i64 0, .int .i64 0, .int .i64 0, .int .u64 0, .int .u64 0, .nilFunc, .pointer none] 39)).heap.size := by simp; omega
          have hnb : Hid (¬ F2 X4.heap.size) := Lib.hid (fun h => by have := (HBO.out _ h); omega)
          refine mixQ_mk (off_of HZ.out) ?_
          generalize X4.alloc (.cells #[.int .i64 0, .int .i64 0, .int .i64 0, .int .u64 0, .int .u64 0, .nilFunc, .pointer none] 39) = X2 at HZ HM hbx hsx hp2 hbn2 ⊢
          generalize X4.heap.size = bx at hbx hlx hnb ⊢
          refine ways_act 9 (by kernel_rfl) ?_
          simp only [pickL, List.map_cons, List.map_nil, List.getD_cons_zero, List.getD_cons_succ]
          obtain ⟨k0, k1, k2, k3, k4, k5, k6, kz, kl⟩ := sev_of hbx.out
          have hB := put7_block (.int .i64 y2) (.int .i64 a2.op) (.int .i64 a2.at_) (.int .u64 (U a2.a)) (.int .u64 (U a2.b)) fn2 (.pointer none) hbx.out
          have hP := hp2.out.agr (Agr.of_put7 (b := bx) (.int .i64 y2) (.int .i64 a2.op) (.int .i64 a2.at_) (.int .u64 (U a2.a)) (.int .u64 (U a2.b)) fn2 (.pointer none) hnb.out)
          have hZZ := put7_frNew (b := bx) (.int .i64 y2) (.int .i64 a2.op) (.int .i64 a2.at_) (.int .u64 (U a2.a)) (.int .u64 (U a2.b)) fn2 (.pointer none) HZ.out hlx
          have hMM := put7_mem (b := bx) (.int .i64 y2) (.int .i64 a2.op) (.int .i64 a2.at_) (.int .u64 (U a2.a)) (.int .u64 (U a2.b)) fn2 (.pointer none) HM.out (by omega)
          have hSS : (put7 bx (.int .i64 y2) (.int .i64 a2.op) (.int .i64 a2.at_) (.int .u64 (U a2.a)) (.int .u64 (U a2.b)) fn2 (.pointer none) X2).heap.size = X2.heap.size := put7_size (.int .i64 y2) (.int .i64 a2.op) (.int .i64 a2.at_) (.int .u64 (U a2.a)) (.int .u64 (U a2.b)) fn2 (.pointer none)
          rw [put7] at hB hP hZZ hMM hSS
          have HY := Lib.hid (And.intro hB (And.intro hP (And.intro hZZ (And.intro hMM hSS))))
          have HSW := Lib.hid (And.intro hbn2.out hsx)
          clear hB hP hZZ hMM hSS hp2 HZ HM hbx hnb hbn2
          have hsf := store_fn HFN2.out
          go_wp2
          obtain ⟨hB, hP, hZZ, hMM, hSS⟩ := HY.out
          obtain ⟨hbn2, hsx2⟩ := HSW.out
          rw [← hSS] at hsx2
          have hbn3 : Bnd F2 _ := hbn2.ext (Nat.le_of_eq hSS.symm)
          clear HY HSW k0 k1 k2 k3 k4 k5 k6 kz kl hSS
          generalize (World.setCell _ (⟨bx, 6, none⟩ : Addr) _) = Y at hB hP hZZ hMM hsx2 hbn3 ⊢
          refine mixQ_mk (off_of hZZ) ?_
          have HB := Lib.hid hB
          have HPT := Lib.hid hP
          have HZZ := Lib.hid hZZ
          have HMM := Lib.hid hMM
          have HBN3 := Lib.hid hbn3
          clear hB hP hZZ hMM hbn3
          refine ways_reads [10] (by kernel_rfl) ?_
          simp only [pickL, List.map_cons, List.map_nil, List.getD_cons_zero, List.getD_cons_succ]
          repeat (go_big_quiet_step (fail))
          refine wpQuiet_nil ?_
          refine ways_end (by kernel_rfl) ?_
          obtain ⟨k0, k1, k2, k3, k4, k5, k6, kz, kl⟩ := sev_of HB.out
          have hqY := (HZZ.out.block BQ hBQl (.inr hBQ)).trans HQB.out
          obtain ⟨d0, d1, d2, d3, d4, d5, d6, dz, dl⟩ := sev_of hqY
          have hB := put7_block (.int .i64 y2) (.int .i64 a2.op) (.int .i64 a2.at_) (.int .u64 (U a2.a)) (.int .u64 (U a2.b)) fn2 (.pointer none) hqY
          have hP := HPT.out.agr (Agr.of_put7 (b := BQ) (.int .i64 y2) (.int .i64 a2.op) (.int .i64 a2.at_) (.int .u64 (U a2.a)) (.int .u64 (U a2.b)) fn2 (.pointer none) (fun h => (hof2.out _ h).2 rfl))
          have hMM := put7_mem (b := BQ) (.int .i64 y2) (.int .i64 a2.op) (.int .i64 a2.at_) (.int .u64 (U a2.a)) (.int .u64 (U a2.b)) fn2 (.pointer none) HMM.out hBQ
          have hEX := put7_ext (b := BQ) (.int .i64 y2) (.int .i64 a2.op) (.int .i64 a2.at_) (.int .u64 (U a2.a)) (.int .u64 (U a2.b)) fn2 (.pointer none) (HZZ.out.below HEX.out (by omega)) hBQw'
          have hPB := (put7_other (w := Y) (b := BQ) (k := w.heap.size) (.int .i64 y2) (.int .i64 a2.op) (.int .i64 a2.at_) (.int .u64 (U a2.a)) (.int .u64 (U a2.b)) fn2 (.pointer none) (by omega)).trans ((HZZ.out.block w.heap.size (heap_lt HPB.out) (.inl hlo1)).trans HPB.out)
          have hSS : (put7 BQ (.int .i64 y2) (.int .i64 a2.op) (.int .i64 a2.at_) (.int .u64 (U a2.a)) (.int .u64 (U a2.b)) fn2 (.pointer none) Y).heap.size = Y.heap.size := put7_size (.int .i64 y2) (.int .i64 a2.op) (.int .i64 a2.at_) (.int .u64 (U a2.a)) (.int .u64 (U a2.b)) fn2 (.pointer none)
          rw [put7] at hB hP hMM hEX hPB hSS
          have HY := Lib.hid (And.intro hB (And.intro hP (And.intro hMM (And.intro hEX (And.intro hPB hSS)))))
          clear hB hP hMM hEX hPB hSS hqY
          go_wp2
          obtain ⟨hB, hP, hMM, hEX, hPB, hSS⟩ := HY.out
          have hbn4 : Bnd F2 _ := HBN3.out.ext (Nat.le_of_eq hSS.symm)
          refine ⟨⟨j + 1, M', s', F2, _, by first | exact congrArg _ e2.out | rfl, by omega, ⟨hMM, HN.out.fl, hEX, hPB, HN.out.th, hst'.out, ⟨hP, hbn4, hof2.out, y2, a2, _, rfl, HFN2.out, hB⟩⟩⟩, by simp [intOf]; omega⟩
    · have hjk' : j = k := by omega
      have hss : s = .pl ∨ (∃ h, s = .pn h) ∨ ∃ h nx, s = .ps h nx := by
        rcases HR.out.stg with ⟨_, h⟩ | ⟨_, h⟩ | ⟨_, h⟩
        · exact .inl h
        · exact .inr (.inl h)
        · exact .inr (.inr h)
      have hsn : s.node = none := by
        rcases hss with rfl | ⟨_, rfl⟩ | ⟨_, _, rfl⟩ <;> rfl
      have HSN := Lib.hid (And.intro hss hsn)
      have HI := Lib.hid (FIn.start HR.out.m HR.out.fl HR.out.ex HR.out.pb)
      have HQI := Lib.hid HR.out.q
      have HTI := Lib.hid HR.out.th
      have hhb' : hi ≤ wr.heap.size := HR.out.m.top
      have hwb' : w.heap.size < wr.heap.size := heap_lt HR.out.pb
      have hqlt := Lib.hid (HR.out.q.lt)
      obtain ⟨base, hbase⟩ : ∃ b, Hid (wr.heap.size = b) := ⟨_, Lib.hid rfl⟩
      rw [hbase.out] at HI hhb' hwb' hqlt
      clear hhb hwb hss hsn hbase
      have hhb := hhb'
      have hwb := hwb'
      clear hhb' hwb' d0 d1 d2 d3 d4 d5 d6 dz dl HQB HR
      generalize hvq : (Value.agg #[.int .i64 y, .int .i64 a.op, .int .i64 a.at_, .int .u64 (U a.a), .int .u64 (U a.b), fn, .pointer none]) = vq at HQI
      replace hvq := Lib.hid hvq
      go_wp2
      go_loopw [12, 13] (fun vm vi wr => StRel p lo hi L base BQ w s F vq ps vm vi wr) (fun _ i _ => (ps.length - intOf i).toNat)
      case atStart => exact ⟨0, M, _, 0, [], rfl, Nat.le_refl _, Nat.zero_le _, HI.out, HTI.out, HQI.out⟩
      case round =>
        rename_i wr0 _
        obtain ⟨i, M, l, T, mine, rfl, hTi, hi60, hR, hTh, hQ⟩ := hrel
        have HR := Lib.hid hR
        have HTH0 := Lib.hid hTh
        have HQ0 := Lib.hid hQ
        obtain ⟨va, vc, rfl⟩ := hR.ir.slice
        have ⟨c0, c1, c2, c3, c4, c5, lt⟩ := hR.pb.plc
        have hml : mine.length ≤ 2000000 := by have := hR.ln; omega
        have hi61 : i ≤ 60 := by omega
        have hT61 : T ≤ 60 := Nat.le_trans hTi hi61
        have e2 := Lib.hid (w64 i hi61)
        have hT := Lib.hid (t43 T hT61)
        clear hR hTh hQ HI HTI HQI
        by_cases hlt : i < ps.length
        · obtain ⟨bb, off, rfl, hbl, hcell⟩ := (HB.out.ext HR.out.ex).at hlt
          have hlt' : (i : Int) < ps.length := by omega
          cases hbi : bN ps i with
          | true =>
            rw [hbi] at hcell
            go_wp2_with (go_at_call 13; refine (pop_PT p 3 _).mono ?_; rintro e w2 ⟨v1, F1, rfl, hx2, hp1, hbn1, hsub1⟩; refine Hid.out ?_)
            refine Lib.hid ?_
            have hof1 : ∀ j, F1 j → j < lo ∨ hi ≤ j := fun j hj => (hsub1 j hj).elim (fun h => h.elim) fun h => .inr (by have := HR.out.bs; omega)
            have HR2 := Lib.hid (HR.out.ext hx2)
            have HX2 := Lib.hid hx2
            have HP1 := Lib.hid hp1
            have HBN1 := Lib.hid hbn1
            have HOF1 := Lib.hid hof1
            clear hx2 hp1 hbn1 hsub1 hof1
            go_wp2_with (go_at_call 14; refine (cap_int HR2.out.m 0 1#64 (by omega) (by rw [HR2.out.fl.mg.n]; omega) (Lib.hid HR2.out.fl.mg.e)).mono ?_; rintro e w3 ⟨rfl, hx3⟩; refine Hid.out ?_)
            refine Lib.hid ?_
            have HR3 := Lib.hid (HR2.out.ext hx3)
            have HX3 := Lib.hid (ext_trans HX2.out hx3)
            replace HP1 := Lib.hid (HP1.out.agr (Agr.of_ext hx3 HBN1.out))
            replace HBN1 := Lib.hid (HBN1.out.ext hx3.size)
            clear hx3 HR2
            go_wp2_with (go_at_call 12; refine (runPop p HP.out l T hT.out F1 v1 w3 HR3.out.fl HP1.out HBN1.out HOF1.out HR3.out.m).mono ?_; rintro e w4 ⟨M1, r, k, l1, T1, rfl, hm4, hf4, hl4, hs4, hk4⟩; refine Hid.out ?_)
            refine Lib.hid ?_
            have HS4 := Lib.hid hs4
            have HTH := Lib.hid (hk4 s (fun n h => by cases h) HTH0.out)
            have HQN := Lib.hid ((HQ0.out.ext HX3.out).fr hf4 (.inr hBQ))
            clear hs4 HP1 HBN1 HOF1 c0 c1 c2 c3 c4 c5 lt hcell hbi hk4 HTH0 HQ0 HX2 HX3
            rcases HS4.out with ⟨rfl, rfl, rfl, rfl, rfl⟩ | ⟨rfl, rfl, rfl⟩
            · have HN := Lib.hid (HR3.out.none hm4 hf4 hl4 hlo1 hhb)
              clear hm4 hf4 hl4 HR3 HR
              go_wp2
              exact ⟨⟨i + 1, M1, _, T1, _, by first | exact congrArg _ e2.out | rfl, by omega, by omega, by first | exact HN.out | simpa using HN.out, HTH.out, HQN.out⟩, by simp [intOf]; omega⟩
            · have hr0 : 0 ≤ r := (HR3.out.fl.rg r (by simp)).1
              have hr1 := (HR3.out.fl.rg r (by simp)).2
              have HF4 := Lib.hid (And.intro hm4 (And.intro hf4 hl4))
              have hbs4 := Nat.le_trans HR3.out.bs hf4.size
              have HIR4 := Lib.hid (HR3.out.ir.fr hf4 hhb)
              clear hm4 hf4 hl4 HR
              go_wp2_with (at_builtin; refine wpList_irow rfl (.tmp 83) (.tmp 85) rfl base _ mine rfl (HIR4.out.ext (ext_alloc _ (ext_refl w4))) ⟨w4.heap.size, 0, none⟩ r rfl (newy _ _ _ _ rfl) hml (by simp; omega) ?_; intro v5 w5 hv5 hg5 hn5; refine Hid.out ?_)
              refine Lib.hid ?_
              obtain ⟨hm4, hf4, hl4⟩ := HF4.out
              have HN := Lib.hid (HR3.out.pop hm4 hf4 hl4 hlo1 hhb hwb hv5 _ (ext_alloc (.cells #[.int .i64 r] 3) (ext_refl w4)) hg5)
              replace HQN := Lib.hid ((HQN.out.ext (ext_alloc (.cells #[.int .i64 r] 3) (ext_refl w4))).grown (HIR4.out.ext (ext_alloc _ (ext_refl w4))) hg5 hqlt.out)
              obtain ⟨v5a, v5c, rfl⟩ := hv5.slice
              clear hm4 hf4 hl4 HF4 HIR4 HR3 hv5 hg5 hn5 hbs4
              go_wp2
              exact ⟨⟨i + 1, M1, l1, (T + 1), (mine ++ [r]), by first | exact congrArg _ e2.out | rfl, by omega, by omega, by first | exact HN.out | simpa using HN.out, HTH.out, HQN.out⟩, by simp [intOf]; omega⟩
          | false =>
            rw [hbi] at hcell
            cases mine with
            | nil =>
              have HN := HR
              have HTH := HTH0
              have HQN := HQ0
              go_wp2
              exact ⟨⟨i + 1, M, l, T, ([] : List Int), by first | exact congrArg _ e2.out | rfl, by omega, by omega, by first | exact HN.out | simpa using HN.out, HTH.out, HQN.out⟩, by simp [intOf]; omega⟩
            | cons n rest =>
              obtain ⟨g, off2, cap2, ev, hgl, hgb, hgc, hgd⟩ := HR.out.ir.some (by simp)
              simp only [Value.slice.injEq, true_and] at ev
              obtain ⟨rfl, rfl⟩ := ev
              have hg0 : wr.cell? ⟨g, off2, none⟩ = some (.int .i64 n) := hgd 0 (by simp)
              clear hgd
              go_wp2
              refine wp_region_mix (fun w' => ∃ s, w' = over wr s) [(0, [0, 1, 2, 3, 5, 6]), (1, [4]), (1, [7]), (2, [8])] (by kernel_rfl) (by kernel_rfl) (over_of (ext_drew (ext_refl wr))) ?_
              simp only [pieces, pickL, List.map_cons, List.map_nil, List.getD_cons_zero, List.getD_cons_succ]
              refine mix_reads ?_
              repeat (go_big_quiet_step (fail))
              refine wpQuiet_nil (mix_acts ?_)
              have hnR : InR p n := HR.out.rg n (by simp)
              have hnL : n ∉ l := HR.out.notin (by simp)
              have HNR := Lib.hid (And.intro hnR hnL)
              clear hnR hnL
              have HX0 := Lib.hid (ext_drew (ext_refl wr))
              go_wp2_with (go_at_call 16; refine (push_PT p n 3 _).mono ?_; rintro e w2 ⟨v1, F1, rfl, hx2, hp1, hbn1, hsub1⟩; refine Hid.out ?_)
              refine Lib.hid ?_
              have hof1 : ∀ j, F1 j → j < lo ∨ hi ≤ j := fun j hj => (hsub1 j hj).elim (fun h => h.elim) fun h => .inr (Nat.le_trans hhb (Nat.le_trans HR.out.bs h))
              have HX2 := Lib.hid (ext_trans HX0.out hx2)
              have HR2 := Lib.hid (HR.out.ext HX2.out)
              have HP1 := Lib.hid hp1
              have HBN1 := Lib.hid hbn1
              have HOF1 := Lib.hid hof1
              clear hx2 hp1 hbn1 hsub1 hof1
              go_wp2
              refine mixQ_mk (over_of HX2.out) (mix_acts ?_)
              go_wp2_with (go_at_call 14; refine (cap_int HR2.out.m 0 1#64 (by omega) (by rw [HR2.out.fl.mg.n]; omega) (Lib.hid HR2.out.fl.mg.e)).mono ?_; rintro e w3 ⟨rfl, hx3⟩; refine Hid.out ?_)
              refine Lib.hid ?_
              have HX3 := Lib.hid (ext_trans HX2.out hx3)
              have HR3 := Lib.hid (HR2.out.ext hx3)
              replace HP1 := Lib.hid (HP1.out.agr (Agr.of_ext hx3 HBN1.out))
              replace HBN1 := Lib.hid (HBN1.out.ext hx3.size)
              clear hx3 HR2
              go_wp2
              refine mixQ_mk (over_of HX3.out) (mix_late ?_)
              go_wp2_with (go_at_call 12; refine (runPush p HP.out n HNR.out.1 l HNR.out.2 T hT.out F1 v1 w3 HR3.out.fl HP1.out HBN1.out HOF1.out HR3.out.m).mono ?_; rintro e w4 ⟨M1, rfl, hm4, hf4, hl4, hk4⟩; refine Hid.out ?_)
              refine Lib.hid ?_
              have HF4 := Lib.hid (And.intro hm4 (And.intro hf4 (And.intro hl4 hk4)))
              have HIR4 := Lib.hid (HR3.out.ir.fr hf4 hhb)
              have HTH := Lib.hid (hk4 s (fun m _ => by rw [HSN.out.2]; exact fun h => by cases h) HTH0.out)
              have HQN := Lib.hid ((HQ0.out.ext HX3.out).fr hf4 (.inr hBQ))
              clear hm4 hf4 hl4 hk4 HP1 HBN1 HOF1 HX0 HX2 HX3 HTH0 HQ0
              have hgc1 : rest.length + 1 ≤ vc := by simpa using hgc
              go_wp2
              refine lateQ_mk (fun _ => True) trivial (mix_end ?_)
              clear c0 c1 c2 c3 c4 c5 lt hcell hbi hg0 HR
              by_cases hv1 : vc = 1
              · subst hv1
                have hr0 : rest.length = 0 := by omega
                obtain ⟨hm4, hf4, hl4, hk4⟩ := HF4.out
                have HN := Lib.hid (HR3.out.pushFirst hm4 hf4 hl4 hlo1 hhb (HIR4.out.tail off2 (.inr ⟨rfl, rfl⟩)))
                clear hm4 hf4 hl4 hk4 HF4 HIR4 HR3
                rw [hr0] at HN ⊢
                go_wp2
                exact ⟨⟨i + 1, M1, _, (T + 1), rest, by first | exact congrArg _ e2.out | rfl, by omega, by omega, by first | exact HN.out | simpa using HN.out, HTH.out, HQN.out⟩, by simp [intOf]; omega⟩
              · have hv2 : vc - 1 ≠ 0 := by omega
                have hv3 : ¬ vc = 1 := hv1
                obtain ⟨hm4, hf4, hl4, hk4⟩ := HF4.out
                have HN := Lib.hid (HR3.out.pushFirst hm4 hf4 hl4 hlo1 hhb (HIR4.out.tail (off2 + 1) (.inl rfl)))
                clear hm4 hf4 hl4 hk4 HF4 HIR4 HR3
                go_wp2
                exact ⟨⟨i + 1, M1, _, (T + 1), rest, by first | exact congrArg _ e2.out | rfl, by omega, by omega, by first | exact HN.out | simpa using HN.out, HTH.out, HQN.out⟩, by simp [intOf]; omega⟩
        · have hie : ps.length = i := by omega
          have hnlt : ¬ (i : Int) < ps.length := by omega
          obtain ⟨M1, r, kk, l1, T1, hrun, hfl1, hcase⟩ := stall_run HP.out hT.out HR.out.fl HSN.out.1 HTH0.out
          have HRUN := Lib.hid hrun
          have HFL1 := Lib.hid hfl1
          have HCS := Lib.hid hcase
          clear hrun hfl1 hcase c0 c1 c2 c3 c4 c5 lt
          obtain ⟨y9, a9, fn9, e9, hfn9, hqb9⟩ := HQ0.out.box
          obtain ⟨d0, d1, d2, d3, d4, d5, d6, dz, dl⟩ := sev_of hqb9
          have HE9 := Lib.hid e9
          clear e9 hfn9 hqb9
          go_wp2
          refine wp_region_mix (fun x => ∃ s, x = off lo hi wr s) [(0, [0, 1, 2]), (1, [3]), (1, [4]), (0, [5, 6, 7, 8, 9, 10, 11])] (by kernel_rfl) (by kernel_rfl) (off_of ((Fr.refl lo hi wr).drew)) ?_
          simp only [pieces, pickL, List.map_cons, List.map_nil, List.getD_cons_zero, List.getD_cons_succ]
          refine mix_reads ?_
          repeat (go_big_quiet_step (fail))
          refine wpQuiet_nil (mix_acts ?_)
          have HRd := Lib.hid (HR.out.ext (ext_drew (ext_refl wr)))
          go_wp2_with (go_at_call 14; refine (cap_int HRd.out.m 0 1#64 (by omega) (by rw [HRd.out.fl.mg.n]; omega) (Lib.hid HRd.out.fl.mg.e)).mono ?_; rintro e w3 ⟨rfl, hx3⟩; refine Hid.out ?_)
          refine Lib.hid ?_
          have HR3 := Lib.hid (HRd.out.ext hx3)
          have hxw := ext_trans (ext_drew (ext_refl wr)) hx3
          have HQ3 := Lib.hid (HQ0.out.ext hxw)
          have HXW := Lib.hid (Fr.of_ext (lo := lo) (hi := hi) hxw)
          have HPT3 := Lib.hid (by rw [← HE9.out]; exact HQ3.out.pt : PT kI (trT p 3 s) F (.agg #[.int .i64 y9, .int .i64 a9.op, .int .i64 a9.at_, .int .u64 (U a9.a), .int .u64 (U a9.b), fn9, .pointer none]) w3)
          clear hx3 hxw HR HRd HQ0 d0 d1 d2 d3 d4 d5 d6 dz dl
          go_wp2
          refine mixQ_mk (off_of HXW.out) (mix_acts ?_)
          go_wp2_with (go_at_call 12; refine (run_I (trT p 3 s) F _ 0 1#64 9 w3 _ (by omega) HRUN.out HPT3.out HQ3.out.bn (fun j hj => (HQ3.out.of j hj).1) HR3.out.m).mono ?_; rintro e w4 ⟨rfl, hm4, hf4⟩; refine Hid.out ?_)
          refine Lib.hid ?_
          simp only [ansT, ovT, kI] at hm4 ⊢
          have hran := HR3.out.ran hm4 hf4 hlo1 hhb
          have HRAN := Lib.hid hran
          have HAP := Lib.hid HR3.out.ap
          have HFLL := Lib.hid HR3.out.fl.rg
          have hln := HR3.out.ln
          have HXZ := Lib.hid (HXW.out.trans hf4)
          have ⟨c0, c1, c2, c3, c4, c5, lt⟩ := hran.2.2.2.1.plc
          clear hm4 hf4 hran HR3 HQ3 HPT3 HTH0 HXW
          go_wp2
          refine mixQ_mk (off_of HXZ.out) (mix_reads ?_)
          repeat (go_big_quiet_step (fail))
          refine wpQuiet_nil (mix_end ?_)
          have hlL : l1.length ≤ 2000000 := by
            rcases HCS.out with ⟨_, _, rfl⟩ | h
            · simp
            · rw [h] at hln; simp at hln; omega
          go_wp2_with (go_at_call 19; refine (flist_any p HP.out l1 T1 HFL1.out HRAN.out.1).mono ?_; rintro e w6 ⟨v6, rfl, hv6, hx6⟩; refine Hid.out ?_)
          refine Lib.hid ?_
          have HV6 := Lib.hid hv6
          have HX6 := Lib.hid hx6
          obtain ⟨v6a, v6c, rfl⟩ := hv6.slice
          clear hv6 hx6
          have HX0 : Hid (Ext w w6) := Lib.hid (ext_trans HRAN.out.2.2.1 HX6.out)
          have HIM := Lib.hid (HRAN.out.2.1.ext HX6.out)
          have ⟨b0, b1, b2, b3, b4, b5, blt⟩ := (HRAN.out.2.2.2.1.ext HX6.out).plc
          clear c0 c1 c2 c3 c4 c5 lt
          rcases HCS.out with ⟨rfl, rfl, rfl⟩ | hle
          · have hmn : ((mine.length : Int) == p.n) = true := by simp at hln ⊢; omega
            have hmn2 : (mine.length : Int) = p.n := by simp at hln; omega
            go_wp2
            go_ret
            first | exact Ret.mk HX0.out | exact Ret.bool (by simp) HX0.out
          · subst hle
            have hr0 : 0 ≤ r := (HFLL.out r (by simp)).1
            have hnm : r ∉ mine := fun h => (List.nodup_append.1 HAP.out).2.2 r h r (by simp) rfl
            have hnl : r ∉ l1 := (List.nodup_cons.1 (List.nodup_append.1 HAP.out).2.1).1
            have hln2 : (l1.length : Int) + (mine.length : Int) + 1 = p.n := by simp at hln; omega
            have HNM := Lib.hid hnm
            have HNL := Lib.hid hnl
            have hr1 : ¬ r < 0 := by omega
            clear hnm hnl
            go_wp2_with (go_at_call 22; refine (rhas_any mine r _ w6 false (hid_no HNM.out) hml HIM.out.is).mono ?_; rintro e w7 ⟨rfl, hx7⟩; refine Hid.out ?_)
            refine Lib.hid ?_
            have HX7 := Lib.hid hx7
            have b0 := ext_cell hx7 b0
            have blt7 := cell_lt b0
            clear hx7
            go_wp2_with (go_at_call 22; refine (rhas_any l1 r _ w7 false (hid_no HNL.out) hlL (HV6.out.ext HX7.out).is).mono ?_; rintro e w8 ⟨rfl, hx8⟩; refine Hid.out ?_)
            refine Lib.hid ?_
            have HX8 := Lib.hid (ext_trans HX0.out (ext_trans HX7.out hx8))
            have b0 := ext_cell hx8 b0
            have blt8 := cell_lt b0
            have HW1 := Lib.hid (w64r2 l1.length mine.length p.n hlL hml hln2)
            replace hln2 := Lib.hid hln2
            replace hln := Lib.hid hln
            clear hx8
            go_wp2
            go_ret
            first
              | exact Ret.bool (by rw [HW1.out]; simp) HX8.out
              | exact Ret.bool (by have := hln2.out; simp; omega) HX8.out
end Go.Proofs.Ytlpjmnbipbgkdaa
