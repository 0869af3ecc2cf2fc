/-
  What the call of Do comes to, where the access may be done. Conditions: those of the theorem.
-/
import Derived.Test.YthepcnffadjeaaaMemBump
namespace Go.Proofs.Ythepcnffadjeaaa
open Go Go.RowKit

section
variable {lo hi : Nat} {L : Lay} {M : MS} {w : World}

/-- What Do reads, all in one. -/
structure DoSees (w X : World) (L : Lay) (M : MS) (q j : Nat) (op : Int) (e a b : BitVec 64) : Prop where
  d0 : X.cell? ⟨w.heap.size, 0, none⟩ = some (.int .i64 (q : Int))
  d2 : X.cell? ⟨w.heap.size + 1, 0, none⟩ = some (.int .i64 op)
  d3 : X.cell? ⟨w.heap.size + 1, 1, none⟩ = some (.int .i64 (j : Int))
  d4 : X.cell? ⟨w.heap.size + 1, 2, none⟩ = some (.int .u64 (U a))
  d5 : X.cell? ⟨w.heap.size + 1, 3, none⟩ = some (.int .u64 (U b))
  x0 : X.cell? ⟨L.rb q, 0, none⟩ = some (.slice (some ⟨L.wb q, 0, none⟩) (M.sz q) (L.wc q))
  x1 : X.cell? ⟨L.wb q, j, none⟩ = some (.int .u64 (U (M.wd q j)))
  x2 : X.cell? ⟨L.bm, 1, none⟩ = some (.int .i64 M.ct)
  z1 : X.frozen? ⟨L.wb q, j, none⟩ = false
  z2 : X.frozen? ⟨L.bm, 1, none⟩ = false
  l1 : w.heap.size + 1 < X.heap.size
  l0 : w.heap.size < X.heap.size
  l2 : L.rb q < X.heap.size
  l3 : L.wb q < X.heap.size
  l4 : L.bm < X.heap.size
theorem DoSees.ext {w X Y : World} {q j : Nat} {op : Int} {e a b : BitVec 64} (h : DoSees w X L M q j op e a b) (hb : Ext X Y) : DoSees w Y L M q j op e a b :=
  ⟨ext_cell hb h.d0, ext_cell hb h.d2, ext_cell hb h.d3, ext_cell hb h.d4, ext_cell hb h.d5, ext_cell hb h.x0, ext_cell hb h.x1, ext_cell hb h.x2,
   by rw [hb.frozen (p := ⟨L.wb q, j, none⟩) h.l3]; exact h.z1, by rw [hb.frozen (p := ⟨L.bm, 1, none⟩) h.l4]; exact h.z2,
   Nat.lt_of_lt_of_le h.l1 hb.size, Nat.lt_of_lt_of_le h.l0 hb.size, Nat.lt_of_lt_of_le h.l2 hb.size, Nat.lt_of_lt_of_le h.l3 hb.size, Nat.lt_of_lt_of_le h.l4 hb.size⟩
theorem DoSees.mk0 (h : MemIn lo hi L M w) {q j : Nat} {op : Int} {e a b : BitVec 64} (hr' : q < M.n) (hj' : j < M.sz q) (t t' : TypeId) :
    DoSees w ((w.alloc (.cells #[.int .i64 (q : Int), .int .u64 (U e)] t)).alloc (.cells #[.int .i64 op, .int .i64 (j : Int), .int .u64 (U a), .int .u64 (U b)] t')) L M q j op e a b := by
  have h' := (h.alloc (.cells #[.int .i64 (q : Int), .int .u64 (U e)] t)).alloc (.cells #[.int .i64 op, .int .i64 (j : Int), .int .u64 (U a), .int .u64 (U b)] t')
  refine ⟨?_, ?_, ?_, ?_, ?_, h'.r0 hr', h'.x hr' hj', h'.m1, h'.xz hr' j, h'.mz 1, ?_, ?_, h'.lt (h'.reg q hr').2.1, h'.lt (h'.wds q hr').2.1, h'.lt h'.mIn.2⟩ <;> simp [go_sem]

set_option maxHeartbeats 1000000 in
/-- The access is done. -/
theorem do_nat (h : MemIn lo hi L M w) (q j : Nat) (op : Int) (e a b : BitVec 64) (hr' : q < M.n) (HE : Hid (M.ep q = e)) (hj' : j < M.sz q) (ho : 0 ≤ op) (ho3 : op ≤ 3) :
    Calls Try.prog 46 #[.pointer (some ⟨L.bm, 0, none⟩), .agg #[.int .i64 (q : Int), .int .u64 (U e)], .agg #[.int .i64 op, .int .i64 (j : Int), .int .u64 (U a), .int .u64 (U b)]] w
      (RetM lo hi L (M.put q j (nextW op (M.wd q j) a b)).tick (.tuple #[.int .u64 (U (M.wd q j)), .bool true]) w) := by
  have H := Lib.hid h
  have hs := h.small q hr'
  have hne : L.rb q ≠ L.wb q := by
    obtain ⟨_, _, cur, h3, _⟩ := h.wds q hr'
    exact block_ne (h.reg q hr').2.2 h3 (by decide)
  have hnm : L.wb q ≠ L.bm := by
    obtain ⟨_, _, cur, h3, _⟩ := h.wds q hr'
    exact block_ne h3 h.m (by decide)
  have n0 : w.heap.size ≠ L.wb q := Nat.ne_of_gt (h.lt (h.wds q hr').2.1)
  have n1 : w.heap.size + 1 ≠ L.wb q := Nat.ne_of_gt (Nat.lt_succ_of_lt (h.lt (h.wds q hr').2.1))
  have hs1 : (j : Int) < (M.sz q : Int) := by omega
  have hs0 : (0 : Int) ≤ (j : Int) := by omega
  clear h
  go_enter Try.func46, Try.ntmps46
  go_wp2_with (first
    | (go_at_call 52; refine (good_yes ((H.out.alloc _).alloc _) q e hr' HE).mono ?_; rintro e X ⟨rfl, hX⟩; have HX := Lib.hid (ext_trans (ext_alloc _ (ext_alloc _ (ext_refl w))) hX); have HD := (DoSees.mk0 (op := op) (a := a) (b := b) H.out hr' hj' _ _).ext hX; clear hX; obtain ⟨d0, d2, d3, d4, d5, x0, x1, x2, z1, z2, l1, l0, l2, l3, l4⟩ := HD)
    | (go_at_call 30; refine (find_yes (H.out.ext HX.out) q hr').mono ?_; rintro e w' ⟨rfl, rfl⟩)
    | (go_at_call 40; refine (has_yes (H.out.ext HX.out) q hr' j hj').mono ?_; rintro e w' ⟨rfl, rfl⟩))
  refine wp_region_over (by kernel_rfl) (by kernel_rfl) ?_
  repeat (go_big_quiet_step (fail))
  refine wpQuiet_nil ?_
  intro _ hw'
  obtain ⟨s1, hw''⟩ := hw'
  subst hw''
  have HD := (DoSees.mk d0 d2 d3 d4 d5 x0 x1 x2 z1 z2 l1 l0 l2 l3 l4 : DoSees w X L M q j op e a b).ext (over_below X s1)
  have HY := Lib.hid (ext_over s1 HX.out)
  generalize over X s1 = Y at HD HY ⊢
  clear d0 d2 d3 d4 d5 x0 x1 x2 z1 z2 l1 l0 l2 l3 l4 HX
  obtain ⟨d0, d2, d3, d4, d5, x0, x1, x2, z1, z2, l1, l0, l2, l3, l4⟩ := HD
  go_wp2
  refine wp_region_mix (fun w' => ∃ s, w' = off1 (L.wb q) Y s) [(0, [0, 1, 2, 3, 4, 5, 6, 7]), (1, [8]), (0, [9]), (1, [10])] (by kernel_rfl) (by kernel_rfl) (off1_of (Fr.refl _ _ Y).drew) ?_
  simp only [pieces, pickL, List.map_cons, List.map_nil, List.getD_cons_zero, List.getD_cons_succ]
  refine mix_reads ?_
  repeat (go_big_quiet_step (fail))
  refine wpQuiet_nil ?_
  have HS := Lib.hid (DoSees.mk d0 d2 d3 d4 d5 x0 x1 x2 z1 z2 l1 l0 l2 l3 l4 : DoSees w Y L M q j op e a b)
  clear d0 d2 d3 d4 d5 x0 x1 x2 z1 z2 l1 l0 l2 l3 l4
  refine mix_acts ?_
  go_wp2_with (go_at_call 53; refine (behind_any _ _ _ _ _ _).mono ?_; rintro e Z ⟨rfl, hZ⟩; have HD := HS.out.ext (ext_trans (ext_drew (ext_refl Y)) hZ); have HZ := Lib.hid (ext_trans (ext_drew HY.out) hZ); have HZ' := Lib.hid (ext_trans (ext_drew (ext_refl Y)) hZ); clear hZ; obtain ⟨d0, d2, d3, d4, d5, x0, x1, x2, z1, z2, l1, l0, l2, l3, l4⟩ := HD)
  refine mixQ_mk (off1_of (Fr.of_ext HZ'.out)) (mix_reads ?_)
  repeat (go_big_quiet_step (fail))
  refine wpQuiet_nil (mix_acts ?_)
  go_wp2
  refine mixQ_mk (off1_of (Fr.set _ (Fr.of_ext HZ'.out) (Nat.le_refl _) (Nat.lt_succ_self _))) (mix_end ?_)
  have cc : L.wb q ≠ L.bm := hnm
  go_wp2
  go_ret2
  refine ⟨rfl, ?_, ?_⟩
  · exact ((H.out.ext HZ.out).setWord hr' hj' _).setCount
  · exact Fr.set _ (Fr.set _ (Fr.of_ext HZ.out) (H.out.wds q hr').1 (H.out.wds q hr').2.1) H.out.mIn.1 H.out.mIn.2

/-- The access is done. -/
theorem do_yes (h : MemIn lo hi L M w) (r op at_ : Int) (e a b : BitVec 64) (hd : DoOk M r e op at_) :
    Calls Try.prog 46 #[.pointer (some ⟨L.bm, 0, none⟩), .agg #[.int .i64 r, .int .u64 (U e)], .agg #[.int .i64 op, .int .i64 at_, .int .u64 (U a), .int .u64 (U b)]] w
      (RetM lo hi L (M.done r op at_ a b) (.tuple #[.int .u64 (U (M.wd r.toNat at_.toNat)), .bool true]) w) := by
  obtain ⟨⟨h1, h2, h3⟩, h4, h5, h6, h7⟩ := hd
  obtain ⟨q, rfl⟩ := Int.eq_ofNat_of_zero_le h1
  obtain ⟨j, rfl⟩ := Int.eq_ofNat_of_zero_le h4
  unfold MS.done
  rw [show ((q : Nat) : Int).toNat = q by omega] at h3 h5 ⊢
  rw [show ((j : Nat) : Int).toNat = j by omega]
  exact do_nat h q j op e a b (by omega) (Lib.hid h3) (by omega) h6 h7
end
end Go.Proofs.Ythepcnffadjeaaa
