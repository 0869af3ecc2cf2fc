/-
  ProgKinds: the call's way, walked. No conditions.
-/
import Derived.Test.YtmianpfomoghjaaProgKs
import Derived.Test.YtmianpfomoghjaaProgAwake
import Derived.Test.YtmianpfomoghjaaFork
namespace Go.Proofs.Ytmianpfomoghjaa
open Go Go.RowKit

/-- What the memory is: one region of one word. -/
structure One (x : BitVec 64) (M : MS) : Prop where
  n : M.n = 1
  s : M.sz 0 = 1
  e : M.ep 0 = 1#64
  x : M.wd 0 0 = x
theorem One.zero : One 0#64 (M0 [1] 1) := ⟨rfl, rfl, rfl, rfl⟩
theorem One.ok {x : BitVec 64} {M : MS} (h : One x M) (op : Int) (h0 : 0 ≤ op) (h3 : op ≤ 3) : DoOk M 0 1#64 op 0 :=
  ⟨⟨by decide, by rw [h.n]; decide, h.e⟩, by decide, by show (0 : Int) < (M.sz 0 : Int); rw [h.s]; decide, h0, h3⟩
theorem One.done {x : BitVec 64} {M : MS} (h : One x M) (op : Int) (a b : BitVec 64) : One (nextW op x a b) (M.done 0 op 0 a b) := by
  refine ⟨h.n, h.s, h.e, ?_⟩
  show (if 0 = (0 : Int).toNat ∧ 0 = (0 : Int).toNat then nextW op (M.wd (0 : Int).toNat (0 : Int).toNat) a b else M.wd 0 0) = _
  rw [if_pos ⟨rfl, rfl⟩]
  exact congrArg (fun z => nextW op z a b) h.x
theorem FnX.ext {D : Nat → Prop} {fn : Value} {G : BitVec 64 → Value} {w w' : World} (h : FnX D fn G w) (hx : Ext w w') : FnX D fn G w' := by
  obtain ⟨g, caps, e, h1, h2⟩ := h
  exact ⟨g, caps, e, h1, fun x u hu => h2 x u ((FD.of_ext hx).trans hu)⟩
structure KdIn (lo hi : Nat) (L : Lay) (cb : Nat) (M : MS) (w wr : World) : Prop where
  mem : MemIn lo hi L M wr
  cap : wr.heap[cb]? = some (.cells #[.int .i64 0, .int .u64 (U 1#64)] 37)
  ext : Ext w wr
theorem KdIn.grow {lo hi : Nat} {L : Lay} {cb : Nat} {M : MS} {w wr wr' : World} (h : KdIn lo hi L cb M w wr) (hx : Ext wr wr') : KdIn lo hi L cb M w wr' := ⟨h.mem.ext hx, (hx.block _ (heap_lt h.cap)).trans h.cap, ext_trans h.ext hx⟩
theorem KdIn.turn {lo hi : Nat} {L : Lay} {cb : Nat} {M M' : MS} {w wr wr' : World} (h : KdIn lo hi L cb M w wr) (hf : Fr lo hi wr wr') (hM : MemIn lo hi L M' wr') (hc : hi ≤ cb) (hlo : w.heap.size ≤ lo) : KdIn lo hi L cb M' w wr' :=
  ⟨hM, (hf.block _ (heap_lt h.cap) (.inr hc)).trans h.cap, hf.below h.ext hlo⟩

set_option maxRecDepth 8000 in
set_option maxHeartbeats 4000000 in
theorem progKinds_any (A B C : BitVec 64) (w : World) :
    Calls Try.prog 6 #[.int .u64 (U A), .int .u64 (U B), .int .u64 (U C)] w (Ret (.bool true) w) := by
  go_enter Try.func6, Try.ntmps6
  go_wp2_with (first
    | (go_at_call 9; refine (awake_any _).mono ?_; rintro e w' hr'; obtain ⟨rfl, s, rfl⟩ := hr'.over; clear hr')
    | (go_at_call 10; refine (new_law [1] _ _ (over_below w s) rfl rfl ok1).mono ?_; rintro e X ⟨lo, hi, L, rfl, hM, hX, hlo⟩; have HM : Hid (MemIn lo hi L (M0 [1] 1) X) := Lib.hid hM; have HX := Lib.hid hX; clear hM hX)
    | (go_at_call 12; refine (cap_int HM.out 0 1#64 (by decide) (by decide) (Lib.hid rfl)).mono ?_; rintro e w' hr'; obtain ⟨rfl, s1, rfl⟩ := hr'.over; clear hr'))
  have HK : Hid (KdIn lo hi L (over X s1).heap.size (M0 [1] 1) w ((over X s1).alloc (.cells #[.int .i64 0, .int .u64 (U 1#64)] 37))) := Lib.hid ⟨(HM.out.over s1).alloc _, heap_at _ _ _ rfl, ext_alloc _ (ext_over s1 HX.out)⟩
  have hcb : hi ≤ (over X s1).heap.size := Nat.le_trans HM.out.top (over_size X s1)
  generalize (over X s1).alloc _ = Y at HK ⊢
  generalize (over X s1).heap.size = cb at HK hcb ⊢
  clear HM HX s1 X
  have hO1 : One A ((M0 [1] 1).done 0 1 0 A 0#64) := by
    have h := One.zero.done 1 A 0#64
    have e : nextW 1 0#64 A 0#64 = A := by simp [nextW]
    rw [e] at h
    exact h
  have HO1 := Lib.hid hO1
  have hDD : ∀ T : World, MemIn lo hi L ((M0 [1] 1).done 0 1 0 A 0#64) T → ∀ k, (lo ≤ k ∧ k < hi) → k < T.heap.size := fun T hT k hk => by have := hT.top; omega
  clear hO1
  rename_i K2 hK2
  have HAFTER : ∀ {x3 x4 x5 x6 x8 x10 x13 x14 x15 x16 x17 x18 x19 x20 x21 x22 x23 x24 x25 x26 x27 x28 x29 x30 x31 x32 x33 x34 x35 x36 x37 x38 x39 x40 x41 x42 x43 x44 x45 x46 x47 x48 x49 x50 x51 x52 x53 x54 x55 x56 x57 x58 x59 x60 x61 x62 x63 x64 x65 x66 x67 x68 x69 x70 x71 x72 x73 x74 x75 x76 x77 x78 x79 x80 x81 x82 x83 x84 x85 x86 x87 x88 x89 x90 x91 x92 x93 x94 x95 x96 x97 : Value} (T : World), KdIn lo hi L cb ((M0 [1] 1).done 0 1 0 A 0#64) w T → K2 { tmps := #[.int .u64 (U A), .int .u64 (U B), .int .u64 (U C), x3, x4, x5, x6, .pointer (some ⟨L.bm, 0, none⟩), x8, .pointer (some ⟨cb, 0, none⟩), x10, .int .i64 1, .bool true, x13, x14, x15, x16, x17, x18, x19, x20, x21, x22, x23, x24, x25, x26, x27, x28, x29, x30, x31, x32, x33, x34, x35, x36, x37, x38, x39, x40, x41, x42, x43, x44, x45, x46, x47, x48, x49, x50, x51, x52, x53, x54, x55, x56, x57, x58, x59, x60, x61, x62, x63, x64, x65, x66, x67, x68, x69, x70, x71, x72, x73, x74, x75, x76, x77, x78, x79, x80, x81, x82, x83, x84, x85, x86, x87, x88, x89, x90, x91, x92, x93, x94, x95, x96, x97], defers := [] } T := by
    intro x3 x4 x5 x6 x8 x10 x13 x14 x15 x16 x17 x18 x19 x20 x21 x22 x23 x24 x25 x26 x27 x28 x29 x30 x31 x32 x33 x34 x35 x36 x37 x38 x39 x40 x41 x42 x43 x44 x45 x46 x47 x48 x49 x50 x51 x52 x53 x54 x55 x56 x57 x58 x59 x60 x61 x62 x63 x64 x65 x66 x67 x68 x69 x70 x71 x72 x73 x74 x75 x76 x77 x78 x79 x80 x81 x82 x83 x84 x85 x86 x87 x88 x89 x90 x91 x92 x93 x94 x95 x96 x97 T hQ
    refine hK2 _ _ ?_
    have HQ := Lib.hid hQ
    have p0 := cell_at (o := 0) hQ.cap rfl
    have p1 := cell_at (o := 1) hQ.cap rfl
    have lp := heap_lt hQ.cap
    clear hQ hK2 HK
    generalize ((M0 [1] 1).done 0 1 0 A 0#64) = M1 at HO1 HQ hDD
    have hO2 := HO1.out.done 2 B C
    have HO2 : Hid (One (if A = B then C else A) (M1.done 0 2 0 B C)) := by
      have e : nextW 2 A B C = if A = B then C else A := by
        by_cases h : A = B <;> simp [nextW, h]
      rw [e] at hO2
      exact Lib.hid hO2
    clear hO2
    obtain ⟨Wt, hWt⟩ : ∃ Wt, Wt = if A = B then C else A := ⟨_, rfl⟩
    rw [← hWt] at HO2
    have HWt := Lib.hid hWt
    clear hWt
    go_wp2
    refine wp_region_mix (fun w' => ∃ s, w' = off lo hi T s) [(0, [0, 1, 3, 4]), (1, [2]), (1, [5]), (0, [6, 7, 8, 9, 10, 11, 12])] (by kernel_rfl) (by kernel_rfl) (off_of (.of_ext (ext_drew (ext_refl T)))) ?_
    simp only [pieces, pickL, List.map_cons, List.map_nil, List.getD_cons_zero, List.getD_cons_succ]
    refine mix_reads ?_
    repeat (go_big_quiet_step (fail))
    refine wpQuiet_nil (mix_acts ?_)
    go_wp2_with (go_at_call 28; refine (try_any (fun k => lo ≤ k ∧ k < hi) 0 B C _ (fun k hk => hDD _ HQ.out.mem.drew k hk)).mono ?_; rintro e w1 ⟨fn, rfl, hx, hf⟩; have HX1 := Lib.hid (ext_trans (ext_drew (ext_refl T)) hx); have HF1 := Lib.hid hf; clear hx hf)
    refine mixQ_mk (off_of (.of_ext HX1.out)) (mix_acts ?_)
    go_wp2_with (go_at_call 27; refine (run1B (fun k => lo ≤ k ∧ k < hi) false ⟨2, 0, B, C⟩ fn (fun x => U x == U B) 0 1#64 w1 A (Lib.hid HO1.out.x) HF1.out (HQ.out.mem.ext HX1.out) (HO1.out.ok 2 (by decide) (by decide)) (fun k h1 h2 => ⟨h1, h2⟩)).mono ?_; rintro e w2 ⟨rfl, hm, hf⟩; have HF2 := Lib.hid ((Fr.of_ext HX1.out).trans hf); have HM2 := Lib.hid hm; clear hm hf)
    refine mixQ_mk (off_of HF2.out) (mix_reads ?_)
    repeat (go_big_quiet_step (fail))
    refine wpQuiet_nil (mix_end ?_)
    have HQ2 : Hid (KdIn lo hi L cb (M1.done 0 2 0 B C) w w2) := Lib.hid (HQ.out.turn HF2.out HM2.out hcb hlo)
    have p0' := cell_at (o := 0) HQ2.out.cap rfl
    have p1' := cell_at (o := 1) HQ2.out.cap rfl
    have lp' := heap_lt HQ2.out.cap
    clear p0 p1 lp HX1 HF1 HF2 HM2 HQ
    generalize M1.done 0 2 0 B C = M2 at HO2 HQ2
    go_wp2
    refine wp_region_mix (fun w' => ∃ s, w' = off lo hi w2 s) [(0, [1, 2]), (1, [0]), (1, [3]), (0, [4, 5, 6, 7, 8, 9, 10])] (by kernel_rfl) (by kernel_rfl) (off_of (.of_ext (ext_drew (ext_refl w2)))) ?_
    simp only [pieces, pickL, List.map_cons, List.map_nil, List.getD_cons_zero, List.getD_cons_succ]
    refine mix_reads ?_
    repeat (go_big_quiet_step (fail))
    refine wpQuiet_nil (mix_acts ?_)
    go_wp2_with (go_at_call 30; refine (get_any (fun k => lo ≤ k ∧ k < hi) 0 _).mono ?_; rintro e w3 ⟨fn3, rfl, hx, hf⟩; have HX1 := Lib.hid (ext_trans (ext_drew (ext_refl w2)) hx); have HF1 := Lib.hid hf; clear hx hf)
    refine mixQ_mk (off_of (.of_ext HX1.out)) (mix_acts ?_)
    go_wp2_with (go_at_call 29; refine (run1U (fun k => lo ≤ k ∧ k < hi) 0 ⟨0, 0, 0#64, 0#64⟩ fn3 U 0 1#64 w3 Wt (Lib.hid HO2.out.x) HF1.out (HQ2.out.mem.ext HX1.out) (HO2.out.ok 0 (by decide) (by decide)) (fun k h1 h2 => ⟨h1, h2⟩)).mono ?_; rintro e w4 ⟨rfl, hm, hf⟩; have HF2 := Lib.hid ((Fr.of_ext HX1.out).trans hf); have HX4 := Lib.hid (HF2.out.below HQ2.out.ext hlo); clear hm hf)
    refine mixQ_mk (off_of HF2.out) (mix_reads ?_)
    repeat (go_big_quiet_step (fail))
    refine wpQuiet_nil (mix_end ?_)
    clear HF1 HX1 HF2 HQ2 HO2 HO1 p0' p1' lp'
    by_cases hAB : A = B
    · have q1 : (U A == U B) = true := by rw [hAB]; simp
      have hW := HWt.out
      rw [if_pos hAB] at hW
      subst hW
      clear HWt
      go_wp2
      go_ret
      exact Ret.mk HX4.out
    · have q1 : (U A == U B) = false := beq_eq_false_iff_ne.2 fun h => hAB (U_inj h)
      have hW := HWt.out
      rw [if_neg hAB] at hW
      subst hW
      clear HWt
      go_wp2
      go_ret
      exact Ret.mk HX4.out
  clear hK2
  have p0 := cell_at (o := 0) HK.out.cap rfl
  have p1 := cell_at (o := 1) HK.out.cap rfl
  have lp := heap_lt HK.out.cap
  have HD0 : Hid (∀ T : World, Ext Y T → ∀ k, (lo ≤ k ∧ k < hi) → k < T.heap.size) := Lib.hid fun T hT k hk => by have := (HK.out.mem.ext hT).top; omega
  refine wp_region_ways (fun x => ∃ s, x = off lo hi Y s) (by kernel_rfl) (off_of (.of_ext (ext_drew (ext_refl Y)))) ?_
  refine ways_reads [0, 2, 3] (by kernel_rfl) ?_
  simp only [pickL, List.map_cons, List.map_nil, List.getD_cons_zero, List.getD_cons_succ]
  repeat (go_big_quiet_step (fail))
  refine wpQuiet_nil ?_
  clear p0 p1 lp
  refine ways_fork 1 (by kernel_rfl) ?_ (ways_act 9 (by kernel_rfl) ?_)
  · simp only [pickL, List.map_cons, List.map_nil, List.getD_cons_zero, List.getD_cons_succ]
    go_wp2_with (go_at_call 26; refine (set_any (fun k => lo ≤ k ∧ k < hi) 0 A _ (HD0.out _ (ext_drew (ext_refl Y)))).mono ?_; rintro e w1 ⟨fn, rfl, hx, hf⟩; have HX1 := Lib.hid (ext_trans (ext_drew (ext_refl Y)) hx); have HF1 := Lib.hid hf; clear hx hf)
    refine mixQ_mk (off_of (.of_ext HX1.out)) (ways_fork 4 (by kernel_rfl) ?_ (ways_act 9 (by kernel_rfl) ?_))
    · simp only [pickL, List.map_cons, List.map_nil, List.getD_cons_zero, List.getD_cons_succ]
      go_wp2_with (go_at_call 25; refine (run1N (fun k => lo ≤ k ∧ k < hi) ⟨1, 0, A, 0#64⟩ fn 0 1#64 w1 0#64 (Lib.hid One.zero.x) HF1.out (HK.out.mem.ext HX1.out) (One.zero.ok 1 (by decide) (by decide)) (fun k h1 h2 => ⟨h1, h2⟩)).mono ?_; rintro e w2 ⟨rfl, hm, hf⟩; have HF2 := Lib.hid ((Fr.of_ext HX1.out).trans hf); have HM2 : Hid (MemIn lo hi L ((M0 [1] 1).done 0 1 0 A 0#64) w2) := Lib.hid hm; clear hm hf)
      refine mixQ_mk (off_of HF2.out) (ways_reads [5, 6, 7, 8] (by kernel_rfl) ?_)
      simp only [pickL, List.map_cons, List.map_nil, List.getD_cons_zero, List.getD_cons_succ]
      repeat (go_big_quiet_step (fail))
      refine wpQuiet_nil (ways_act 9 (by kernel_rfl) ?_)
      simp only [pickL, List.map_cons, List.map_nil, List.getD_cons_zero, List.getD_cons_succ]
      go_wp2
      refine mixQ_mk (off_of (HF2.out.alloc _)) (ways_act 10 (by kernel_rfl) ?_)
      simp only [pickL, List.map_cons, List.map_nil, List.getD_cons_zero, List.getD_cons_succ]
      go_wp2
      refine mixQ_mk (off_of (HF2.out.alloc _)) (ways_reads [11, 12] (by kernel_rfl) ?_)
      simp only [pickL, List.map_cons, List.map_nil, List.getD_cons_zero, List.getD_cons_succ]
      repeat (go_big_quiet_step (fail))
      refine wpQuiet_nil (ways_end (by kernel_rfl) ?_)
      exact HAFTER _ ((HK.out.turn HF2.out HM2.out hcb hlo).grow (ext_alloc _ (ext_refl _)))
    · simp only [pickL, List.map_cons, List.map_nil, List.getD_cons_zero, List.getD_cons_succ]
      go_wp2
      have HX1' := Lib.hid (ext_alloc (.cells #[] 66) HX1.out)
      have HF1' := Lib.hid (HF1.out.ext (ext_alloc (.cells #[] 66) (ext_refl w1)))
      generalize w1.alloc (.cells #[] 66) = V at HX1' HF1' ⊢
      refine mixQ_mk (off_of (.of_ext HX1'.out)) (ways_act 4 (by kernel_rfl) ?_)
      simp only [pickL, List.map_cons, List.map_nil, List.getD_cons_zero, List.getD_cons_succ]
      go_wp2_with (go_at_call 25; refine (run1N (fun k => lo ≤ k ∧ k < hi) ⟨1, 0, A, 0#64⟩ fn 0 1#64 V 0#64 (Lib.hid One.zero.x) HF1'.out (HK.out.mem.ext HX1'.out) (One.zero.ok 1 (by decide) (by decide)) (fun k h1 h2 => ⟨h1, h2⟩)).mono ?_; rintro e w2 ⟨rfl, hm, hf⟩; have HF2 := Lib.hid ((Fr.of_ext HX1'.out).trans hf); have HM2 : Hid (MemIn lo hi L ((M0 [1] 1).done 0 1 0 A 0#64) w2) := Lib.hid hm; clear hm hf)
      refine mixQ_mk (off_of HF2.out) (ways_reads [5, 6, 7, 8] (by kernel_rfl) ?_)
      simp only [pickL, List.map_cons, List.map_nil, List.getD_cons_zero, List.getD_cons_succ]
      repeat (go_big_quiet_step (fail))
      refine wpQuiet_nil (ways_act 10 (by kernel_rfl) ?_)
      simp only [pickL, List.map_cons, List.map_nil, List.getD_cons_zero, List.getD_cons_succ]
      go_wp2
      refine mixQ_mk (off_of HF2.out) (ways_reads [11, 12] (by kernel_rfl) ?_)
      simp only [pickL, List.map_cons, List.map_nil, List.getD_cons_zero, List.getD_cons_succ]
      repeat (go_big_quiet_step (fail))
      refine wpQuiet_nil (ways_end (by kernel_rfl) ?_)
      exact HAFTER _ (HK.out.turn HF2.out HM2.out hcb hlo)
  · simp only [pickL, List.map_cons, List.map_nil, List.getD_cons_zero, List.getD_cons_succ]
    go_wp2
    have HX0 : Hid (Ext Y (Y.drew.alloc (.cells #[] 66))) := Lib.hid (ext_alloc _ (ext_drew (ext_refl Y)))
    obtain ⟨V0, hV⟩ : ∃ V, V = Y.drew.alloc (.cells #[] 66) := ⟨_, rfl⟩
    first | rw [← hV] | rw [show (Y.alloc (.cells #[] 66)).drew = Y.drew.alloc (.cells #[] 66) from rfl, ← hV]
    rw [← hV] at HX0
    clear hV
    refine mixQ_mk (off_of (.of_ext HX0.out)) (ways_act 1 (by kernel_rfl) ?_)
    simp only [pickL, List.map_cons, List.map_nil, List.getD_cons_zero, List.getD_cons_succ]
    go_wp2_with (go_at_call 26; refine (set_any (fun k => lo ≤ k ∧ k < hi) 0 A _ (HD0.out _ HX0.out)).mono ?_; rintro e V ⟨fn, rfl, hx, hf⟩; have HX1' := Lib.hid (ext_trans HX0.out hx); have HF1' := Lib.hid hf; clear hx hf)
    refine mixQ_mk (off_of (.of_ext HX1'.out)) (ways_act 4 (by kernel_rfl) ?_)
    simp only [pickL, List.map_cons, List.map_nil, List.getD_cons_zero, List.getD_cons_succ]
    go_wp2_with (go_at_call 25; refine (run1N (fun k => lo ≤ k ∧ k < hi) ⟨1, 0, A, 0#64⟩ fn 0 1#64 V 0#64 (Lib.hid One.zero.x) HF1'.out (HK.out.mem.ext HX1'.out) (One.zero.ok 1 (by decide) (by decide)) (fun k h1 h2 => ⟨h1, h2⟩)).mono ?_; rintro e w2 ⟨rfl, hm, hf⟩; have HF2 := Lib.hid ((Fr.of_ext HX1'.out).trans hf); have HM2 : Hid (MemIn lo hi L ((M0 [1] 1).done 0 1 0 A 0#64) w2) := Lib.hid hm; clear hm hf)
    refine mixQ_mk (off_of HF2.out) (ways_reads [5, 6, 7, 8] (by kernel_rfl) ?_)
    simp only [pickL, List.map_cons, List.map_nil, List.getD_cons_zero, List.getD_cons_succ]
    repeat (go_big_quiet_step (fail))
    refine wpQuiet_nil (ways_act 10 (by kernel_rfl) ?_)
    simp only [pickL, List.map_cons, List.map_nil, List.getD_cons_zero, List.getD_cons_succ]
    go_wp2
    refine mixQ_mk (off_of HF2.out) (ways_reads [11, 12] (by kernel_rfl) ?_)
    simp only [pickL, List.map_cons, List.map_nil, List.getD_cons_zero, List.getD_cons_succ]
    repeat (go_big_quiet_step (fail))
    refine wpQuiet_nil (ways_end (by kernel_rfl) ?_)
    exact HAFTER _ (HK.out.turn HF2.out HM2.out hcb hlo)

end Go.Proofs.Ytmianpfomoghjaa
