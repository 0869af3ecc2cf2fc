/-
  ProgHalves: the call's ways, walked. Conditions: those of each theorem.
-/
import Derived.Test.YtmianpfomoghjaaProgLaw
import Derived.Test.YtmianpfomoghjaaProgSame
import Derived.Test.YtmianpfomoghjaaFork
namespace Go.Proofs.Ytmianpfomoghjaa
open Go Go.RowKit

/-- What Run hands back. -/
def resOf (x : MS × List (BitVec 64) × List Acc) (t : List (BitVec 64)) : List (BitVec 64) := if x.2.2 = [] then t ++ x.2.1 else []
theorem res_us {D : Nat → Prop} {x : MS × List (BitVec 64) × List Acc} {t : List (BitVec 64)} {w : World} {rv : Value} (h1 : x.2.2 = [] → UsB D w rv (t ++ x.2.1)) (h2 : x.2.2 ≠ [] → rv = .slice none 0 0) : UsB D w rv (resOf x t) := by
  unfold resOf
  by_cases h : x.2.2 = []
  · rw [if_pos h]; exact h1 h
  · rw [if_neg h, h2 h]; exact UsB.nil _ _
structure HvIn (D : Nat → Prop) (lo hi : Nat) (L : Lay) (lo2 hi2 : Nat) (L2 : Lay) (B : Nat) (l : List Acc) (w : World) (l' : List Acc) (ts : List (BitVec 64)) (M' : MS) (v : Value) (wr : World) : Prop where
  p : PH D l' ts v wr
  mem : MemIn lo hi L M' wr
  mem2 : MemIn lo2 hi2 L2 (M0 [8] 1) wr
  m8 : Mem8 M'
  box : BoxP B v wr
  ext : Ext w wr
  ras : runAs 0 1#64 l 40 (M0 [8] 1) ts l' (40 - ts.length) M'
  len : ts.length + l'.length = l.length
/-- Behind a step, whatever it came to. -/
structure HvQ (D : Nat → Prop) (lo hi : Nat) (L : Lay) (lo2 hi2 : Nat) (L2 : Lay) (B bq : Nat) (l : List Acc) (w : World) (l' : List Acc) (ts : List (BitVec 64)) (M' : MS) (v : Value) (okb : Bool) (l2 : List Acc) (t2 : List (BitVec 64)) (M2 : MS) (v2 : Value) (wr : World) : Prop where
  po : PH D l' ts v wr
  p : PH D l2 t2 v2 wr
  mem : MemIn lo hi L M2 wr
  mem2 : MemIn lo2 hi2 L2 (M0 [8] 1) wr
  box : BoxP B v wr
  boxq : BoxP bq v2 wr
  ext : Ext w wr
  sp : StepSpec 0 1#64 M' l' ts M2 l2 t2 okb
def HvRel (D : Nat → Prop) (lo hi : Nat) (L : Lay) (lo2 hi2 : Nat) (L2 : Lay) (B : Nat) (l : List Acc) (w : World) (i : Value) (wr : World) : Prop :=
  ∃ (k : Nat) (l' : List Acc) (ts : List (BitVec 64)) (M' : MS) (v : Value), k ≤ 31 ∧ i = .int .i64 (k : Int) ∧ HvIn D lo hi L lo2 hi2 L2 B l w l' ts M' v wr
def HvEnd (lo hi : Nat) (L : Lay) (lo2 hi2 : Nat) (L2 : Lay) (M : MS) (rv rv2 : Value) (res : List (BitVec 64)) (w : World) (i : Value) (wr : World) : Prop :=
  ∃ k : Nat, k ≤ 8 ∧ i = .int .i64 (k : Int) ∧ MemIn lo hi L M wr ∧ MemIn lo2 hi2 L2 M wr ∧ Us wr rv res ∧ Us wr rv2 res ∧ Ext w wr

set_option maxRecDepth 8000 in
set_option maxHeartbeats 4000000 in
theorem progHalves_small (l : List Acc) (a0 : Option Addr) (cap : Nat) (st : Int) (q : Nat) (w : World) (hl : l.length ≤ 30) (hs0 : 0 ≤ st) (hs1 : st ≤ 255) (hq : Hid (st % 31 = (q : Int))) (hq31 : q < 31) (hA : Hid (AsB (fun _ => False) w (.slice a0 l.length cap) l)) :
    Calls Try.prog 7 #[.slice a0 l.length cap, .int .u8 st] w (Ret (.bool true) w) := by
  have q0 : decide (30 < (l.length : Int)) = false := by simp; omega
  go_enter Try.func7, Try.ntmps7
  go_wp2_with (first
    | (go_at_call 9; refine (awake_any _).mono ?_; rintro e w' hr'; obtain ⟨rfl, s, rfl⟩ := hr'.over; clear hr')
    | (go_at_call 10; refine (new_law [8] _ _ (over_below w s) rfl rfl ok8).mono ?_; rintro e X ⟨lo, hi, L, rfl, hM, hX, hlo⟩; have HM : Hid (MemIn lo hi L (M0 [8] 1) X) := Lib.hid hM; have HX := Lib.hid hX; clear hM hX; refine Hid.out ?_))
  refine Lib.hid ?_
  go_wp2_with (first
    | (go_at_call 10; refine (new_law [8] _ _ (ext_refl X) rfl rfl ok8).mono ?_; rintro e X2 ⟨lo2, hi2, L2, rfl, hM2, hX2, hlo2⟩; have HM2 : Hid (MemIn lo2 hi2 L2 (M0 [8] 1) X2) := Lib.hid hM2; have HX2 := Lib.hid hX2; clear hM2 hX2)
    | (go_at_call 14; refine (list_any (fun k => (lo ≤ k ∧ k < hi) ∨ (lo2 ≤ k ∧ k < hi2)) l _ _ (hA.out.ext (ext_trans HX.out HX2.out)) (by omega) (fun k hk => by have := HM.out.top; have := HX2.out.size; have := HM2.out.top; rcases hk with hk | hk <;> omega)).mono ?_; rintro e w1 ⟨v1, rfl, hx, hp⟩; refine Hid.out ?_))
  refine Lib.hid ?_
  obtain ⟨sa, n, c, a, fn, rfl, hfn⟩ := hp.shape
  have HM1 := (HM.out.ext HX2.out).ext hx
  have HM21 := HM2.out.ext hx
  have HX1 := ext_trans (ext_trans HX.out HX2.out) hx
  have hhi : hi ≤ w1.heap.size := HM1.top
  have hhi2 : hi2 ≤ w1.heap.size := HM21.top
  have hap : hi ≤ lo2 := Nat.le_trans HM.out.top hlo2
  have hlo2w : w.heap.size ≤ lo2 := Nat.le_trans HX.out.size hlo2
  have hwB : w.heap.size ≤ w1.heap.size := HX1.size
  have HS : Hid (HvIn (fun k => ((lo ≤ k ∧ k < hi) ∨ (lo2 ≤ k ∧ k < hi2)) ∨ k = w1.heap.size) lo hi L lo2 hi2 L2 w1.heap.size l w l [] (M0 [8] 1) (pV (.slice sa n c) a fn (.pointer none)) (w1.alloc (.cells #[.slice sa n c, .int .i64 a.op, .int .i64 a.at_, .int .u64 (U a.a), .int .u64 (U a.b), fn, .pointer none] 46))) :=
    Lib.hid ⟨(hp.h.more fun k hk => ⟨fun h => h.resolve_right (by omega), .inl⟩).ext (ext_alloc _ (ext_refl w1)), HM1.alloc _, HM21.alloc _, Mem8.zero, ⟨sa, n, c, a, fn, none, rfl, hfn, heap_at _ _ _ rfl⟩, ext_alloc _ HX1, ⟨rfl, rfl, rfl⟩, by simp⟩
  have hsf := store_fn hfn
  clear hp HM1 HM21 HX1 HM HM2 HX HX2 hx
  have hDm : ∀ k, lo ≤ k → k < hi → (((lo ≤ k ∧ k < hi) ∨ (lo2 ≤ k ∧ k < hi2)) ∨ k = w1.heap.size) := fun k h1 h2 => .inl (.inl ⟨h1, h2⟩)
  have hDb : ∀ k, (((lo ≤ k ∧ k < hi) ∨ (lo2 ≤ k ∧ k < hi2)) ∨ k = w1.heap.size) → k < w1.heap.size + 1 := fun k hk => by omega
  unfold pV at HS ⊢
  go_wp2
  generalize hW : w1.alloc _ = W at HS ⊢
  generalize w1.heap.size = B at HS hhi hhi2 hDm hDb hwB ⊢
  clear hW hsf hfn
  rename_i K hK
  have HREST : ∀ {x2 x3 x4 x6 x8 x10 x11 x12 x13 x14 x15 x16 x17 x18 x19 x20 x21 x22 x23 x24 x25 x26 x27 x28 x29 x30 x31 x32 x33 x34 x35 x36 x37 x38 x39 x40 x41 x42 x43 x44 x45 x46 x47 x48 x49 x50 x51 x52 x53 x54 x55 x56 x57 x58 x59 x60 x61 x62 x63 x64 x65 x66 x67 x68 x69 x70 x71 x72 x73 x74 x75 x76 x77 x78 x79 x80 x81 x82 x83 x84 x85 x86 x87 x88 x89 x90 x91 x92 x93 x94 x95 x96 x97 x98 x99 x100 x101 x102 x103 x104 x105 x106 x107 x108 : Value} (l' : List Acc) (ts : List (BitVec 64)) (M' : MS) (v : Value) (T : World), HvIn (fun k => ((lo ≤ k ∧ k < hi) ∨ (lo2 ≤ k ∧ k < hi2)) ∨ k = B) lo hi L lo2 hi2 L2 B l w l' ts M' v T → K { tmps := #[.slice a0 l.length cap, .int .u8 st, x2, x3, x4, .pointer (some ⟨L.bm, 0, none⟩), x6, .pointer (some ⟨L2.bm, 0, none⟩), x8, .pointer (some ⟨B, 0, none⟩), x10, x11, x12, x13, x14, x15, x16, x17, x18, x19, x20, x21, x22, x23, x24, x25, x26, x27, x28, x29, x30, x31, x32, x33, x34, x35, x36, x37, x38, x39, x40, x41, x42, x43, x44, x45, x46, x47, x48, x49, x50, x51, x52, x53, x54, x55, x56, x57, x58, x59, x60, x61, x62, x63, x64, x65, x66, x67, x68, x69, x70, x71, x72, x73, x74, x75, x76, x77, x78, x79, x80, x81, x82, x83, x84, x85, x86, x87, x88, x89, x90, x91, x92, x93, x94, x95, x96, x97, x98, x99, x100, x101, x102, x103, x104, x105, x106, x107, x108], defers := [] } T := by
    intro x2 x3 x4 x6 x8 x10 x11 x12 x13 x14 x15 x16 x17 x18 x19 x20 x21 x22 x23 x24 x25 x26 x27 x28 x29 x30 x31 x32 x33 x34 x35 x36 x37 x38 x39 x40 x41 x42 x43 x44 x45 x46 x47 x48 x49 x50 x51 x52 x53 x54 x55 x56 x57 x58 x59 x60 x61 x62 x63 x64 x65 x66 x67 x68 x69 x70 x71 x72 x73 x74 x75 x76 x77 x78 x79 x80 x81 x82 x83 x84 x85 x86 x87 x88 x89 x90 x91 x92 x93 x94 x95 x96 x97 x98 x99 x100 x101 x102 x103 x104 x105 x106 x107 x108 l' ts M' v T hS
    refine hK _ _ ?_
    clear HS hK
    obtain ⟨sb, nb, cb, ab, fb, pb, rfl, hfb, hblk⟩ := hS.box.blk
    obtain ⟨cc0, cc1, cc2, cc3, cc4, cc5, cc6, cz, ll⟩ := sev_of hblk
    have HS := Lib.hid hS
    clear hS hblk
    go_wp2
    refine wp_region_mix (fun w' => ∃ s, w' = off lo hi T s) [(0, [0, 1, 2]), (1, [3]), (1, [4]), (0, [5, 6, 7, 8, 9, 10, 11])] (by kernel_rfl) (by kernel_rfl) (off_of (.of_ext (ext_drew (ext_refl T)))) ?_
    simp only [pieces, pickL, List.map_cons, List.map_nil, List.getD_cons_zero, List.getD_cons_succ]
    refine mix_reads ?_
    repeat (go_big_quiet_step (fail))
    refine wpQuiet_nil (mix_acts ?_)
    go_wp2_with (go_at_call 12; refine (cap_int (HS.out.mem.drew) 0 1#64 (by decide) (by rw [HS.out.m8.n]; decide) (Lib.hid HS.out.m8.e)).mono ?_; rintro e w2 ⟨rfl, hx⟩; have HX2 := Lib.hid (ext_trans (ext_drew (ext_refl T)) hx); clear hx)
    refine mixQ_mk (off_of (.of_ext HX2.out)) (mix_acts ?_)
    obtain ⟨F, hF⟩ : ∃ F, F = runF 0 1#64 l 40 (M0 [8] 1) := ⟨_, rfl⟩
    obtain ⟨x1, hx1⟩ : ∃ x1, runF 0 1#64 l' (40 : Int).toNat M' = x1 := ⟨_, rfl⟩
    have eF : x1 = runF 0 1#64 l' (40 - ts.length) M' := by
      rw [← hx1]
      exact runF_more (by have := HS.out.len; show l'.length ≤ 40; omega) (by have := HS.out.len; omega)
    have e1 : x1.1 = F.1 := by rw [eF, hF]; exact HS.out.ras.1.symm
    have e3 : x1.2.2 = F.2.2 := by rw [eF, hF]; exact HS.out.ras.2.2.symm
    have e2 : resOf x1 ts = resOf F [] := by
      unfold resOf
      rw [e3, eF, hF, ← HS.out.ras.2.1]
      rfl
    have HX1 := Lib.hid hx1
    have HE := Lib.hid (And.intro e1 (And.intro e2 (congrArg List.isEmpty e3)))
    have h8 : Mem8 F.1 := by rw [hF]; exact Mem8.zero.run
    have H8 := Lib.hid h8
    have HFE : Hid (runF 0 1#64 l (40 : Int).toNat (M0 [8] 1) = F) := Lib.hid hF.symm
    clear eF e1 e3 e2 h8 hF hx1
    go_wp2_with (go_at_call 13; refine (run_at _ l' ts _ 0 1#64 40 w2 x1 HX1 (HS.out.p.ext HX2.out) (HS.out.mem.ext HX2.out) (by have := HS.out.len; omega) hDm (fun k hk => by have := hDb k hk; have := HX2.out.size; omega)).mono ?_; rintro e w3 ⟨rv, rfl, hm, hf, hu1, hu2⟩; refine Hid.out ?_)
    refine Lib.hid ?_
    obtain ⟨e1, e2, e3⟩ := HE.out
    have hU := res_us hu1 hu2
    have HF3 := Lib.hid ((Fr.of_ext HX2.out).trans hf)
    rw [e2] at hU
    rw [e1] at hm
    rw [e3]
    have HMA := Lib.hid hm
    have HUA := Lib.hid hU
    have HMB := Lib.hid (HS.out.mem2.fr HF3.out (.inr hap))
    have HXA := Lib.hid (HF3.out.below HS.out.ext hlo)
    clear hm hf hu1 hu2 hU e1 e2 e3 HE HX1 cc0 cc1 cc2 cc3 cc4 cc5 cc6 cz ll HX2
    generalize x1.2.1.length = n3
    go_wp2
    refine mixQ_mk (off_of HF3.out) (mix_reads ?_)
    repeat (go_big_quiet_step (fail))
    refine wpQuiet_nil (mix_end ?_)
    clear HF3 HS
    go_wp2_with (first
      | (go_at_call 14; refine (list_any (fun k => lo2 ≤ k ∧ k < hi2) l _ _ (hA.out.ext HXA.out) (by omega) (fun k hk => by have := HMB.out.top; omega)).mono ?_; rintro e w4 ⟨v4, rfl, hx, hp⟩; have HX4 := Lib.hid hx; have HP4 := Lib.hid hp; clear hx hp)
      | (go_at_call 12; refine (cap_int (HMB.out.ext HX4.out) 0 1#64 (by decide) (by decide) (Lib.hid rfl)).mono ?_; rintro e w5 ⟨rfl, hx⟩; have HX5 := Lib.hid (ext_trans HX4.out hx); have HX45 := Lib.hid hx; clear hx)
      | (go_at_call 13; refine (run_at _ l [] v4 0 1#64 40 w5 F HFE (HP4.out.ext HX45.out).h (HMB.out.ext HX5.out) (by simp; omega) (fun k h1 h2 => ⟨h1, h2⟩) (fun k hk => by have := HMB.out.top; have := HX5.out.size; omega)).mono ?_; rintro e w6 ⟨rv2, rfl, hm, hf, hu1, hu2⟩; refine Hid.out ?_))
    refine Lib.hid ?_
    have HUB := Lib.hid (res_us hu1 hu2).us
    have HMB6 := Lib.hid hm
    have hf6 := (Fr.of_ext HX5.out).trans hf
    have HMA6 := Lib.hid (HMA.out.fr hf6 (.inl hap))
    have HUA6 := Lib.hid ((HUA.out.fr (FD.of_fr hf6 fun k h1 h2 => .inl (.inr ⟨h1, h2⟩))).us)
    have HX6 := Lib.hid (hf6.below HXA.out hlo2w)
    clear hm hf hu1 hu2 hf6 HX5 HX45 HX4 HP4 HXA HMB HUA HMA
    have HFL := HFE
    clear HFE
    have HRL : Hid ((resOf F []).length ≤ 70) := by
      refine Lib.hid ?_
      have h := run_len (r := 0) (e := 1#64) (l := l) (k := 40) (M := M0 [8] 1)
      unfold resOf
      rw [← HFL.out]
      show (if (runF 0 1#64 l 40 (M0 [8] 1)).2.2 = [] then [] ++ (runF 0 1#64 l 40 (M0 [8] 1)).2.1 else []).length ≤ 70
      split
      · simp; omega
      · simp
    clear HFL
    generalize resOf F [] = res at HUB HUA6 HRL
    generalize F.2.2.isEmpty = ov
    generalize F.2.1.length = nn
    generalize F.1 = MF at H8 HMB6 HMA6
    go_wp2
    go_loopw [19] (fun i wr => HvEnd lo hi L lo2 hi2 L2 MF rv rv2 res w i wr) (fun i _ => (8 - intOf i).toNat)
    case atStart => exact ⟨0, Nat.zero_le _, rfl, HMA6.out, HMB6.out, HUA6.out, HUB.out, HX6.out⟩
    case round =>
      clear HMA6 HMB6 HUA6 HUB HX6
      obtain ⟨k, hk, rfl, hm1, hm2, hu1, hu2, hx⟩ := hrel
      have HA1 := Lib.hid hm1
      have HA2 := Lib.hid hm2
      have HU1 := Lib.hid hu1
      have HU2 := Lib.hid hu2
      have HX := Lib.hid hx
      clear hm1 hm2 hu1 hu2 hx
      by_cases hlt : k < 8
      · have hn : (0 : Int) < (MF.n : Int) := by rw [H8.out.n]; decide
        have hsz : (k : Int) < (MF.sz (0 : Int).toNat : Int) := by show (k : Int) < (MF.sz 0 : Int); rw [H8.out.s]; omega
        have HH := Lib.hid (And.intro hn hsz)
        clear hn hsz
        go_wp2_with fail
        refine (peek_int HA1.out 0 (k : Int) (U (MF.wd 0 k)) (by decide) HH.out.1 (by omega) HH.out.2 (Lib.hid rfl)).mono ?_
        rintro e w' hr'
        obtain ⟨rfl, s2, rfl⟩ := hr'.over
        clear hr'
        go_wp2_with fail
        refine (peek_int (HA2.out.over s2) 0 (k : Int) (U (MF.wd 0 k)) (by decide) HH.out.1 (by omega) HH.out.2 (Lib.hid rfl)).mono ?_
        rintro e w' hr'
        obtain ⟨rfl, s3, rfl⟩ := hr'.over
        clear hr'
        go_wp2
        exact ⟨⟨k + 1, by omega, by go_num, by first | exact (HA1.out.over _).over _ | exact HA1.out.over _, by first | exact (HA2.out.over _).over _ | exact HA2.out.over _, by first | exact (HU1.out.over _).over _ | exact HU1.out.over _, by first | exact (HU2.out.over _).over _ | exact HU2.out.over _, by first | exact ext_over _ (ext_over _ HX.out) | exact ext_over _ HX.out⟩, by simp [intOf]; omega⟩
      · obtain rfl : k = 8 := by omega
        have h88 : ¬ (((8 : Nat) : Int) < 8) := by decide
        have qo : (ov == ov) = true := by simp
        go_wp2_with (first
          | (go_at_call 17; refine (same_any res res rv rv2 _ true (hid_yes rfl) HRL.out HU1.out HU2.out).mono ?_; rintro e w' hr'; obtain ⟨rfl, s2, rfl⟩ := hr'.over; clear hr'; refine Hid.out ?_))
        refine Lib.hid ?_
        go_wp2_with fail
        refine (count_at (HA1.out.over s2) MF.ct (Lib.hid rfl)).mono ?_
        rintro e w' hr'
        obtain ⟨rfl, s3, rfl⟩ := hr'.over
        clear hr'
        go_wp2_with fail
        refine (count_at (by first | exact (HA2.out.over s2).over s3 | exact HA2.out.over _) MF.ct (Lib.hid rfl)).mono ?_
        rintro e w' hr'
        obtain ⟨rfl, s4, rfl⟩ := hr'.over
        clear hr'
        go_wp2
        go_ret
        exact Ret.mk (by repeat (first | exact HX.out | apply ext_over))
  clear hK
  go_loopw [10] (fun i wr => HvRel (fun k => ((lo ≤ k ∧ k < hi) ∨ (lo2 ≤ k ∧ k < hi2)) ∨ k = B) lo hi L lo2 hi2 L2 B l w i wr) (fun i _ => (31 - intOf i).toNat)
  case atStart => exact ⟨0, _, _, _, _, Nat.zero_le _, rfl, HS.out⟩
  case round =>
    clear HS
    obtain ⟨k, l', ts, M', v, hk, rfl, hS⟩ := hrel
    have e5 := hq.out
    by_cases hlt : k < q
    · obtain ⟨sb, nb, cb, ab, fb, pb, rfl, hfb, hblk⟩ := hS.box.blk
      obtain ⟨cc0, cc1, cc2, cc3, cc4, cc5, cc6, cz, ll⟩ := sev_of hblk
      have HS := Lib.hid hS
      have HK := Lib.hid hblk
      clear hS hblk
      go_wp2
      rename_i K2 hK2
      have HAFTER : ∀ {x46 x47 x48 x49 x50 x51 x52 x53 x54 x55 x56 x57 x58 x59 x60 x61 x62 x63 : Value} (bq : Nat) (okb : Bool) (l2 : List Acc) (t2 : List (BitVec 64)) (M2 : MS) (v2 : Value) (T : World), HvQ (fun k => ((lo ≤ k ∧ k < hi) ∨ (lo2 ≤ k ∧ k < hi2)) ∨ k = B) lo hi L lo2 hi2 L2 B bq l w l' ts M' (pV (.slice sb nb cb) ab fb (.pointer pb)) okb l2 t2 M2 v2 T → K2 { tmps := #[Value.slice a0 l.length cap, Value.int IntKind.u8 st, undef, undef, Value.bool false, Value.pointer (some { block := L.bm, off := 0 }), Value.int IntKind.i64 0, Value.pointer (some { block := L2.bm, off := 0 }), Value.int IntKind.i64 0, Value.pointer (some { block := B, off := 0 }), .int .i64 (k : Int), .pointer (some ⟨bq, 0, none⟩), .bool okb, undef, undef, undef, undef, undef, undef, undef, Value.bool true, Value.bool false, Value.bool false, Value.slice a0 l.length cap, Value.int IntKind.i64 ↑l.length, Value.bool false, Value.bool false, undef, Value.tuple #[Value.pointer (some { block := L.bm, off := 0 }), Value.int IntKind.i64 0], Value.slice (some { block := (over w s).heap.size, off := 0 }) 1 1, Value.tuple #[Value.pointer (some { block := L.bm, off := 0 }), Value.int IntKind.i64 0], Value.pointer (some { block := L.bm, off := 0 }), Value.int IntKind.i64 0, Value.tuple #[Value.pointer (some { block := L2.bm, off := 0 }), Value.int IntKind.i64 0], Value.slice (some { block := X.heap.size, off := 0 }) 1 1, Value.tuple #[Value.pointer (some { block := L2.bm, off := 0 }), Value.int IntKind.i64 0], Value.pointer (some { block := L2.bm, off := 0 }), Value.int IntKind.i64 0, Value.int IntKind.i64 0, Value.bool false, Value.bool false, Value.int IntKind.i64 0, Value.bool false, Value.bool false, Value.slice a0 l.length cap, Value.agg #[Value.slice sa n c, Value.int IntKind.i64 a.op, Value.int IntKind.i64 a.at_, Value.int IntKind.u64 (U a.a), Value.int IntKind.u64 (U a.b), fn, Value.pointer none], x46, x47, x48, x49, x50, x51, x52, x53, x54, x55, x56, x57, x58, x59, x60, x61, x62, x63, undef, undef, undef, undef, undef, undef, undef, undef, undef, undef, undef, undef, undef, undef, undef, undef, undef, undef, undef, undef, undef, undef, undef, undef, undef, undef, undef, undef, undef, undef, undef, undef, undef, undef, undef, undef, undef, undef, undef, undef, undef, undef, undef, undef, undef], defers := [] } T := by
        intro x46 x47 x48 x49 x50 x51 x52 x53 x54 x55 x56 x57 x58 x59 x60 x61 x62 x63 bq okb l2 t2 M2 v2 T hQ
        refine hK2 _ _ ?_
        clear hK2
        obtain ⟨sq, nq, cq, aq, fq, pq, rfl, hfq, hblq⟩ := hQ.boxq.blk
        obtain ⟨sB, nB, cB, aB, fB, pB, eB, hfB, hblB⟩ := hQ.box.blk
        obtain ⟨d0, d1, d2, d3, d4, d5, d6, dz, dl⟩ := sev_of hblq
        obtain ⟨g0, g1, g2, g3, g4, g5, g6, gz, gl⟩ := sev_of hblB
        have hsf := store_fn hfq
        cases okb with
        | false =>
          have HQ : Hid (HvIn (fun k => ((lo ≤ k ∧ k < hi) ∨ (lo2 ≤ k ∧ k < hi2)) ∨ k = B) lo hi L lo2 hi2 L2 B l w l' ts M' (pV (.slice sb nb cb) ab fb (.pointer pb)) T) := by
            rcases hQ.sp with ⟨h, _⟩ | ⟨_, e1, e2, e3, _⟩
            · cases h
            · refine Lib.hid ⟨hQ.po, ?_, hQ.mem2, HS.out.m8, hQ.box, hQ.ext, HS.out.ras, HS.out.len⟩
              have := hQ.mem
              rwa [e3] at this
          clear hQ HS HK
          go_wp2
          exact HREST l' ts M' _ T HQ.out
        | true =>
          have HQ : Hid (HvIn (fun k => ((lo ≤ k ∧ k < hi) ∨ (lo2 ≤ k ∧ k < hi2)) ∨ k = B) lo hi L lo2 hi2 L2 B l w l2 t2 M2 (pV (.slice sq nq cq) aq fq (.pointer pq)) (put7 B (.slice sq nq cq) (.int .i64 aq.op) (.int .i64 aq.at_) (.int .u64 (U aq.a)) (.int .u64 (U aq.b)) fq (.pointer pq) T)) := by
            rcases hQ.sp with ⟨_, a, e1, hd, e3, e4⟩ | ⟨h, _⟩
            · refine Lib.hid ⟨hQ.p.fr (put7_fd _ _ _ _ _ _ _ (.inr rfl)), put7_mem _ _ _ _ _ _ _ hQ.mem hhi, put7_mem _ _ _ _ _ _ _ hQ.mem2 hhi2, ?_, ⟨_, _, _, _, _, _, rfl, hfq, put7_block _ _ _ _ _ _ _ hblB⟩, put7_ext _ _ _ _ _ _ _ hQ.ext hwB, ?_, ?_⟩
              · rw [e3]; exact HS.out.m8.done _ _ _ _ _
              · have h := HS.out.ras
                have hlen := HS.out.len
                rw [e1] at h hlen
                simp only [List.length_cons] at hlen
                rw [e4, e3]
                rw [show 40 - ts.length = (40 - (ts ++ [M'.wd (0 : Int).toNat a.at_.toNat]).length) + 1 by simp; omega] at h
                exact h.step hd
              · have hlen := HS.out.len
                rw [e1] at hlen
                rw [e4]
                simp at hlen ⊢
                omega
            · cases h
          clear hQ HS HK hblq hblB
          go_wp2
          exact ⟨⟨k + 1, _, _, _, _, by omega, by go_num, HQ.out⟩, by simp [intOf]; omega⟩
      clear hK2
      obtain ⟨Y, hY⟩ : ∃ Y, Y = wr := ⟨_, rfl⟩
      refine wp_region_ways (fun x => ∃ s, x = off lo hi wr s) (by kernel_rfl) (off_of (.of_ext (ext_drew (ext_refl wr)))) ?_
      refine ways_reads [0, 1, 2] (by kernel_rfl) ?_
      simp only [pickL, List.map_cons, List.map_nil, List.getD_cons_zero, List.getD_cons_succ]
      repeat (go_big_quiet_step (fail))
      refine wpQuiet_nil ?_
      clear cc0 cc1 cc2 cc3 cc4 cc5 cc6 cz hY Y
      have hBD : ∀ T : World, Ext wr T → ∀ k, (((lo ≤ k ∧ k < hi) ∨ (lo2 ≤ k ∧ k < hi2)) ∨ k = B) → k < T.heap.size := fun T hT k hk => by
        have := hDb k hk
        have := hT.size
        omega
      have hDm' : ∀ bq k, lo ≤ k → k < hi → ((((lo ≤ k ∧ k < hi) ∨ (lo2 ≤ k ∧ k < hi2)) ∨ k = B) ∨ k = bq) := fun bq k h1 h2 => .inl (hDm k h1 h2)
      refine ways_fork 3 (by kernel_rfl) ?_ (ways_act 8 (by kernel_rfl) ?_)
      · simp only [pickL, List.map_cons, List.map_nil, List.getD_cons_zero, List.getD_cons_succ]
        go_wp2_with (go_at_call 12; refine (cap_int HS.out.mem.drew 0 1#64 (by decide) (by rw [HS.out.m8.n]; decide) (Lib.hid HS.out.m8.e)).mono ?_; rintro e w1' ⟨rfl, hx⟩; have HE1 := Lib.hid (ext_trans (ext_drew (ext_refl wr)) hx); clear hx)
        refine mixQ_mk (off_of (.of_ext HE1.out)) (ways_fork 4 (by kernel_rfl) ?_ (ways_act 8 (by kernel_rfl) ?_))
        · simp only [pickL, List.map_cons, List.map_nil, List.getD_cons_zero, List.getD_cons_succ]
          go_wp2_with (go_at_call 24; refine (step_any _ l' ts _ 0 1#64 _ (HS.out.p.ext HE1.out) (HS.out.mem.ext HE1.out) hDm (hBD _ HE1.out)).mono ?_; rintro e w2' ⟨v2, okb, l2, t2, M2, rfl, hp, hm, hf, hsp⟩; obtain ⟨sa2, n2, c2, a2, fn2, p2, rfl, hfn2⟩ := hp.shape; have HP2 := Lib.hid hp; have HM2 := Lib.hid hm; have HF2 := Lib.hid ((Fr.of_ext HE1.out).trans hf); have HSP := Lib.hid hsp; have HFN2 := Lib.hid hfn2; clear hp hm hf hsp hfn2)
          refine mixQ_mk (off_of HF2.out) (ways_reads [5, 6, 7] (by kernel_rfl) ?_)
          simp only [pickL, List.map_cons, List.map_nil, List.getD_cons_zero, List.getD_cons_succ]
          repeat (go_big_quiet_step (fail))
          refine wpQuiet_nil (ways_act 8 (by kernel_rfl) ?_)
          simp only [pickL, List.map_cons, List.map_nil, List.getD_cons_zero, List.getD_cons_succ]
          go_wp2
          refine mixQ_mk (off_of (HF2.out.alloc _)) (ways_act 9 (by kernel_rfl) ?_)
          simp only [pickL, List.map_cons, List.map_nil, List.getD_cons_zero, List.getD_cons_succ]
          have hsf := store_fn HFN2.out
          unfold pV at HP2 ⊢
          go_wp2
          refine mixQ_mk (off_of (HF2.out.alloc _)) (ways_reads [10] (by kernel_rfl) ?_)
          simp only [pickL, List.map_cons, List.map_nil, List.getD_cons_zero, List.getD_cons_succ]
          repeat (go_big_quiet_step (fail))
          refine wpQuiet_nil (ways_end (by kernel_rfl) ?_)
          refine HAFTER w2'.heap.size okb l2 t2 M2 (pV (.slice sa2 n2 c2) a2 fn2 (.pointer p2)) _ ?_
          have hFD := FD.of_fr (D := (fun k => ((lo ≤ k ∧ k < hi) ∨ (lo2 ≤ k ∧ k < hi2)) ∨ k = B)) HF2.out hDm
          exact ⟨(HS.out.p.fr hFD).ext (ext_alloc _ (ext_refl _)), HP2.out.ext (ext_alloc _ (ext_refl _)), HM2.out.alloc _, (HS.out.mem2.fr HF2.out (.inr hap)).alloc _, (HS.out.box.fr HF2.out hhi).ext (ext_alloc _ (ext_refl _)), ⟨_, _, _, _, _, _, rfl, HFN2.out, heap_at _ _ _ rfl⟩, ext_alloc _ (HF2.out.below HS.out.ext hlo), HSP.out⟩
        · simp only [pickL, List.map_cons, List.map_nil, List.getD_cons_zero, List.getD_cons_succ]
          go_wp2
          obtain ⟨V, hV⟩ : ∃ V, V = w1'.alloc (.cells #[.slice none 0 0, .int .i64 0, .int .i64 0, .int .u64 0, .int .u64 0, .nilFunc, .pointer none] 46) := ⟨_, rfl⟩
          obtain ⟨bq, hbq⟩ : ∃ bq, bq = w1'.heap.size := ⟨_, rfl⟩
          rw [← hV, ← hbq]
          have HEV : Hid (Ext wr V) := Lib.hid (by rw [hV]; exact ext_alloc _ HE1.out)
          have HBQ : Hid (V.heap[bq]? = some (.cells #[.slice none 0 0, .int .i64 0, .int .i64 0, .int .u64 0, .int .u64 0, .nilFunc, .pointer none] 46)) := Lib.hid (by rw [hV]; exact heap_at _ _ _ hbq)
          have HBq : Hid (wr.heap.size ≤ bq) := Lib.hid (by rw [hbq]; exact HE1.out.size)
          clear hV hbq HE1
          refine mixQ_mk (off_of (.of_ext HEV.out)) (ways_act 4 (by kernel_rfl) ?_)
          simp only [pickL, List.map_cons, List.map_nil, List.getD_cons_zero, List.getD_cons_succ]
          have lbq := heap_lt HBQ.out
          go_wp2_with (go_at_call 24; refine (step_any (fun k => (((lo ≤ k ∧ k < hi) ∨ (lo2 ≤ k ∧ k < hi2)) ∨ k = B) ∨ k = bq) l' ts _ 0 1#64 _ ((HS.out.p.more fun k hk => ⟨fun h => h.resolve_right (fun e => by have := HBq.out; omega), .inl⟩).ext HEV.out) (HS.out.mem.ext HEV.out) (hDm' bq) (fun k hk => by rcases hk with hk | rfl; exact hBD _ HEV.out k hk; exact lbq)).mono ?_; rintro e w2' ⟨v2, okb, l2, t2, M2, rfl, hp, hm, hf, hsp⟩; obtain ⟨sa2, n2, c2, a2, fn2, p2, rfl, hfn2⟩ := hp.shape; have HP2 := Lib.hid hp; have HM2 := Lib.hid hm; have HF2 := Lib.hid ((Fr.of_ext HEV.out).trans hf); have HBQ2 := Lib.hid ((hf.block bq lbq (.inr (by have := HS.out.mem.top; have := HBq.out; omega))).trans HBQ.out); have HSP := Lib.hid hsp; have HFN2 := Lib.hid hfn2; clear hp hm hf hsp hfn2)
          refine mixQ_mk (off_of HF2.out) (ways_reads [5, 6, 7] (by kernel_rfl) ?_)
          simp only [pickL, List.map_cons, List.map_nil, List.getD_cons_zero, List.getD_cons_succ]
          repeat (go_big_quiet_step (fail))
          refine wpQuiet_nil (ways_act 9 (by kernel_rfl) ?_)
          simp only [pickL, List.map_cons, List.map_nil, List.getD_cons_zero, List.getD_cons_succ]
          have hsf := store_fn HFN2.out
          obtain ⟨d0, d1, d2, d3, d4, d5, d6, dz, dl⟩ := sev_of HBQ2.out
          have HQ : Hid (HvQ (fun k => ((lo ≤ k ∧ k < hi) ∨ (lo2 ≤ k ∧ k < hi2)) ∨ k = B) lo hi L lo2 hi2 L2 B bq l w l' ts M' (pV (.slice sb nb cb) ab fb (.pointer pb)) okb l2 t2 M2 (pV (.slice sa2 n2 c2) a2 fn2 (.pointer p2)) (put7 bq (.slice sa2 n2 c2) (.int .i64 a2.op) (.int .i64 a2.at_) (.int .u64 (U a2.a)) (.int .u64 (U a2.b)) fn2 (.pointer p2) w2')) := by
            have hFD := FD.of_fr (D := (fun k => (((lo ≤ k ∧ k < hi) ∨ (lo2 ≤ k ∧ k < hi2)) ∨ k = B) ∨ k = bq)) HF2.out (hDm' bq)
            have hne : B ≠ bq := by have := HBq.out; omega
            have h1 : hi ≤ bq := by have := HS.out.mem.top; have := HBq.out; omega
            have h2 : hi2 ≤ bq := by have := HS.out.mem2.top; have := HBq.out; omega
            have h3 : w.heap.size ≤ bq := by have := HBq.out; have := HS.out.ext.size; omega
            refine Lib.hid ⟨PH.mono (fun k hk => .inl hk) (((HS.out.p.more (E := (fun k => (((lo ≤ k ∧ k < hi) ∨ (lo2 ≤ k ∧ k < hi2)) ∨ k = B) ∨ k = bq)) fun k hk => ⟨fun h => h.resolve_right (fun e => by have := HBq.out; omega), .inl⟩).fr hFD).fr (put7_fd _ _ _ _ _ _ _ (.inr rfl))), PH.mono (fun k hk => .inl hk) (HP2.out.fr (put7_fd _ _ _ _ _ _ _ (.inr rfl))), put7_mem _ _ _ _ _ _ _ HM2.out h1, put7_mem _ _ _ _ _ _ _ (HS.out.mem2.fr HF2.out (.inr hap)) h2, ?_, ⟨_, _, _, _, _, _, rfl, HFN2.out, put7_block _ _ _ _ _ _ _ HBQ2.out⟩, put7_ext _ _ _ _ _ _ _ (HF2.out.below HS.out.ext hlo) h3, HSP.out⟩
            obtain ⟨s5, n5, c5, a5, f5, p5, e5', h5, hb5⟩ := (HS.out.box.fr HF2.out hhi).blk
            exact ⟨s5, n5, c5, a5, f5, p5, e5', h5, (put7_other _ _ _ _ _ _ _ hne).trans hb5⟩
          have HFZ := Lib.hid (put7_frNew (b := bq) (.slice sa2 n2 c2) (.int .i64 a2.op) (.int .i64 a2.at_) (.int .u64 (U a2.a)) (.int .u64 (U a2.b)) fn2 (.pointer p2) HF2.out HBq.out)
          unfold pV at HP2 ⊢
          go_wp2
          refine mixQ_mk (off_of HFZ.out) (ways_reads [10] (by kernel_rfl) ?_)
          simp only [pickL, List.map_cons, List.map_nil, List.getD_cons_zero, List.getD_cons_succ]
          repeat (go_big_quiet_step (fail))
          refine wpQuiet_nil (ways_end (by kernel_rfl) ?_)
          exact HAFTER bq okb l2 t2 M2 (pV (.slice sa2 n2 c2) a2 fn2 (.pointer p2)) _ HQ.out
      · simp only [pickL, List.map_cons, List.map_nil, List.getD_cons_zero, List.getD_cons_succ]
        go_wp2
        obtain ⟨V0, hV⟩ : ∃ V, V = wr.drew.alloc (.cells #[.slice none 0 0, .int .i64 0, .int .i64 0, .int .u64 0, .int .u64 0, .nilFunc, .pointer none] 46) := ⟨_, rfl⟩
        obtain ⟨bq, hbq⟩ : ∃ bq, bq = wr.heap.size := ⟨_, rfl⟩
        first | rw [← hV, ← hbq] | (rw [show (wr.alloc (.cells #[.slice none 0 0, .int .i64 0, .int .i64 0, .int .u64 0, .int .u64 0, .nilFunc, .pointer none] 46)).drew = wr.drew.alloc (.cells #[.slice none 0 0, .int .i64 0, .int .i64 0, .int .u64 0, .int .u64 0, .nilFunc, .pointer none] 46) from rfl, ← hV, ← hbq])
        have HEV0 : Hid (Ext wr V0) := Lib.hid (by rw [hV]; exact ext_alloc _ (ext_drew (ext_refl wr)))
        have HBQ0 : Hid (V0.heap[bq]? = some (.cells #[.slice none 0 0, .int .i64 0, .int .i64 0, .int .u64 0, .int .u64 0, .nilFunc, .pointer none] 46)) := Lib.hid (by rw [hV]; exact heap_at _ _ _ hbq)
        have HBq : Hid (wr.heap.size ≤ bq) := Lib.hid (by rw [hbq]; exact Nat.le_refl _)
        clear hV hbq
        refine mixQ_mk (off_of (.of_ext HEV0.out)) (ways_act 3 (by kernel_rfl) ?_)
        simp only [pickL, List.map_cons, List.map_nil, List.getD_cons_zero, List.getD_cons_succ]
        go_wp2_with (go_at_call 12; refine (cap_int (HS.out.mem.ext HEV0.out) 0 1#64 (by decide) (by rw [HS.out.m8.n]; decide) (Lib.hid HS.out.m8.e)).mono ?_; rintro e V ⟨rfl, hx⟩; have HEV := Lib.hid (ext_trans HEV0.out hx); have HBQ := Lib.hid ((hx.block bq (heap_lt HBQ0.out)).trans HBQ0.out); clear hx)
        refine mixQ_mk (off_of (.of_ext HEV.out)) (ways_act 4 (by kernel_rfl) ?_)
        simp only [pickL, List.map_cons, List.map_nil, List.getD_cons_zero, List.getD_cons_succ]
        have lbq := heap_lt HBQ.out
        go_wp2_with (go_at_call 24; refine (step_any (fun k => (((lo ≤ k ∧ k < hi) ∨ (lo2 ≤ k ∧ k < hi2)) ∨ k = B) ∨ k = bq) l' ts _ 0 1#64 _ ((HS.out.p.more fun k hk => ⟨fun h => h.resolve_right (fun e => by have := HBq.out; omega), .inl⟩).ext HEV.out) (HS.out.mem.ext HEV.out) (hDm' bq) (fun k hk => by rcases hk with hk | rfl; exact hBD _ HEV.out k hk; exact lbq)).mono ?_; rintro e w2' ⟨v2, okb, l2, t2, M2, rfl, hp, hm, hf, hsp⟩; obtain ⟨sa2, n2, c2, a2, fn2, p2, rfl, hfn2⟩ := hp.shape; have HP2 := Lib.hid hp; have HM2 := Lib.hid hm; have HF2 := Lib.hid ((Fr.of_ext HEV.out).trans hf); have HBQ2 := Lib.hid ((hf.block bq lbq (.inr (by have := HS.out.mem.top; have := HBq.out; omega))).trans HBQ.out); have HSP := Lib.hid hsp; have HFN2 := Lib.hid hfn2; clear hp hm hf hsp hfn2)
        refine mixQ_mk (off_of HF2.out) (ways_reads [5, 6, 7] (by kernel_rfl) ?_)
        simp only [pickL, List.map_cons, List.map_nil, List.getD_cons_zero, List.getD_cons_succ]
        repeat (go_big_quiet_step (fail))
        refine wpQuiet_nil (ways_act 9 (by kernel_rfl) ?_)
        simp only [pickL, List.map_cons, List.map_nil, List.getD_cons_zero, List.getD_cons_succ]
        have hsf := store_fn HFN2.out
        obtain ⟨d0, d1, d2, d3, d4, d5, d6, dz, dl⟩ := sev_of HBQ2.out
        have HQ : Hid (HvQ (fun k => ((lo ≤ k ∧ k < hi) ∨ (lo2 ≤ k ∧ k < hi2)) ∨ k = B) lo hi L lo2 hi2 L2 B bq l w l' ts M' (pV (.slice sb nb cb) ab fb (.pointer pb)) okb l2 t2 M2 (pV (.slice sa2 n2 c2) a2 fn2 (.pointer p2)) (put7 bq (.slice sa2 n2 c2) (.int .i64 a2.op) (.int .i64 a2.at_) (.int .u64 (U a2.a)) (.int .u64 (U a2.b)) fn2 (.pointer p2) w2')) := by
          have hFD := FD.of_fr (D := (fun k => (((lo ≤ k ∧ k < hi) ∨ (lo2 ≤ k ∧ k < hi2)) ∨ k = B) ∨ k = bq)) HF2.out (hDm' bq)
          have hne : B ≠ bq := by have := HBq.out; omega
          have h1 : hi ≤ bq := by have := HS.out.mem.top; have := HBq.out; omega
          have h2 : hi2 ≤ bq := by have := HS.out.mem2.top; have := HBq.out; omega
          have h3 : w.heap.size ≤ bq := by have := HBq.out; have := HS.out.ext.size; omega
          refine Lib.hid ⟨PH.mono (fun k hk => .inl hk) (((HS.out.p.more (E := (fun k => (((lo ≤ k ∧ k < hi) ∨ (lo2 ≤ k ∧ k < hi2)) ∨ k = B) ∨ k = bq)) fun k hk => ⟨fun h => h.resolve_right (fun e => by have := HBq.out; omega), .inl⟩).fr hFD).fr (put7_fd _ _ _ _ _ _ _ (.inr rfl))), PH.mono (fun k hk => .inl hk) (HP2.out.fr (put7_fd _ _ _ _ _ _ _ (.inr rfl))), put7_mem _ _ _ _ _ _ _ HM2.out h1, put7_mem _ _ _ _ _ _ _ (HS.out.mem2.fr HF2.out (.inr hap)) h2, ?_, ⟨_, _, _, _, _, _, rfl, HFN2.out, put7_block _ _ _ _ _ _ _ HBQ2.out⟩, put7_ext _ _ _ _ _ _ _ (HF2.out.below HS.out.ext hlo) h3, HSP.out⟩
          obtain ⟨s5, n5, c5, a5, f5, p5, e5', h5, hb5⟩ := (HS.out.box.fr HF2.out hhi).blk
          exact ⟨s5, n5, c5, a5, f5, p5, e5', h5, (put7_other _ _ _ _ _ _ _ hne).trans hb5⟩
        have HFZ := Lib.hid (put7_frNew (b := bq) (.slice sa2 n2 c2) (.int .i64 a2.op) (.int .i64 a2.at_) (.int .u64 (U a2.a)) (.int .u64 (U a2.b)) fn2 (.pointer p2) HF2.out HBq.out)
        unfold pV at HP2 ⊢
        go_wp2
        refine mixQ_mk (off_of HFZ.out) (ways_reads [10] (by kernel_rfl) ?_)
        simp only [pickL, List.map_cons, List.map_nil, List.getD_cons_zero, List.getD_cons_succ]
        repeat (go_big_quiet_step (fail))
        refine wpQuiet_nil (ways_end (by kernel_rfl) ?_)
        exact HAFTER bq okb l2 t2 M2 (pV (.slice sa2 n2 c2) a2 fn2 (.pointer p2)) _ HQ.out
    · go_wp2
      exact HREST l' ts M' v wr hS


set_option maxHeartbeats 1000000 in
theorem progHalves_great (n : Nat) (a0 : Option Addr) (cap : Nat) (st : Int) (w : World) (h : 30 < n) :
    Calls Try.prog 7 #[.slice a0 n cap, .int .u8 st] w (Ret (.bool true) w) := by
  have q0 : decide (30 < (n : Int)) = true := by simp; omega
  go_enter Try.func7, Try.ntmps7
  go_wp2_with (go_at_call 9; refine (awake_any _).mono ?_; rintro e w' hr'; obtain ⟨rfl, s, rfl⟩ := hr'.over; clear hr')
  go_ret
  exact Ret.mk (by repeat (first | exact ext_refl _ | apply ext_over))

theorem progHalves_any (f : Nat → Acc) (n : Nat) (v : Value) (st : Int) (w : World) (h0 : 0 ≤ st) (h1 : st ≤ 255) (hf : As w v n f) : Calls Try.prog 7 #[v, .int .u8 st] w (Ret (.bool true) w) := by
  have hA := asB_of hf
  obtain ⟨a0, cap, rfl, _⟩ := id hf
  by_cases hl : n ≤ 30
  · have e1 : ((List.range n).map f).length = n := by simp
    have := progHalves_small ((List.range n).map f) a0 cap st (st % 31).toNat w (by omega) h0 h1 (Lib.hid (by omega)) (by omega) (Lib.hid (by rw [e1]; exact hA))
    rwa [e1] at this
  · exact progHalves_great n a0 cap st w (by omega)

end Go.Proofs.Ytmianpfomoghjaa
