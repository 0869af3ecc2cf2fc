/-
  MemOne: the call's ways, walked. Conditions: those of each theorem.
-/
import Derived.Test.YtjogjmlabcfkfaaMemAwake
import Derived.Test.YtjogjmlabcfkfaaMemAcc
namespace Go.Proofs.Ytjogjmlabcfkfaa
open Go Go.RowKit

/-- What the memory is: one region, its first k words told. -/
structure RowM (l : List (BitVec 64)) (p : Nat → Prop) (M : MS) : Prop where
  n : M.n = 1
  s0 : M.sz 0 = l.length
  e0 : M.ep 0 = 1#64
  wd : ∀ j, j < l.length → p j → M.wd 0 j = uN l j
theorem RowM.zero (l : List (BitVec 64)) : RowM l (· < 0) (M0 [(l.length : Int)] 1) := ⟨rfl, by show ((l.length : Int)).toNat = _; omega, rfl, fun j _ h => absurd h (Nat.not_lt_zero _)⟩
theorem RowM.ok {l : List (BitVec 64)} {p : Nat → Prop} {M : MS} (h : RowM l p M) (op at_ : Int) (h0 : 0 ≤ op) (h3 : op ≤ 3) (h1 : 0 ≤ at_) (h2 : at_ < l.length) : DoOk M 0 1#64 op at_ :=
  ⟨⟨by decide, by rw [h.n]; decide, h.e0⟩, h1, by show at_ < (M.sz 0 : Int); rw [h.s0]; exact h2, h0, h3⟩
theorem RowM.no {l : List (BitVec 64)} {p : Nat → Prop} {M : MS} (h : RowM l p M) (op at_ : Int) (hn : ¬ (0 ≤ at_ ∧ at_ < l.length ∧ 0 ≤ op ∧ op ≤ 3)) : ¬ DoOk M 0 1#64 op at_ := fun hd => hn ⟨hd.2.1, by
  have h1 : at_ < (M.sz 0 : Int) := hd.2.2.1
  rw [h.s0] at h1; exact h1, hd.2.2.2.1, hd.2.2.2.2⟩
theorem RowM.store {l : List (BitVec 64)} {M : MS} {k : Nat} (h : RowM l (· < k) M) : RowM l (· < k + 1) (M.done 0 1 (k : Int) (uN l k) 0#64) := by
  refine ⟨h.n, h.s0, h.e0, fun j hj hp => ?_⟩
  show (if 0 = (0 : Int).toNat ∧ j = ((k : Nat) : Int).toNat then nextW 1 (M.wd (0 : Int).toNat ((k : Nat) : Int).toNat) (uN l k) 0#64 else M.wd 0 j) = _
  by_cases e : j = k
  · subst e
    rw [if_pos ⟨rfl, by omega⟩]; rfl
  · rw [if_neg (fun hh => e (by have := hh.2; omega))]
    exact h.wd j hj (by omega)
theorem RowM.done {l : List (BitVec 64)} {M : MS} (h : RowM l (· < l.length) M) (op at_ : Int) (a b : BitVec 64) (h1 : 0 ≤ at_) : RowM l (fun j => (j : Int) ≠ at_) (M.done 0 op at_ a b) := by
  refine ⟨h.n, h.s0, h.e0, fun j hj hp => ?_⟩
  show (if 0 = (0 : Int).toNat ∧ j = at_.toNat then nextW op (M.wd (0 : Int).toNat at_.toNat) a b else M.wd 0 j) = _
  rw [if_neg (fun hh => hp (by have := hh.2; omega))]
  exact h.wd j hj hj
theorem okN (n : Nat) (h : n ≤ 20) : SizesOk [(n : Int)] := ⟨by simp, fun i hi => by
  obtain rfl : i = 0 := by simp at hi; omega
  exact ⟨by show (0 : Int) ≤ (n : Int); omega, by show (n : Int) ≤ 16777216 - 0; omega⟩⟩

/-- The capability, and the access, in their boxes. -/
structure Boxes (cb ab : Nat) (op at_ : Int) (a b : BitVec 64) (w : World) : Prop where
  k0 : w.cell? ⟨cb, 0, none⟩ = some (.int .i64 0)
  k1 : w.cell? ⟨cb, 1, none⟩ = some (.int .u64 (U 1#64))
  a0 : w.cell? ⟨ab, 0, none⟩ = some (.int .i64 op)
  a1 : w.cell? ⟨ab, 1, none⟩ = some (.int .i64 at_)
  a2 : w.cell? ⟨ab, 2, none⟩ = some (.int .u64 (U a))
  a3 : w.cell? ⟨ab, 3, none⟩ = some (.int .u64 (U b))
theorem Boxes.fr {cb ab : Nat} {op at_ : Int} {a b : BitVec 64} {lo hi : Nat} {w w' : World} (h : Boxes cb ab op at_ a b w) (hf : Fr lo hi w w') (hcb : hi ≤ cb) (hab : ab < lo) : Boxes cb ab op at_ a b w' :=
  ⟨by rw [hf.cell (cell_lt h.k0) (.inr hcb)]; exact h.k0, by rw [hf.cell (cell_lt h.k0) (.inr hcb)]; exact h.k1,
   by rw [hf.cell (cell_lt h.a0) (.inl hab)]; exact h.a0, by rw [hf.cell (cell_lt h.a0) (.inl hab)]; exact h.a1, by rw [hf.cell (cell_lt h.a0) (.inl hab)]; exact h.a2, by rw [hf.cell (cell_lt h.a0) (.inl hab)]; exact h.a3⟩
theorem Boxes.ext {cb ab : Nat} {op at_ : Int} {a b : BitVec 64} {w w' : World} (h : Boxes cb ab op at_ a b w) (hb : Ext w w') : Boxes cb ab op at_ a b w' :=
  ⟨ext_cell hb h.k0, ext_cell hb h.k1, ext_cell hb h.a0, ext_cell hb h.a1, ext_cell hb h.a2, ext_cell hb h.a3⟩

/-- The loops. -/
def OneRel1 (l : List (BitVec 64)) (lo hi : Nat) (L : Lay) (cb ab : Nat) (op at_ : Int) (a b : BitVec 64) (w : World) (i : Value) (wr : World) : Prop :=
  ∃ (k : Nat) (M : MS), k ≤ l.length ∧ i = .int .i64 (k : Int) ∧ RowM l (· < k) M ∧ MemIn lo hi L M wr ∧ Boxes cb ab op at_ a b wr ∧ Ext w wr
def OneRel2 (n lo hi : Nat) (L : Lay) (M : MS) (cb ab : Nat) (op at_ : Int) (a b : BitVec 64) (w : World) (i : Value) (wr : World) : Prop :=
  ∃ (k : Nat), k ≤ n ∧ i = .int .i64 (k : Int) ∧ MemIn lo hi L M wr ∧ Boxes cb ab op at_ a b wr ∧ Ext w wr

set_option maxHeartbeats 2000000 in
theorem memOne_yes (l : List (BitVec 64)) (v0 : Option Addr) (cap : Nat) (op at_ : Int) (a b : BitVec 64) (w : World) (hl : l.length ≤ 20) (hU : Hid (Us w (.slice v0 l.length cap) l)) (h0 : 0 ≤ op) (h3 : op ≤ 3) (h1 : 0 ≤ at_) (h2 : at_ < l.length) :
    Calls Try.prog 5 #[.slice v0 l.length cap, .agg #[.int .i64 op, .int .i64 at_, .int .u64 (U a), .int .u64 (U b)]] w (Ret (.bool true) w) := by
  have q0 : decide (20 < (l.length : Int)) = false := by simp; omega
  go_enter Try.func5, Try.ntmps5
  go_wp2_with (first
    | (go_at_call 9; refine (awake_any _).mono ?_; rintro e w' hr'; obtain ⟨rfl, s, rfl⟩ := hr'.over; clear hr')
    | (go_at_call 11; refine (new_law [(l.length : Int)] _ _ (over_below (w.alloc (.cells #[.int .i64 op, .int .i64 at_, .int .u64 (U a), .int .u64 (U b)] 40)) s) rfl rfl (okN _ hl)).mono ?_; rintro e X ⟨lo, hi, L, rfl, hM, hX, hlo⟩; have HM := Lib.hid hM; have HX := Lib.hid hX; have hab : w.heap.size < lo := by (simp at hlo; omega)
       clear hM hX)
    | (go_at_call 20; refine (cap_int HM.out 0 1#64 (by decide) (by show (0 : Int) < 1; decide) (Lib.hid rfl)).mono ?_; rintro e w' hr'; obtain ⟨rfl, s1, rfl⟩ := hr'.over; clear hr'))
  have HX' := Lib.hid (ext_trans (ext_alloc _ (ext_refl w)) HX.out)
  have HB1 : Hid (Boxes (over X s1).heap.size w.heap.size op at_ a b ((over X s1).alloc (.cells #[.int .i64 0, .int .u64 (U 1#64)] 38))) := by
    have hx := ext_alloc (.cells #[.int .i64 0, .int .u64 (U 1#64)] 38) (ext_over s1 HX.out)
    exact Lib.hid ⟨by simp [go_sem], by simp [go_sem], ext_cell hx (by simp [go_sem]), ext_cell hx (by simp [go_sem]), ext_cell hx (by simp [go_sem]), ext_cell hx (by simp [go_sem])⟩
  have HM1 := Lib.hid ((HM.out.over s1).alloc (.cells #[.int .i64 0, .int .u64 (U 1#64)] 38))
  have HX1 := Lib.hid (ext_alloc (.cells #[.int .i64 0, .int .u64 (U 1#64)] 38) (ext_over s1 HX'.out))
  have hcb : hi ≤ (over X s1).heap.size := Nat.le_trans HM.out.top (over_size X s1)
  have hlo' : w.heap.size ≤ lo := by omega
  clear HM HX HX'
  generalize (over X s1).alloc _ = Y at HB1 HM1 HX1 ⊢
  generalize (over X s1).heap.size = cb at HB1 hcb ⊢
  go_loopw [8] (fun i wr => OneRel1 l lo hi L cb w.heap.size op at_ a b w i wr) (fun i _ => (l.length - intOf i).toNat)
  case atStart => exact ⟨0, _, Nat.zero_le _, rfl, RowM.zero l, HM1.out, HB1.out, HX1.out⟩
  case round =>
    clear HM1 HB1 HX1
    obtain ⟨k, M, hk, rfl, hA, hM, hB, hx⟩ := hrel
    have HA := Lib.hid hA
    have HM := Lib.hid hM
    have HB := Lib.hid hB
    have HX := Lib.hid hx
    clear hA hM hB hx
    by_cases hlt : k < l.length
    · obtain ⟨bu, o, rfl, hb, hcells⟩ := hU.out.at (by omega)
      have c0 := ext_cell HX.out (hcells k hlt)
      have hbl : bu < lo := Nat.lt_of_lt_of_le hb hlo'
      have hbw : bu < wr.heap.size := Nat.lt_of_lt_of_le hb HX.out.size
      obtain ⟨k0, k1, _, _, _, _⟩ := HB.out
      have hcw := cell_lt k0
      clear hcells
      go_wp2
      refine wp_region_mix (fun w' => ∃ s, w' = off lo hi wr s) [(0, [0, 1, 2, 3, 4, 5, 6, 7]), (1, [8])] (by kernel_rfl) (by kernel_rfl) (off_of (Fr.refl _ _ wr).drew) ?_
      simp only [pieces, pickL, List.map_cons, List.map_nil, List.getD_cons_zero, List.getD_cons_succ]
      refine mix_reads ?_
      repeat (go_big_quiet_step (fail))
      refine wpQuiet_nil (mix_acts ?_)
      go_wp2_with (go_at_call 17; refine (do_int HM.out.drew 0 1 (k : Int) _ _ 0 _ 1#64 (uN l k) 0#64 _ rfl rfl U_0.symm (HA.out.ok 1 (k : Int) (by decide) (by decide) (by omega) (by omega)) (Lib.hid rfl) (Lib.hid rfl)).mono ?_; rintro e Z ⟨rfl, hM, hF⟩; have HM2 := Lib.hid hM; have HF2 := Lib.hid ((Fr.refl _ _ wr).drew.trans hF); clear hM hF)
      refine mixQ_mk (off_of HF2.out) (mix_end ?_)
      have HZ := Lib.hid (Fr.below HF2.out HX.out hlo')
      have HB2 := Lib.hid (HB.out.fr HF2.out hcb hab)
      go_wp2
      exact ⟨⟨k + 1, _, by omega, by go_num, HA.out.store, HM2.out, HB2.out, HZ.out⟩, by simp [intOf]; omega⟩
    · obtain rfl : k = l.length := by omega
      obtain ⟨k0, k1, a0, a1, a2, a3⟩ := HB.out
      go_wp2_with (go_at_call 17; refine (do_int HM.out 0 op at_ _ _ _ (U (uN l at_.toNat)) 1#64 a b _ rfl rfl rfl (HA.out.ok op at_ h0 h3 h1 h2) (Lib.hid (by rw [show (0 : Int).toNat = 0 from rfl, HA.out.wd _ (by omega) (by omega)])) (Lib.hid rfl)).mono ?_; rintro e Z ⟨rfl, hM, hF⟩; have HM2 := Lib.hid hM; have HZ := Lib.hid (Fr.below hF HX.out hlo'); have HB2 := Lib.hid (HB.out.fr hF hcb hab); have HR := Lib.hid (HA.out.done op at_ a b h1); clear hM hF)
      go_loopw [11] (fun i wr => OneRel2 l.length lo hi L (M.done 0 op at_ a b) cb w.heap.size op at_ a b w i wr) (fun i _ => (l.length - intOf i).toNat)
      case atStart => exact ⟨0, Nat.zero_le _, rfl, HM2.out, HB2.out, HZ.out⟩
      case round =>
        clear HM HB HX k0 k1 a0 a1 a2 a3
        obtain ⟨k, hk, rfl, hM, hB, hx⟩ := hrel
        have HM := Lib.hid hM
        have HB := Lib.hid hB
        have HX := Lib.hid hx
        obtain ⟨_, _, a0, a1, a2, a3⟩ := hB
        clear hM hx
        by_cases hlt : k < l.length
        · obtain ⟨bu, o, rfl, hb, hcells⟩ := hU.out.at (by omega)
          have c0 := ext_cell HX.out (hcells k hlt)
          have hbw : bu < wr.heap.size := Nat.lt_of_lt_of_le hb HX.out.size
          clear hcells
          by_cases hka : (k : Int) = at_
          · have q1 : (U (uN l at_.toNat) != U (uN l k)) = false := by rw [← hka, show ((k : Nat) : Int).toNat = k by omega]; simp
            have q2 : ((k : Int) == at_) = true := by simpa using hka
            clear hka
            go_wp2
            exact ⟨⟨k + 1, by omega, by go_num, HM.out, HB.out, HX.out⟩, by simp [intOf]; omega⟩
          · have q2 : ((k : Int) == at_) = false := by simpa using hka
            have HP := Lib.hid (Lib.hid (by rw [show (0 : Int).toNat = 0 from rfl, show ((k : Nat) : Int).toNat = k by omega, HR.out.wd k hlt hka]) : Hid (U ((M.done 0 op at_ a b).wd (0 : Int).toNat ((k : Nat) : Int).toNat) = U (uN l k)))
            clear hka
            go_wp2
            refine wp_region_over (by kernel_rfl) (by kernel_rfl) ?_
            repeat (go_big_quiet_step ((go_at_call 21; exact over_call (peek_int (HM.out.over _) 0 (k : Int) (U (uN l k)) (by decide) (by rw [HR.out.n]; decide) (by omega) (by show (k : Int) < ((M.done 0 op at_ a b).sz 0 : Int); rw [HR.out.s0]; omega) HP.out))))
            refine wpQuiet_nil ?_
            intro _ hw'
            obtain ⟨s2, hw''⟩ := hw'
            subst hw''
            go_wp2
            exact ⟨⟨k + 1, by omega, by go_num, HM.out.over s2, HB.out.ext (over_below _ s2), ext_over s2 HX.out⟩, by simp [intOf]; omega⟩

        · have q1 : decide (0 ≤ at_) = true := by simpa using h1
          have q2 : decide (at_ < (l.length : Int)) = true := by simpa using h2
          have q3 : decide (0 ≤ op) = true := by simpa using h0
          have q4 : decide (op ≤ 3) = true := by simpa using h3
          go_wp2
          go_ret
          exact Ret.mk HX.out

set_option maxHeartbeats 2000000 in
theorem memOne_no (l : List (BitVec 64)) (v0 : Option Addr) (cap : Nat) (op at_ : Int) (a b : BitVec 64) (w : World) (hl : l.length ≤ 20) (hU : Hid (Us w (.slice v0 l.length cap) l)) (hn : Hid (¬ (0 ≤ at_ ∧ at_ < l.length ∧ 0 ≤ op ∧ op ≤ 3))) :
    Calls Try.prog 5 #[.slice v0 l.length cap, .agg #[.int .i64 op, .int .i64 at_, .int .u64 (U a), .int .u64 (U b)]] w (Ret (.bool true) w) := by
  have q0 : decide (20 < (l.length : Int)) = false := by simp; omega
  go_enter Try.func5, Try.ntmps5
  go_wp2_with (first
    | (go_at_call 9; refine (awake_any _).mono ?_; rintro e w' hr'; obtain ⟨rfl, s, rfl⟩ := hr'.over; clear hr')
    | (go_at_call 11; refine (new_law [(l.length : Int)] _ _ (over_below (w.alloc (.cells #[.int .i64 op, .int .i64 at_, .int .u64 (U a), .int .u64 (U b)] 40)) s) rfl rfl (okN _ hl)).mono ?_; rintro e X ⟨lo, hi, L, rfl, hM, hX, hlo⟩; have HM := Lib.hid hM; have HX := Lib.hid hX; have hab : w.heap.size < lo := by (simp at hlo; omega)
       clear hM hX)
    | (go_at_call 20; refine (cap_int HM.out 0 1#64 (by decide) (by show (0 : Int) < 1; decide) (Lib.hid rfl)).mono ?_; rintro e w' hr'; obtain ⟨rfl, s1, rfl⟩ := hr'.over; clear hr'))
  have HX' := Lib.hid (ext_trans (ext_alloc _ (ext_refl w)) HX.out)
  have HB1 : Hid (Boxes (over X s1).heap.size w.heap.size op at_ a b ((over X s1).alloc (.cells #[.int .i64 0, .int .u64 (U 1#64)] 38))) := by
    have hx := ext_alloc (.cells #[.int .i64 0, .int .u64 (U 1#64)] 38) (ext_over s1 HX.out)
    exact Lib.hid ⟨by simp [go_sem], by simp [go_sem], ext_cell hx (by simp [go_sem]), ext_cell hx (by simp [go_sem]), ext_cell hx (by simp [go_sem]), ext_cell hx (by simp [go_sem])⟩
  have HM1 := Lib.hid ((HM.out.over s1).alloc (.cells #[.int .i64 0, .int .u64 (U 1#64)] 38))
  have HX1 := Lib.hid (ext_alloc (.cells #[.int .i64 0, .int .u64 (U 1#64)] 38) (ext_over s1 HX'.out))
  have hcb : hi ≤ (over X s1).heap.size := Nat.le_trans HM.out.top (over_size X s1)
  have hlo' : w.heap.size ≤ lo := by omega
  clear HM HX HX'
  generalize (over X s1).alloc _ = Y at HB1 HM1 HX1 ⊢
  generalize (over X s1).heap.size = cb at HB1 hcb ⊢
  go_loopw [8] (fun i wr => OneRel1 l lo hi L cb w.heap.size op at_ a b w i wr) (fun i _ => (l.length - intOf i).toNat)
  case atStart => exact ⟨0, _, Nat.zero_le _, rfl, RowM.zero l, HM1.out, HB1.out, HX1.out⟩
  case round =>
    clear HM1 HB1 HX1
    obtain ⟨k, M, hk, rfl, hA, hM, hB, hx⟩ := hrel
    have HA := Lib.hid hA
    have HM := Lib.hid hM
    have HB := Lib.hid hB
    have HX := Lib.hid hx
    clear hA hM hB hx
    by_cases hlt : k < l.length
    · obtain ⟨bu, o, rfl, hb, hcells⟩ := hU.out.at (by omega)
      have c0 := ext_cell HX.out (hcells k hlt)
      have hbl : bu < lo := Nat.lt_of_lt_of_le hb hlo'
      have hbw : bu < wr.heap.size := Nat.lt_of_lt_of_le hb HX.out.size
      obtain ⟨k0, k1, _, _, _, _⟩ := HB.out
      have hcw := cell_lt k0
      clear hcells
      go_wp2
      refine wp_region_mix (fun w' => ∃ s, w' = off lo hi wr s) [(0, [0, 1, 2, 3, 4, 5, 6, 7]), (1, [8])] (by kernel_rfl) (by kernel_rfl) (off_of (Fr.refl _ _ wr).drew) ?_
      simp only [pieces, pickL, List.map_cons, List.map_nil, List.getD_cons_zero, List.getD_cons_succ]
      refine mix_reads ?_
      repeat (go_big_quiet_step (fail))
      refine wpQuiet_nil (mix_acts ?_)
      go_wp2_with (go_at_call 17; refine (do_int HM.out.drew 0 1 (k : Int) _ _ 0 _ 1#64 (uN l k) 0#64 _ rfl rfl U_0.symm (HA.out.ok 1 (k : Int) (by decide) (by decide) (by omega) (by omega)) (Lib.hid rfl) (Lib.hid rfl)).mono ?_; rintro e Z ⟨rfl, hM, hF⟩; have HM2 := Lib.hid hM; have HF2 := Lib.hid ((Fr.refl _ _ wr).drew.trans hF); clear hM hF)
      refine mixQ_mk (off_of HF2.out) (mix_end ?_)
      have HZ := Lib.hid (Fr.below HF2.out HX.out hlo')
      have HB2 := Lib.hid (HB.out.fr HF2.out hcb hab)
      go_wp2
      exact ⟨⟨k + 1, _, by omega, by go_num, HA.out.store, HM2.out, HB2.out, HZ.out⟩, by simp [intOf]; omega⟩
    · obtain rfl : k = l.length := by omega
      obtain ⟨k0, k1, a0, a1, a2, a3⟩ := HB.out
      go_wp2_with (go_at_call 17; refine (dont_int HM.out 0 op at_ _ _ _ 1#64 a b rfl rfl rfl (HA.out.no op at_ hn.out)).mono ?_; rintro e Z ⟨rfl, hF⟩; have HM2 := Lib.hid (HM.out.ext hF); have HZ := Lib.hid (ext_trans HX.out hF); have HB2 := Lib.hid (HB.out.ext hF); have HR := Lib.hid HA.out; clear hF)
      go_loopw [11] (fun i wr => OneRel2 l.length lo hi L M cb w.heap.size op at_ a b w i wr) (fun i _ => (l.length - intOf i).toNat)
      case atStart => exact ⟨0, Nat.zero_le _, rfl, HM2.out, HB2.out, HZ.out⟩
      case round =>
        clear HM HB HX k0 k1 a0 a1 a2 a3
        obtain ⟨k, hk, rfl, hM, hB, hx⟩ := hrel
        have HM := Lib.hid hM
        have HB := Lib.hid hB
        have HX := Lib.hid hx
        obtain ⟨_, _, a0, a1, a2, a3⟩ := hB
        clear hM hx
        by_cases hlt : k < l.length
        · obtain ⟨bu, o, rfl, hb, hcells⟩ := hU.out.at (by omega)
          have c0 := ext_cell HX.out (hcells k hlt)
          have hbw : bu < wr.heap.size := Nat.lt_of_lt_of_le hb HX.out.size
          clear hcells
          by_cases hka : (k : Int) = at_
          · have q2 : ((k : Int) == at_) = true := by simpa using hka
            have HP := Lib.hid (Lib.hid (by rw [show (0 : Int).toNat = 0 from rfl, show ((k : Nat) : Int).toNat = k by omega, HR.out.wd k hlt hlt]) : Hid (U (M.wd (0 : Int).toNat ((k : Nat) : Int).toNat) = U (uN l k)))
            clear hka
            go_wp2
            refine wp_region_over (by kernel_rfl) (by kernel_rfl) ?_
            repeat (go_big_quiet_step ((go_at_call 21; exact over_call (peek_int (HM.out.over _) 0 (k : Int) (U (uN l k)) (by decide) (by rw [HR.out.n]; decide) (by omega) (by show (k : Int) < (M.sz 0 : Int); rw [HR.out.s0]; omega) HP.out))))
            refine wpQuiet_nil ?_
            intro _ hw'
            obtain ⟨s2, hw''⟩ := hw'
            subst hw''
            go_wp2
            exact ⟨⟨k + 1, by omega, by go_num, HM.out.over s2, HB.out.ext (over_below _ s2), ext_over s2 HX.out⟩, by simp [intOf]; omega⟩
          · have q2 : ((k : Int) == at_) = false := by simpa using hka
            have HP := Lib.hid (Lib.hid (by rw [show (0 : Int).toNat = 0 from rfl, show ((k : Nat) : Int).toNat = k by omega, HR.out.wd k hlt hlt]) : Hid (U (M.wd (0 : Int).toNat ((k : Nat) : Int).toNat) = U (uN l k)))
            clear hka
            go_wp2
            refine wp_region_over (by kernel_rfl) (by kernel_rfl) ?_
            repeat (go_big_quiet_step ((go_at_call 21; exact over_call (peek_int (HM.out.over _) 0 (k : Int) (U (uN l k)) (by decide) (by rw [HR.out.n]; decide) (by omega) (by show (k : Int) < (M.sz 0 : Int); rw [HR.out.s0]; omega) HP.out))))
            refine wpQuiet_nil ?_
            intro _ hw'
            obtain ⟨s2, hw''⟩ := hw'
            subst hw''
            go_wp2
            exact ⟨⟨k + 1, by omega, by go_num, HM.out.over s2, HB.out.ext (over_below _ s2), ext_over s2 HX.out⟩, by simp [intOf]; omega⟩

        · by_cases g1 : 0 ≤ at_
          · by_cases g2 : at_ < l.length
            · by_cases g3 : 0 ≤ op
              · have g4 : ¬ op ≤ 3 := fun g4 => hn.out ⟨g1, g2, g3, g4⟩
                have q1 : decide (0 ≤ at_) = true := by simpa using g1
                have q2 : decide (at_ < (l.length : Int)) = true := by simpa using g2
                have q3 : decide (0 ≤ op) = true := by simpa using g3
                have q4 : decide (op ≤ 3) = false := by simpa using g4
                go_wp2
                go_ret
                exact Ret.mk HX.out
              · have q1 : decide (0 ≤ at_) = true := by simpa using g1
                have q2 : decide (at_ < (l.length : Int)) = true := by simpa using g2
                have q3 : decide (0 ≤ op) = false := by simpa using g3
                go_wp2
                go_ret
                exact Ret.mk HX.out
            · have q1 : decide (0 ≤ at_) = true := by simpa using g1
              have q2 : decide (at_ < (l.length : Int)) = false := by simpa using g2
              go_wp2
              go_ret
              exact Ret.mk HX.out
          · have q1 : decide (0 ≤ at_) = false := by simpa using g1
            go_wp2
            go_ret
            exact Ret.mk HX.out

set_option maxHeartbeats 400000 in
theorem memOne_great (n : Nat) (a0 : Option Addr) (cap : Nat) (x : Array Value) (w : World) (h : 20 < n) :
    Calls Try.prog 5 #[.slice a0 n cap, .agg x] w (Ret (.bool true) w) := by
  go_enter Try.func5, Try.ntmps5
  go_wp2_with (go_at_call 9; refine (awake_any _).mono ?_; rintro e w' hr'; obtain ⟨rfl, s, rfl⟩ := hr'.over; clear hr')
  go_ret
  exact Ret.mk (by repeat (first | exact ext_refl _ | apply ext_over | apply ext_alloc))

theorem memOne_any (l : List (BitVec 64)) (v : Value) (op at_ : Int) (a b : BitVec 64) (w : World) (hU : Us w v l) :
    Calls Try.prog 5 #[v, .agg #[.int .i64 op, .int .i64 at_, .int .u64 (U a), .int .u64 (U b)]] w (Ret (.bool true) w) := by
  have hU' := hU
  obtain ⟨a0, cap, rfl, _⟩ := hU'
  by_cases h : l.length ≤ 20
  · by_cases hd : 0 ≤ at_ ∧ at_ < l.length ∧ 0 ≤ op ∧ op ≤ 3
    · exact memOne_yes l a0 cap op at_ a b w h (Lib.hid hU) hd.2.2.1 hd.2.2.2 hd.1 hd.2.1
    · exact memOne_no l a0 cap op at_ a b w h (Lib.hid hU) (Lib.hid hd)
  · exact memOne_great l.length a0 cap _ w (by omega)
end Go.Proofs.Ytjogjmlabcfkfaa
