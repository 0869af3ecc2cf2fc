/-
  MemRegions: the call's ways, walked. Conditions: those of each theorem.
-/
import Derived.Test.YtjogjmlabcfkfaaMemAwake
import Derived.Test.YtjogjmlabcfkfaaMemAcc
namespace Go.Proofs.Ytjogjmlabcfkfaa
open Go Go.RowKit

/-- What Do may come to, whatever the access. -/
def DoSpec (M : MS) (r : Int) (e : BitVec 64) (c : Acc) (M' : MS) (v : BitVec 64) (ok : Bool) : Prop :=
  (DoOk M r e c.op c.at_ ∧ M' = M.done r c.op c.at_ c.a c.b ∧ v = M.wd r.toNat c.at_.toNat ∧ ok = true) ∨ (¬ DoOk M r e c.op c.at_ ∧ M' = M ∧ v = 0#64 ∧ ok = false)
def RetDo (lo hi : Nat) (L : Lay) (M : MS) (r : Int) (e : BitVec 64) (c : Acc) (w : World) (en : Ending) (w' : World) : Prop :=
  ∃ M' v ok, en = .returned (.tuple #[.int .u64 (U v), .bool ok]) ∧ DoSpec M r e c M' v ok ∧ MemIn lo hi L M' w' ∧ Fr lo hi w w'
theorem do_any {lo hi : Nat} {L : Lay} {M : MS} {w : World} (h : MemIn lo hi L M w) (r : Int) (e : BitVec 64) (c : Acc) :
    Calls Try.prog 17 #[.pointer (some ⟨L.bm, 0, none⟩), .agg #[.int .i64 r, .int .u64 (U e)], .agg #[.int .i64 c.op, .int .i64 c.at_, .int .u64 (U c.a), .int .u64 (U c.b)]] w (RetDo lo hi L M r e c w) := by
  by_cases hd : DoOk M r e c.op c.at_
  · exact (do_yes h r c.op c.at_ e c.a c.b hd).mono fun en w' ⟨h1, h2, h3⟩ => ⟨_, _, true, h1, .inl ⟨hd, rfl, rfl, rfl⟩, h2, h3⟩
  · refine (do_no h r c.op c.at_ e c.a c.b hd).mono fun en w' ⟨h1, h2⟩ => ⟨M, 0#64, false, ?_, .inr ⟨hd, rfl, rfl, rfl⟩, h.ext h2, .of_ext h2⟩
    rw [U_0]; exact h1

/-- What the memory is: five regions of 6 words; p i j: the word is told. -/
structure RegM (p : Nat → Nat → Prop) (x : Nat → Nat → BitVec 64) (M : MS) : Prop where
  n : M.n = 5
  sz : ∀ i, i < 5 → M.sz i = 6
  ep : ∀ i, i < 5 → M.ep i = 1#64
  wd : ∀ i j, i < 5 → p i j → M.wd i j = x i j
def seven (c i j : Nat) : BitVec 64 := if j = i ∧ i < c then 7#64 else 0#64
theorem iN6 (i : Nat) (h : i < 5) : iN [6, 6, 6, 6, 6] i = 6 := by
  rcases (show i = 0 ∨ i = 1 ∨ i = 2 ∨ i = 3 ∨ i = 4 by omega) with rfl | rfl | rfl | rfl | rfl <;> rfl
theorem ok6 : SizesOk [6, 6, 6, 6, 6] := ⟨by decide, fun i hi => by
  have : i = 0 ∨ i = 1 ∨ i = 2 ∨ i = 3 ∨ i = 4 := by simp at hi; omega
  rcases this with rfl | rfl | rfl | rfl | rfl <;> decide⟩
theorem RegM.zero : RegM (fun _ _ => True) (seven 0) (M0 [6, 6, 6, 6, 6] 5) :=
  ⟨rfl, fun i hi => by show (iN [6, 6, 6, 6, 6] i).toNat = 6; rw [iN6 i hi]; rfl, fun _ _ => rfl, fun i j _ _ => by unfold seven; rw [if_neg (by omega)]; rfl⟩
theorem RegM.ok {p : Nat → Nat → Prop} {x : Nat → Nat → BitVec 64} {M : MS} (h : RegM p x M) (c : Nat) (hc : c < 5) : DoOk M (c : Int) 1#64 1 (c : Int) :=
  ⟨⟨by omega, by rw [h.n]; omega, by rw [show ((c : Nat) : Int).toNat = c by omega]; exact h.ep c hc⟩, by omega, by rw [show ((c : Nat) : Int).toNat = c by omega, h.sz c hc]; omega, by decide, by decide⟩
theorem RegM.put {M : MS} {c : Nat} (h : RegM (fun _ _ => True) (seven c) M) : RegM (fun _ _ => True) (seven (c + 1)) (M.done (c : Int) 1 (c : Int) 7#64 0#64) := by
  refine ⟨h.n, h.sz, h.ep, fun i j hi _ => ?_⟩
  show (if i = ((c : Nat) : Int).toNat ∧ j = ((c : Nat) : Int).toNat then nextW 1 (M.wd _ _) 7#64 0#64 else M.wd i j) = _
  rw [show ((c : Nat) : Int).toNat = c by omega]
  unfold seven
  by_cases e : i = c ∧ j = c
  · rw [if_pos e, if_pos (by omega)]; rfl
  · rw [if_neg e, h.wd i j hi trivial]
    unfold seven
    exact ite_of_iff (by omega) _ _
theorem RegM.access {M M' : MS} {k : Nat} {x : Nat → Nat → BitVec 64} {c : Acc} {v : BitVec 64} {ok : Bool} (h : RegM (fun i _ => i ≠ k) x M) (hd : DoSpec M (k : Int) 1#64 c M' v ok) : RegM (fun i _ => i ≠ k) x M' := by
  rcases hd with ⟨_, rfl, _, _⟩ | ⟨_, rfl, _, _⟩
  · refine ⟨h.n, h.sz, h.ep, fun i j hi hp => ?_⟩
    show (if i = ((k : Nat) : Int).toNat ∧ j = c.at_.toNat then _ else M.wd i j) = _
    rw [if_neg (fun hh => hp (by have := hh.1; omega))]
    exact h.wd i j hi hp
  · exact h
/-- Behind the bump. -/
structure EndM (k : Nat) (M : MS) : Prop where
  n : M.n = 5
  sz : ∀ i, i < 5 → M.sz i = 6
  ep : ∀ i, i < 5 → i ≠ k → M.ep i = 1#64
  ek : M.ep k = 2#64
  wd : ∀ i j, i < 5 → i ≠ k → M.wd i j = seven 5 i j
theorem RegM.bump {M : MS} {k : Nat} (hk : k < 5) (h : RegM (fun i _ => i ≠ k) (seven 5) M) : EndM k (M.bump k) := by
  refine ⟨h.n, h.sz, fun i hi hne => ?_, ?_, fun i j hi hne => h.wd i j hi hne⟩
  · show (if i = k then M.ep k + 1#64 else M.ep i) = _
    rw [if_neg hne]; exact h.ep i hi
  · show (if k = k then M.ep k + 1#64 else M.ep k) = _
    rw [if_pos rfl, h.ep k hk]; rfl

def RegRel1 (lo hi : Nat) (L : Lay) (w : World) (i : Value) (wr : World) : Prop :=
  ∃ (c : Nat) (M : MS), c ≤ 5 ∧ i = .int .i64 (c : Int) ∧ RegM (fun _ _ => True) (seven c) M ∧ MemIn lo hi L M wr ∧ Ext w wr
def RegRel2 (k n lo hi : Nat) (L : Lay) (w : World) (i : Value) (wr : World) : Prop :=
  ∃ (c : Nat) (M : MS), c ≤ n ∧ i = .int .i64 (c : Int) ∧ RegM (fun i _ => i ≠ k) (seven 5) M ∧ MemIn lo hi L M wr ∧ Ext w wr
/-- The capability in its box. -/
def CapAt' (cb : Nat) (q : Nat) (w : World) : Prop := w.cell? ⟨cb, 0, none⟩ = some (.int .i64 (q : Int)) ∧ w.cell? ⟨cb, 1, none⟩ = some (.int .u64 (U 1#64))
theorem CapAt'.fr {cb q lo hi : Nat} {w w' : World} (h : CapAt' cb q w) (hf : Fr lo hi w w') (hcb : hi ≤ cb) : CapAt' cb q w' :=
  ⟨by rw [hf.cell (cell_lt h.1) (.inr hcb)]; exact h.1, by rw [hf.cell (cell_lt h.1) (.inr hcb)]; exact h.2⟩
theorem CapAt'.ext {cb q : Nat} {w w' : World} (h : CapAt' cb q w) (hb : Ext w w') : CapAt' cb q w' := ⟨ext_cell hb h.1, ext_cell hb h.2⟩
def RegRel3 (n lo hi : Nat) (L : Lay) (M : MS) (cb q : Nat) (w : World) (i : Value) (wr : World) : Prop :=
  ∃ (c : Nat), c ≤ n ∧ i = .int .i64 (c : Int) ∧ MemIn lo hi L M wr ∧ CapAt' cb q wr ∧ Ext w wr

set_option maxHeartbeats 2000000 in
theorem memRegions_small (f : Nat → Acc) (n : Nat) (a0 : Option Addr) (cap : Nat) (rg : Int) (k q : Nat) (w : World) (hl : n ≤ 40) (hm0 : 0 ≤ rg) (hm1 : rg ≤ 255) (ht : Hid (rg % 5 = (k : Int))) (hk5 : k < 5) (hq : Hid (((k : Int) + 1) % 5 = (q : Int))) (hq5 : q < 5) (hqk : q ≠ k)
    (hU : Hid (As w (.slice a0 n cap) n f)) :
    Calls Try.prog 7 #[.slice a0 n cap, .int .u8 rg] w (Ret (.bool true) w) := by
  have q0 : decide (40 < (n : Int)) = false := by simp; omega
  have e5 := ht.out
  go_enter Try.func7, Try.ntmps7
  go_wp2_with (first
    | (go_at_call 9; refine (awake_any _).mono ?_; rintro e w' hr'; obtain ⟨rfl, s, rfl⟩ := hr'.over; clear hr')
    | (go_at_call 11; refine (new_law [6, 6, 6, 6, 6] _ _ (over_below w s) rfl rfl ok6).mono ?_; rintro e X ⟨lo, hi, L, rfl, hM, hX, hlo⟩; have HM := Lib.hid hM; have HX := Lib.hid hX; clear hM hX))
  clear e5
  go_loopw [8] (fun i wr => RegRel1 lo hi L w i wr) (fun i _ => (5 - intOf i).toNat)
  case atStart => exact ⟨0, _, Nat.zero_le _, rfl, RegM.zero, HM.out, HX.out⟩
  case round =>
    clear HM HX
    obtain ⟨c, M, hc, rfl, hA, hM, hx⟩ := hrel
    have HA := Lib.hid hA
    have HM := Lib.hid hM
    have HX := Lib.hid hx
    clear hA hM hx
    by_cases hlt : c < 5
    · go_wp2_with (first
        | (go_at_call 20; refine (cap_int HM.out (c : Int) 1#64 (by omega) (by rw [HA.out.n]; omega) (Lib.hid (by rw [show ((c : Nat) : Int).toNat = c by omega]; exact HA.out.ep c hlt))).mono ?_; rintro e w' hr'; obtain ⟨rfl, s1, rfl⟩ := hr'.over; clear hr')
        | (go_at_call 17; refine (do_int (HM.out.over s1) (c : Int) 1 (c : Int) _ 7 0 _ 1#64 7#64 0#64 _ rfl U_7.symm U_0.symm (HA.out.ok c hlt) (Lib.hid rfl) (Lib.hid rfl)).mono ?_; rintro e Z ⟨rfl, hM, hF⟩; have HM2 := Lib.hid hM; have HZ := Lib.hid (Fr.below hF (ext_over s1 HX.out) hlo); clear hM hF))
      exact ⟨⟨c + 1, _, by omega, by go_num, HA.out.put, HM2.out, HZ.out⟩, by simp [intOf]; omega⟩
    · have hc5 : Hid (c = 5) := Lib.hid (by omega)
      have h5' : decide ((c : Int) < 5) = false := by simp; omega
      go_wp2
      go_loopw [9] (fun i wr => RegRel2 k n lo hi L w i wr) (fun i _ => (n - intOf i).toNat)
      case atStart => exact ⟨0, M, Nat.zero_le _, rfl, ⟨HA.out.n, HA.out.sz, HA.out.ep, fun i j hi _ => by rw [HA.out.wd i j hi trivial, hc5.out]⟩, HM.out, HX.out⟩
      case round =>
        clear HM HX HA
        obtain ⟨c, M, hc, rfl, hA, hM, hx⟩ := hrel
        have HA := Lib.hid hA
        have HM := Lib.hid hM
        have HX := Lib.hid hx
        clear hA hM hx
        by_cases hlt : c < n
        · obtain ⟨b, o, rfl, hb, hcells⟩ := hU.out.at (by omega)
          obtain ⟨c0, c1, c2, c3⟩ := hcells c hlt
          have hbl : b < lo := Nat.lt_of_lt_of_le hb hlo
          have hbw : b < wr.heap.size := Nat.lt_of_lt_of_le hb HX.out.size
          have d0 := ext_cell HX.out c0
          have d1 := ext_cell HX.out c1
          have d2 := ext_cell HX.out c2
          have d3 := ext_cell HX.out c3
          clear hcells c0 c1 c2 c3
          go_wp2
          refine wp_region_mix (fun w' => ∃ s, w' = off lo hi wr s) [(0, [0, 1, 2, 4, 5, 6, 7]), (1, [3]), (1, [8])] (by kernel_rfl) (by kernel_rfl) (off_of (Fr.refl _ _ wr).drew) ?_
          simp only [pieces, pickL, List.map_cons, List.map_nil, List.getD_cons_zero, List.getD_cons_succ]
          refine mix_reads ?_
          repeat (go_big_quiet_step (fail))
          refine wpQuiet_nil (mix_acts ?_)
          go_wp2_with (go_at_call 20; refine (cap_int HM.out.drew (k : Int) 1#64 (by omega) (by rw [HA.out.n]; omega) (Lib.hid (by rw [show ((k : Nat) : Int).toNat = k by omega]; exact HA.out.ep k hk5))).mono ?_; rintro e w' ⟨rfl, hw'⟩; have HX1 := Lib.hid (ext_trans (ext_drew (ext_refl wr)) hw'); clear hw')
          refine mixQ_mk (off_of (.of_ext HX1.out)) (mix_acts ?_)
          go_wp2_with (go_at_call 17; refine (do_any (HM.out.ext HX1.out) (k : Int) 1#64 (f c)).mono ?_; rintro e Z ⟨M', v, ok, rfl, hd, hM, hF⟩; have HM2 := Lib.hid hM; have HF2 := Lib.hid ((Fr.of_ext HX1.out).trans hF); have HA2 := Lib.hid (HA.out.access hd); clear hM hF hd)
          refine mixQ_mk (off_of HF2.out) (mix_end ?_)
          have HZ := Lib.hid (Fr.below HF2.out HX.out hlo)
          go_wp2
          exact ⟨⟨c + 1, _, by omega, by go_num, HA2.out, HM2.out, HZ.out⟩, by simp [intOf]; omega⟩
        · have e6 := hq.out
          go_wp2_with (first
            | (go_at_call 20; refine (cap_int HM.out (q : Int) 1#64 (by omega) (by rw [HA.out.n]; omega) (Lib.hid (by rw [show ((q : Nat) : Int).toNat = q by omega]; exact HA.out.ep q hq5))).mono ?_; rintro e w' hr'; obtain ⟨rfl, s1, rfl⟩ := hr'.over; clear hr')
            | (go_at_call 13; refine (bump_int ((HM.out.over s1).alloc _) (k : Int) _ (by omega) (by rw [HA.out.n]; omega) (Lib.hid rfl)).mono ?_; rintro e Z ⟨rfl, hM, hF⟩; have HM2 := Lib.hid hM; have HF2 := Lib.hid hF; clear hM hF))
          have HC1 : Hid (CapAt' (over wr s1).heap.size q Z) := by
            have hx : CapAt' (over wr s1).heap.size q ((over wr s1).alloc (.cells #[.int .i64 (q : Int), .int .u64 (U 1#64)] 38)) := ⟨by simp [go_sem], by simp [go_sem]⟩
            exact Lib.hid (hx.fr HF2.out (Nat.le_trans HM.out.top (over_size wr s1)))
          have HX1 := Lib.hid (Fr.below HF2.out (ext_alloc _ (ext_over s1 HX.out)) hlo)
          have HE : Hid (EndM k (M.bump ((k : Nat) : Int).toNat)) := Lib.hid (by rw [show ((k : Nat) : Int).toNat = k by omega]; exact HA.out.bump hk5)
          generalize M.bump ((k : Nat) : Int).toNat = M2 at HE HM2
          clear HM HA HX HF2 e6
          generalize (over wr s1).heap.size = cb at HC1 ⊢
          go_loopw [11] (fun i wr => RegRel3 5 lo hi L M2 cb q w i wr) (fun i _ => (5 - intOf i).toNat)
          case atStart => exact ⟨0, Nat.zero_le _, rfl, HM2.out, HC1.out, HX1.out⟩
          case round =>
            clear HM2 HC1 HX1
            obtain ⟨i, hi', rfl, hM, hC, hx⟩ := hrel
            have HM := Lib.hid hM
            have HC := Lib.hid hC
            have HX := Lib.hid hx
            clear hM hC hx
            by_cases hlt5 : i < 5
            · have h5i : decide ((i : Int) < 5) = true := by simp; omega
              go_wp2
              go_loopw [12] (fun j wr => RegRel3 6 lo hi L M2 cb q w j wr) (fun j _ => (6 - intOf j).toNat)
              case atStart => exact ⟨0, Nat.zero_le _, rfl, HM.out, HC.out, HX.out⟩
              case round =>
                clear HM HC HX
                obtain ⟨j, hj, rfl, hM, hC, hx⟩ := hrel
                have HM := Lib.hid hM
                have HC := Lib.hid hC
                have HX := Lib.hid hx
                clear hM hC hx
                by_cases hlt6 : j < 6
                · by_cases hik : i = k
                  · have p1 : ((i : Int) != (k : Int)) = false := by simp; omega
                    have p2 : (i != k) = false := by simp; omega
                    clear hik
                    go_wp2
                    exact ⟨⟨i + 1, by omega, by go_num, HM.out, HC.out, HX.out⟩, by simp [intOf]; omega⟩
                  · have p1 : ((i : Int) != (k : Int)) = true := by simp; omega
                    have p2 : (i != k) = true := by simp; omega
                    by_cases hji : j = i
                    · have HW : Hid (U (M2.wd ((i : Nat) : Int).toNat ((j : Nat) : Int).toNat) = 7) := by
                        refine Lib.hid ?_
                        rw [show ((i : Nat) : Int).toNat = i by omega, show ((j : Nat) : Int).toNat = j by omega, HE.out.wd i j hlt5 hik]
                        unfold seven
                        rw [if_pos ⟨hji, hlt5⟩, U_7]
                      have r1 : ((j : Int) == (i : Int)) = true := by simp; omega
                      have r2 : (j == i) = true := by simp; omega
                      have r3 : ((j : Int) != (i : Int)) = false := by simp; omega
                      have r4 : (j != i) = false := by simp; omega
                      clear hik hji
                      go_wp2_with (go_at_call 21; refine (peek_int HM.out (i : Int) (j : Int) 7 (by omega) (by rw [HE.out.n]; omega) (by omega) (by rw [show ((i : Nat) : Int).toNat = i by omega, HE.out.sz i hlt5]; omega) HW).mono ?_; rintro e w' hr'; obtain ⟨rfl, s2, rfl⟩ := hr'.over; clear hr')
                      exact ⟨⟨j + 1, by omega, by go_num, HM.out.over s2, HC.out.ext (over_below _ s2), ext_over s2 HX.out⟩, by simp [intOf]; omega⟩
                    · have HW : Hid (U (M2.wd ((i : Nat) : Int).toNat ((j : Nat) : Int).toNat) = 0) := by
                        refine Lib.hid ?_
                        rw [show ((i : Nat) : Int).toNat = i by omega, show ((j : Nat) : Int).toNat = j by omega, HE.out.wd i j hlt5 hik]
                        unfold seven
                        rw [if_neg (fun hh => hji hh.1), U_0]
                      have r1 : ((j : Int) == (i : Int)) = false := by simp; omega
                      have r2 : (j == i) = false := by simp; omega
                      have r3 : ((j : Int) != (i : Int)) = true := by simp; omega
                      have r4 : (j != i) = true := by simp; omega
                      clear hik hji
                      go_wp2_with (go_at_call 21; refine (peek_int HM.out (i : Int) (j : Int) 0 (by omega) (by rw [HE.out.n]; omega) (by omega) (by rw [show ((i : Nat) : Int).toNat = i by omega, HE.out.sz i hlt5]; omega) HW).mono ?_; rintro e w' hr'; obtain ⟨rfl, s2, rfl⟩ := hr'.over; clear hr')
                      exact ⟨⟨j + 1, by omega, by go_num, HM.out.over s2, HC.out.ext (over_below _ s2), ext_over s2 HX.out⟩, by simp [intOf]; omega⟩
                · go_wp2
                  exact ⟨⟨i + 1, by omega, by go_num, HM.out, HC.out, HX.out⟩, by simp [intOf]; omega⟩
            · obtain ⟨k0, k1⟩ := HC.out
              go_wp2_with fail
              refine (good_yes HM.out q 1#64 (by rw [HE.out.n]; omega) (Lib.hid (HE.out.ep q hq5 hqk))).mono ?_
              rintro e w' hr'
              obtain ⟨rfl, s2, rfl⟩ := hr'.over
              clear hr'
              go_wp2_with fail
              refine (cap_int (HM.out.over s2) (k : Int) 2#64 (by omega) (by rw [HE.out.n]; omega) (Lib.hid (by rw [show ((k : Nat) : Int).toNat = k by omega]; exact HE.out.ek))).mono ?_
              rintro e w' hr'
              obtain ⟨rfl, s3, rfl⟩ := hr'.over
              clear hr'
              go_wp2_with fail
              refine (good_yes (by first | exact (HM.out.over _).over _ | exact HM.out.over _) k 2#64 (by rw [HE.out.n]; omega) (Lib.hid HE.out.ek)).mono ?_
              rintro e w' hr'
              obtain ⟨rfl, s4, rfl⟩ := hr'.over
              clear hr'
              go_wp2_with fail
              refine (cap_at (by first | exact HM.out.over _ | exact (HM.out.over _).over _ | exact ((HM.out.over _).over _).over _) (k : Int) 2 (by omega) (by rw [HE.out.n]; omega) (Lib.hid (by rw [show ((k : Nat) : Int).toNat = k by omega, HE.out.ek]; exact U_of _ _ (by decide)))).mono ?_
              rintro e w' hr'
              obtain ⟨rfl, s5, rfl⟩ := hr'.over
              clear hr'
              go_wp2
              go_ret
              exact Ret.mk (by repeat (first | exact HX.out | apply ext_over))

set_option maxHeartbeats 400000 in
theorem memRegions_great (n : Nat) (a0 : Option Addr) (cap : Nat) (more : Int) (w : World) (h : 40 < n) :
    Calls Try.prog 7 #[.slice a0 n cap, .int .u8 more] w (Ret (.bool true) w) := by
  go_enter Try.func7, Try.ntmps7
  go_wp2_with (go_at_call 9; refine (awake_any _).mono ?_; rintro e w' hr'; obtain ⟨rfl, s, rfl⟩ := hr'.over; clear hr')
  go_ret
  exact Ret.mk (by repeat (first | exact ext_refl _ | apply ext_over | apply ext_alloc))

theorem memRegions_any (f : Nat → Acc) (n : Nat) (v : Value) (more : Int) (w : World) (h0 : 0 ≤ more) (h1 : more ≤ 255) (hU : As w v n f) : Calls Try.prog 7 #[v, .int .u8 more] w (Ret (.bool true) w) := by
  have hU' := hU
  obtain ⟨a0, cap, rfl, _⟩ := hU'
  by_cases h : n ≤ 40
  · exact memRegions_small f n a0 cap more (more % 5).toNat (((more % 5) + 1) % 5).toNat w h h0 h1 (Lib.hid (by omega)) (by omega) (Lib.hid (by omega)) (by omega) (by omega) (Lib.hid hU)
  · exact memRegions_great n a0 cap more w (by omega)
end Go.Proofs.Ytjogjmlabcfkfaa
