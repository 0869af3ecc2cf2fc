/-
  FieldOrder: the call's ways, walked. Conditions: those of each theorem.
-/
import Derived.Test.YtbklgpeikdgjfaaPack
import Derived.Test.YtbklgpeikdgjfaaOwn
namespace Go.Proofs.Ytbklgpeikdgjfaa
open Go Go.RowKit

theorem Try.info23 : (Try.prog.info? 23).map (fun i => (i.zero, i.size, i.bytes)) = some (some (.agg #[.int .i64 0, .int .i64 0]), 2, 16) := by kernel_rfl
theorem Try.info24 : (Try.prog.info? 24).map (fun i => (i.zero, i.size, i.bytes)) = some (some (.int .u64 0), 1, 8) := by kernel_rfl

/-- The loop: the last d fields, and numbers, turned round. -/
def OrdRel (l : List (Int × Int)) (v : List (BitVec 64)) (w : World) (k u i : Value) (wr : World) : Prop :=
  ∃ i0 : Int, -1 ≤ i0 ∧ i0 < l.length ∧ i = .int .i64 i0 ∧ wr.ownsRow w.heap.size 23 2 k (l.length - 1 - i0).toNat ((l.reverse.take (l.length - 1 - i0).toNat).flatMap F2) ∧
    wr.ownsRow w.heap.size 24 1 u (l.length - 1 - i0).toNat ((v.reverse.take (l.length - 1 - i0).toNat).map W1) ∧ Ext w wr

set_option maxHeartbeats 1000000 in
theorem fieldOrder_small (l : List (Int × Int)) (v : List (BitVec 64)) (a0 a1 : Option Addr) (cap cap1 : Nat) (w : World) (hl : l.length ≤ 64) (hlen : Hid (l.length = v.length))
    (hF : Hid (Fs w (.slice a0 l.length cap) l)) (hU : Hid (Us w (.slice a1 l.length cap1) v)) :
    Calls Try.prog 9 #[.slice a0 l.length cap, .slice a1 l.length cap1] w (Ret (.bool true) w) := by
  obtain ⟨x, e, hs⟩ := packSpec_of l v
  have HS := Lib.hid hs
  clear hs
  obtain ⟨i23, hi23, hz0, hz1, hz2⟩ := info_parts Try.info23
  obtain ⟨i24, hi24, hy0, hy1, hy2⟩ := info_parts Try.info24
  have q0 : decide (64 < (l.length : Int)) = false := by simp; omega
  go_enter Try.func9, Try.ntmps9
  go_wp2_with (go_at_call 10; refine (awake_any _).mono ?_; rintro e w' hr'; obtain ⟨rfl, s, rfl⟩ := hr'.over; clear hr')
  go_loopw [5, 6, 7] (fun k u i wr => OrdRel l v w k u i wr) (fun _ _ i _ => (intOf i + 1).toNat)
  case atStart =>
    refine ⟨(l.length : Int) - 1, by omega, by omega, rfl, ?_, ?_, ext_over _ (ext_refl _)⟩
    · rw [show ((l.length : Int) - 1 - ((l.length : Int) - 1)).toNat = 0 by omega]; exact World.ownsRow_nil _ _ _ _
    · rw [show ((l.length : Int) - 1 - ((l.length : Int) - 1)).toNat = 0 by omega]; exact World.ownsRow_nil _ _ _ _
  case round =>
    obtain ⟨i0, h1, h2, rfl, hk, hu, hx⟩ := hrel
    have HX := Lib.hid hx
    by_cases h0 : 0 ≤ i0
    · obtain ⟨q, rfl⟩ := Int.eq_ofNat_of_zero_le h0
      have hq : q < l.length := by omega
      obtain ⟨d, hd⟩ : ∃ d, d = l.length - 1 - q := ⟨_, rfl⟩
      have ed : ((l.length : Int) - 1 - (q : Int)).toNat = d := by omega
      rw [ed] at hk hu
      have ed' : ((l.length : Int) - 1 - ((q : Int) - 1)).toNat = d + 1 := by omega
      have hd64 : d < 64 := by omega
      have HD := Lib.hid hd
      have HE := Lib.hid ed'
      have HK := Lib.hid hk
      have HU := Lib.hid hu
      have hFr := hF.out.ext hx
      obtain ⟨b, off, rfl, hb, hcells⟩ := (hF.out.ext hx).at (by omega)
      obtain ⟨b1, off1, rfl, hb1, hcells1⟩ := hU.out.at (by have := hlen.out; omega)
      obtain ⟨c1, c2⟩ := hcells q hq
      have C3 := Lib.hid (hcells1 q (by have := hlen.out; omega))
      clear hcells hcells1 hx hk hu ed ed' hd h1 h2 h0
      go_wp2_with (first
        | (at_builtin; refine wpList_append_own _ rfl (.tmp 34) (.tmp 39) 34 rfl w.heap.size 23 i23 (.agg #[.int .i64 0, .int .i64 0]) 2 16 Try.underlying34 hi23 hz0 hz1 hz2 rfl (by decide) _ _ _ rfl (HK.out.alloc _) ⟨wr.heap.size, 0, none⟩ 1 1 [.int .i64 (fA l q), .int .i64 (fB l q)] rfl rfl (news2 _ _ _ _) (ints2 _ _ _) (by unfold maxLen; omega) (by omega) (by have := HX.out.size; simp; omega) ?_; intro k1 w1 hk1 hg1 hn1; have HX1 := Lib.hid (ext_grown (ext_alloc _ HX.out) (HK.out.alloc _) (Nat.le_refl _) hg1); have HU1 := Lib.hid (own_apart (HU.out.alloc _) (HK.out.alloc _) (by decide) hg1); have HK1 := Lib.hid hk1; have c3 := ext_cell HX1.out C3.out; clear hk1 hg1 hn1)
        | (at_builtin; refine wpList_append_own _ rfl (.tmp 41) (.tmp 46) 35 rfl w.heap.size 24 i24 (.int .u64 0) 1 8 Try.underlying35 hi24 hy0 hy1 hy2 rfl (by decide) _ _ _ rfl (HU1.out.alloc _) ⟨w1.heap.size, 0, none⟩ 1 1 [.int .u64 (U (uN v q))] rfl rfl (news1 _ _ _) (ints1 _ _) (by unfold maxLen; omega) (by omega) (by have := HX1.out.size; simp; omega) ?_; intro u2 w2 hu2 hg2 hn2; have HX2 := Lib.hid (ext_grown (ext_alloc _ HX1.out) (HU1.out.alloc _) (Nat.le_refl _) hg2); have HK2 := Lib.hid (own_apart (HK1.out.alloc _) (HU1.out.alloc _) (by decide) hg2); have HU2 := Lib.hid hu2; clear hu2 hg2 hn2))
      have hd := HD.out
      have e1 := fA_rev l d (by omega)
      have e2 := uN_rev v d (by have := hlen.out; omega)
      rw [show l.length - 1 - d = q by omega] at e1
      rw [show v.length - 1 - d = q by have := hlen.out; omega] at e2
      have RK : w2.ownsRow w.heap.size 23 2 k1 (d + 1) ((l.reverse.take (d + 1)).flatMap F2) := by
        rw [← flat_snoc l.reverse d (by rw [List.length_reverse]; omega), e1.1, e1.2]; exact HK2.out
      have RU : w2.ownsRow w.heap.size 24 1 u2 (d + 1) ((v.reverse.take (d + 1)).map W1) := by
        rw [← map_snoc v.reverse d (by have := hlen.out; rw [List.length_reverse]; omega), e2]; exact HU2.out
      exact ⟨⟨(q : Int) - 1, by omega, by omega, rfl, by rw [HE.out]; exact RK, by rw [HE.out]; exact RU, HX2.out⟩, by simp [intOf]⟩
    · obtain rfl : i0 = -1 := by omega
      rw [show ((l.length : Int) - 1 - -1).toNat = l.length by omega] at hk hu
      have HFk : Hid (Fs wr u5 l.reverse) := by
        refine Lib.hid (fs_of_own (base := w.heap.size) (e := 23) ?_)
        rw [List.take_of_length_le (by simp)] at hk
        rw [List.length_reverse]; exact hk
      have HUu : Hid (Us wr u6 v.reverse) := by
        refine Lib.hid (us_of_own (base := w.heap.size) (e := 24) ?_)
        rw [List.take_of_length_le (by simp [hlen.out])] at hu
        rw [List.length_reverse, ← hlen.out]; exact hu
      have HF2 := Lib.hid (hF.out.ext hx)
      have HU2 := Lib.hid (hU.out.ext hx)
      have HS2 : Hid (PackSpec l.reverse v.reverse x e) := Lib.hid (packSpec_rev l v x e hlen.out HS.out)
      have hlr : l.reverse.length ≤ 64 := by rw [List.length_reverse]; exact hl
      clear hk hu hx h1 h2 h0
      go_wp2_with (first
        | (go_at_call_of 19 (Value.slice a0 l.length cap); refine (pack_any l v _ _ _ x e HS hl HF2.out HU2.out).mono ?_; rintro e w' hr'; obtain ⟨rfl, s, rfl⟩ := hr'.over; clear hr')
        | (go_at_call_of 19 u5; refine (pack_any l.reverse v.reverse _ _ _ x e HS2 hlr (HFk.out.over _) (HUu.out.over _)).mono ?_; rintro e w' hr'; obtain ⟨rfl, s, rfl⟩ := hr'.over; clear hr'))
      go_ret
      exact Ret.mk (by repeat (first | exact HX.out | exact ext_refl _ | apply ext_over | apply ext_alloc))

set_option maxHeartbeats 400000 in
theorem fieldOrder_great (n m : Nat) (a0 a1 : Option Addr) (cap cap1 : Nat) (w : World) (h : ¬ (n ≤ 64 ∧ n = m)) :
    Calls Try.prog 9 #[.slice a0 n cap, .slice a1 m cap1] w (Ret (.bool true) w) := by
  by_cases hn : n ≤ 64
  · have q1 : ((n : Int) != (m : Int)) = true := by rw [bne_iff_ne]; omega
    have q2 : (n != m) = true := by rw [bne_iff_ne]; omega
    clear h
    go_enter Try.func9, Try.ntmps9
    go_wp2_with (go_at_call 10; refine (awake_any _).mono ?_; rintro e w' hr'; obtain ⟨rfl, s, rfl⟩ := hr'.over; clear hr')
    go_ret
    exact Ret.mk (by repeat (first | exact ext_refl _ | apply ext_over | apply ext_alloc))
  · have hm : 64 < n := by omega
    clear h hn
    go_enter Try.func9, Try.ntmps9
    go_wp2_with (go_at_call 10; refine (awake_any _).mono ?_; rintro e w' hr'; obtain ⟨rfl, s, rfl⟩ := hr'.over; clear hr')
    go_ret
    exact Ret.mk (by repeat (first | exact ext_refl _ | apply ext_over | apply ext_alloc))

theorem fieldOrder_any (l : List (Int × Int)) (v : List (BitVec 64)) (lv vv : Value) (w : World) (hF : Fs w lv l) (hU : Us w vv v) :
    Calls Try.prog 9 #[lv, vv] w (Ret (.bool true) w) := by
  have hF' := hF
  have hU' := hU
  obtain ⟨a0, cap, rfl, _⟩ := hF'
  obtain ⟨a1, cap1, rfl, _⟩ := hU'
  by_cases h : l.length ≤ 64 ∧ l.length = v.length
  · have e := h.2
    rw [← e] at hU ⊢
    exact fieldOrder_small l v a0 a1 cap cap1 w h.1 (Lib.hid e) (Lib.hid hF) (Lib.hid hU)
  · exact fieldOrder_great l.length v.length a0 a1 cap cap1 w h

end Go.Proofs.Ytbklgpeikdgjfaa
