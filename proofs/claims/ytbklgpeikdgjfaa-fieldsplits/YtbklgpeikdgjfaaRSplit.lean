/-
  What the call of the reference's Split comes to. Conditions: those of the theorem.
-/
import Derived.Test.YtbklgpeikdgjfaaLayout
import Derived.Test.YtbklgpeikdgjfaaSpl
namespace Go.Proofs.Ytbklgpeikdgjfaa
open Go Go.RowKit

theorem Try.info24r : (Try.prog.info? 24).map (fun i => (i.zero, i.size, i.bytes)) = some (some (.int .u64 0), 1, 8) := by kernel_rfl

theorem rput_at (a b x v : Int) (X V : BitVec 64) (w : World) (h : Fm a b) (hx : x = U X) (hv : v = U V) :
    Calls Try.prog 18 #[.agg #[.int .i64 a, .int .i64 b], .int .u64 x, .int .u64 v] w (Ret (.int .u64 (U (putN a b X V))) w) := by
  subst hx hv
  exact rput_yes a b X V w h

/-- The loop of the reference's Split: the first k numbers are gathered, and their bits cleared. -/
def RSplRel (l : List (Int × Int)) (x : BitVec 64) (w : World) (out rest i : Value) (wr : World) : Prop :=
  ∃ k : Nat, k ≤ l.length ∧ i = .int .i64 k ∧ rest = .int .u64 (U (x &&& ~~~ (covTo l k))) ∧ wr.ownsRow w.heap.size 24 1 out k (((splitL l x).take k).map W1) ∧ Ext w wr

set_option maxHeartbeats 1000000 in
theorem rsplit_any (l : List (Int × Int)) (lv : Value) (x : BitVec 64) (w : World) (r : List (BitVec 64)) (e : Int) (hs : Hid (SplitSpec l x r e)) (hl : l.length ≤ 64) (hF : Fs w lv l) :
    Calls Try.prog 24 #[lv, .int .u64 (U x)] w (RetL r e w) := by
  by_cases hlay : Lay l
  · have HY := Lib.hid hlay
    obtain ⟨i24, hi24, hy0, hy1, hy2⟩ := info_parts Try.info24r
    have HFs := Lib.hid hF
    obtain ⟨a0, cap, rfl, hc, hcell⟩ := hF
    clear hcell hlay
    go_enter Try.func24, Try.ntmps24
    go_wp2_with (go_at_call 22; refine (layout_any l _ _ true (hid_yes HY.out) hl HFs.out).mono ?_; rintro e w' hr'; obtain ⟨rfl, s, rfl⟩ := hr'.over; clear hr')
    go_loopw [6, 7, 8] (fun out rest i wr => RSplRel l x w out rest i wr) (fun _ _ i _ => (l.length - intOf i).toNat)
    case atStart => exact ⟨0, by omega, rfl, by rw [clear_zero], World.ownsRow_nil _ _ _ _, over_below _ _⟩
    case round =>
      obtain ⟨k, hk, rfl, rfl, ho, hx⟩ := hrel
      have HX := Lib.hid hx
      have HO := Lib.hid ho
      by_cases hlt : k < l.length
      · obtain ⟨b, off, rfl, hb, hcells⟩ := HFs.out.at (by omega)
        obtain ⟨c1', c2'⟩ := hcells k hlt
        have C1 := Lib.hid c1'
        have C2 := Lib.hid c2'
        have c1 := ext_cell hx c1'
        have c2 := ext_cell hx c2'
        have hf : Fm (fA l k) (fB l k) := (HY.out k hlt).1
        have HE := Lib.hid (splitL_at l x k hlt)
        clear hcells ho hx c1' c2'
        go_wp2_with (first
          | (go_at_call 16; refine (rget_yes _ _ _ _ hf).mono ?_; rintro e w1 hr'; obtain ⟨rfl, hb1⟩ := hr'; have HO1 := Lib.hid (own_ext HO.out hb1); have HX1 := Lib.hid (ext_trans HX.out hb1); clear hb1)
          | (at_builtin; refine wpList_append_own _ rfl (.tmp 19) (.tmp 26) 35 rfl w.heap.size 24 i24 (.int .u64 0) 1 8 Try.underlying35 hi24 hy0 hy1 hy2 rfl (by decide) _ _ _ rfl (HO1.out.alloc _) ⟨w1.heap.size, 0, none⟩ 1 1 [.int .u64 (U (getN (fA l k) (fB l k) x))] rfl rfl (news1 _ _ _) (ints1 _ _) (by unfold maxLen; omega) (by omega) (by have := HX1.out.size; simp; omega) ?_; intro u2 w2 hu2 hg2 hn2; have HX2 := Lib.hid (ext_grown (ext_alloc _ HX1.out) (HO1.out.alloc _) (Nat.le_refl _) hg2); have HU2 := Lib.hid hu2; have d1 := ext_cell HX2.out C1.out; have d2 := ext_cell HX2.out C2.out; clear hu2 hg2 hn2)
          | (go_at_call 18; refine (rput_at _ _ _ _ _ _ _ hf rfl U_0.symm).mono ?_; rintro e w3 hr'; obtain ⟨rfl, hb3⟩ := hr'; have HU3 := Lib.hid (own_ext HU2.out hb3); have HX3 := Lib.hid (ext_trans HX2.out hb3); clear hb3))
        have hst : w3.ownsRow w.heap.size 24 1 u2 (k + 1) (((splitL l x).take (k + 1)).map W1) := by
          rw [← map_snoc _ k (by rw [splitL_len]; omega), HE.out]; exact HU3.out
        exact ⟨⟨k + 1, by omega, by go_num, by rw [clear_succ l x k hf], hst, HX3.out⟩, by simp [intOf]; omega⟩
      · obtain rfl : k = l.length := by omega
        by_cases hz : x &&& ~~~ (covTo l l.length) = 0#64
        · have E : Hid (r = splitL l x ∧ e = 0) := Lib.hid (hs.out.2.2 HY.out hz)
          have q1 := U_eq0 _ hz
          have hU : Hid (Us wr u6 r) := by
            refine Lib.hid (us_of_own (base := w.heap.size) (e := 24) ?_)
            rw [E.out.1, splitL_len]
            rw [List.take_of_length_le (by rw [splitL_len]; omega)] at ho
            exact ho
          clear ho hx hz
          go_wp2
          go_ret2
          exact RetL.some E.out.2.symm HX.out hU.out
        · have E : Hid (r = [] ∧ e = 10) := Lib.hid (hs.out.2.1 HY.out hz)
          have q1 := U_ne0 _ hz
          clear ho hx hz
          go_wp2
          go_ret2
          exact RetL.none E.out.1 E.out.2.symm HX.out
  · have HN := Lib.hid hlay
    have E : Hid (r = [] ∧ e = 1) := Lib.hid (hs.out.1 hlay)
    have HFs := Lib.hid hF
    clear hF hlay
    go_enter Try.func24, Try.ntmps24
    go_wp2_with (go_at_call 22; refine (layout_any l _ _ false (hid_no HN.out) hl HFs.out).mono ?_; rintro e w' hr'; obtain ⟨rfl, s, rfl⟩ := hr'.over; clear hr')
    go_ret2
    exact RetL.none E.out.1 E.out.2.symm (by repeat (first | exact ext_refl _ | apply ext_over | apply ext_alloc))

end Go.Proofs.Ytbklgpeikdgjfaa
