/-
  What the call of Split comes to. Conditions: those of the theorem.
-/
import Derived.Test.YtniejbncahmcoaaCover
import Derived.Test.YtniejbncahmcoaaSpl
namespace Go.Proofs.Ytniejbncahmcoaa
open Go Go.RowKit

theorem Try.info24s : (Try.prog.info? 24).map (fun i => (i.zero, i.size, i.bytes)) = some (some (.int .u64 0), 1, 8) := by kernel_rfl

/-- The loop of Split: the first k numbers stand in the row g. -/
def SplRel (l : List (Int × Int)) (x : BitVec 64) (g : Nat) (w : World) (i : Value) (wr : World) : Prop :=
  ∃ k : Nat, k ≤ l.length ∧ i = .int .i64 k ∧ wr.ownsRow w.heap.size 24 1 (.slice (some ⟨g, 0, none⟩) l.length l.length) l.length (fillTo (splitL l x) k) ∧ Ext w wr

set_option maxHeartbeats 1000000 in
theorem split_any (l : List (Int × Int)) (lv : Value) (x : BitVec 64) (w : World) (r : List (BitVec 64)) (e : Int) (hs : Hid (SplitSpec l x r e)) (hl : l.length ≤ 64) (hF : Fs w lv l) :
    Calls Try.prog 16 #[lv, .int .u64 (U x)] w (RetSp r e w) := by
  by_cases hlay : LayF l
  · have HV : Hid (CovSpec l (covTo l l.length) true) := ⟨fun _ => ⟨rfl, rfl⟩, fun hn => absurd hlay hn⟩
    by_cases hz : x &&& ~~~ (covTo l l.length) = 0#64
    · have E : Hid (r = splitL l x ∧ e = 0) := Lib.hid (hs.out.2.2 hlay hz)
      have q1 := U_eq0 _ hz
      have HY := Lib.hid hlay
      obtain ⟨i24, hi24, hy0, hy1, hy2⟩ := info_parts Try.info24s
      have HFs := Lib.hid hF
      obtain ⟨a0, cap, rfl, hc, hcell⟩ := hF
      clear hcell hz hlay
      go_enter Try.func16, Try.ntmps16
      go_wp2_with (first
        | (go_at_call 21; refine (cover_any l _ _ _ _ HV hl HFs.out).mono ?_; rintro e w' hr'; obtain ⟨rfl, s, rfl⟩ := hr'.over; clear hr')
        | (at_make; refine wpList_make_full _ rfl (.tmp 23) (.tmp 23) 37 rfl w.heap.size 24 i24 (.int .u64 0) 1 Try.underlying37 hi24 hy0 hy1 .i64 .i64 l.length l.length l.length rfl rfl rfl rfl (by rw [hy2]; omega) (by unfold maxLen; omega) (over_size _ _) ?_; intro w1 ho1 hg1; have HO1 := Lib.hid ho1; have HX1 := Lib.hid (ext_grown0 (over_below _ _) hg1); clear ho1 hg1))
      have hg : w.heap.size ≤ (over w s).heap.size := over_size _ _
      generalize (over w s).heap.size = g at HO1 hg ⊢
      have HO2 : Hid (w1.ownsRow w.heap.size 24 1 (.slice (some ⟨g, 0, none⟩) l.length l.length) l.length (fillTo (splitL l x) 0)) := by
        have h := HO1.out
        rw [Nat.mul_one] at h
        rw [fill_zero, splitL_len]
        have e1 : (madeCells (Value.int IntKind.u64 0).cells l.length).toList = List.replicate l.length (Value.int .u64 0) := toList_madeCells_one _ _
        rw [e1] at h
        exact h
      clear HO1
      go_loopw [27] (fun i wr => SplRel l x g w i wr) (fun i _ => (l.length - intOf i).toNat)
      case atStart => exact ⟨0, by omega, rfl, HO2.out, HX1.out⟩
      case round =>
        obtain ⟨k, hk, rfl, ho, hx⟩ := hrel
        have HX := Lib.hid hx
        have HO := Lib.hid ho
        by_cases hlt : k < l.length
        · obtain ⟨b, off, rfl, hb, hcells⟩ := (HFs.out.ext hx).at (by omega)
          obtain ⟨c1, c2⟩ := hcells k hlt
          have hf : Fm (fA l k) (fB l k) := (HY.out k hlt).1
          have es := splitL_at l x k hlt
          have HE := Lib.hid es
          clear hcells ho hx HO2 HX1 es
          go_wp2_with (go_at_call 22; refine (get_yes _ _ _ _ hf).mono ?_; rintro e w' hr'; obtain ⟨rfl, hbx⟩ := hr'; have HO3 := Lib.hid (own_ext (HO.out.alloc _) hbx); have HX3 := Lib.hid (ext_trans (ext_alloc _ HX.out) hbx); have fz := HO3.out.frozenAt k; have cc := HO3.out.cellAt k (by omega); rw [List.getElem?_eq_getElem (by rw [fill_len, splitL_len]; omega)] at cc; clear hbx)
          have hst := (HO3.out.stored k (Value.int .u64 (U (getN (fA l k) (fB l k) x)))).1
          have ew : Value.int .u64 (U (getN (fA l k) (fB l k) x)) = WU (uN (splitL l x) k) := by rw [HE.out]; rfl
          have hst2 : (w'.setCell ⟨g, k, none⟩ (Value.int .u64 (U (getN (fA l k) (fB l k) x)))).ownsRow w.heap.size 24 1 (.slice (some ⟨g, 0, none⟩) l.length l.length) l.length (fillTo (splitL l x) (k + 1)) := by
            rw [← fill_set, ← ew]; exact hst
          exact ⟨⟨k + 1, by omega, by go_num, hst2, ext_set _ hg HX3.out⟩, by simp [intOf]; omega⟩
        · obtain rfl : k = l.length := by omega
          have hU : Hid (Us wr (.slice (some ⟨g, 0, none⟩) l.length l.length) r) := by
            refine Lib.hid (us_of_own (base := w.heap.size) (e := 24) ?_)
            rw [E.out.1, ← fill_all, splitL_len]
            exact ho
          clear ho hx HO2 HX1
          go_wp2
          go_ret2
          exact RetSp.some E.out.2.symm HX.out hU.out
    · have E : Hid (r = [] ∧ e = 10) := Lib.hid (hs.out.2.1 hlay hz)
      have q1 := U_ne0 _ hz
      have HFs := Lib.hid hF
      clear hF hz hlay
      go_enter Try.func16, Try.ntmps16
      go_wp2_with (go_at_call 21; refine (cover_any l _ _ _ _ HV hl HFs.out).mono ?_; rintro e w' hr'; obtain ⟨rfl, s, rfl⟩ := hr'.over; clear hr')
      go_ret2
      exact RetSp.none E.out.1 E.out.2.symm (by repeat (first | exact ext_refl _ | apply ext_over | apply ext_alloc))
  · have HV : Hid (CovSpec l 0#64 false) := ⟨fun hn => absurd hn hlay, fun _ => ⟨rfl, rfl⟩⟩
    have E : Hid (r = [] ∧ e = 1) := Lib.hid (hs.out.1 hlay)
    have HFs := Lib.hid hF
    clear hF hlay
    go_enter Try.func16, Try.ntmps16
    go_wp2_with (go_at_call 21; refine (cover_any l _ _ _ _ HV hl HFs.out).mono ?_; rintro e w' hr'; obtain ⟨rfl, s, rfl⟩ := hr'.over; clear hr')
    go_ret2
    exact RetSp.none E.out.1 E.out.2.symm (by repeat (first | exact ext_refl _ | apply ext_over | apply ext_alloc))

end Go.Proofs.Ytniejbncahmcoaa
