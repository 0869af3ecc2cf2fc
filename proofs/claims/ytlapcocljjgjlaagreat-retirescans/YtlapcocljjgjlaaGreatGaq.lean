/-
  What the calls of cover and of Formed (of a layout) come to. Conditions: those of each theorem.
-/
import Derived.Test.YtlapcocljjgjlaaGreatGap
namespace Go.Proofs.YtlapcocljjgjlaaGreat
open Go Go.RowKit

/-- What cover answers. -/
def CovSpec (l : List (Int × Int)) (x : BitVec 64) (r : Bool) : Prop := (LayF l → x = covTo l l.length ∧ r = true) ∧ (¬ LayF l → x = 0#64 ∧ r = false)
/-- The loop of cover. -/
def CovRel (l : List (Int × Int)) (w : World) (h i : Value) (wr : World) : Prop := ∃ k : Nat, k ≤ l.length ∧ LayTo l k ∧ h = .int .u64 (U (covTo l k)) ∧ i = .int .i64 k ∧ ∃ s, wr = over w s

theorem Ret.two {x y : Value} {x' y' : Value} {w w' : World} (e1 : x' = x) (e2 : y' = y) (h : Below w.heap.size w w') : Ret (.tuple #[x, y]) w (.returned (.tuple #[x', y'])) w' := ⟨by rw [e1, e2], h⟩

set_option maxHeartbeats 1000000 in
theorem cover_any (l : List (Int × Int)) (v : Value) (w : World) (x : BitVec 64) (r : Bool) (hs : Hid (CovSpec l x r)) (hl : l.length ≤ 64) (hF : Fs w v l) :
    Calls Tryz.prog 136 #[v] w (Ret (.tuple #[.int .u64 (U x), .bool r]) w) := by
  obtain ⟨a0, cap, rfl, hc, hcell⟩ := hF
  have HC := Lib.hid hcell
  clear hcell
  go_enter Tryz.func136, Tryz.ntmps136
  go_wp2
  go_loopw [4, 9] (fun h i wr => CovRel l w h i wr) (fun _ i _ => (l.length - intOf i).toNat)
  case atStart => exact ⟨0, by omega, LayTo.zero l, by rw [covTo, U_0], rfl, over_of (Below.refl _ _)⟩
  case round =>
    obtain ⟨k, hk, hto, rfl, rfl, s, rfl⟩ := hrel
    have HT := Lib.hid hto
    clear hto
    by_cases hlt : k < l.length
    · obtain ⟨b, off, rfl, hb, hcells⟩ := HC.out (by omega)
      obtain ⟨c1, c2⟩ := hcells k hlt
      clear hcells HC
      by_cases hf : Fm (fA l k) (fB l k)
      · by_cases hm : covTo l k &&& maskN (fA l k) (fB l k) = 0#64
        · have hq := U_eq0 _ hm
          have E : Hid (LayTo l (k + 1)) := Lib.hid (LayTo.succ HT.out hf ((cov_meet l k HT.out hf).1 hm))
          clear hm HT
          go_wp2_with (first
            | (go_at_call 103; refine (formed_yes _ _ _ hf).mono ?_; rintro e w' hr'; obtain ⟨rfl, s, rfl⟩ := hr'.over; clear hr')
            | (go_at_call 104; refine (mask_yes _ _ _ hf).mono ?_; rintro e w' hr'; obtain ⟨rfl, s, rfl⟩ := hr'.over; clear hr'))
          exact ⟨⟨k + 1, by omega, E.out, rfl, by go_num, over_of (by repeat (first | exact ext_refl _ | apply ext_over | apply ext_alloc))⟩, by simp [intOf]; omega⟩
        · have hq := U_ne0 _ hm
          have E : Hid (Value.int .u64 0 = Value.int .u64 (U x) ∧ Value.bool false = Value.bool r) := by
            have hn : ¬ LayF l := fun h => hm ((cov_meet l k HT.out hf).2 (h k hlt).2)
            exact ⟨by rw [(hs.out.2 hn).1, U_0], by rw [(hs.out.2 hn).2]⟩
          clear hm HT
          go_wp2_with (first
            | (go_at_call 103; refine (formed_yes _ _ _ hf).mono ?_; rintro e w' hr'; obtain ⟨rfl, s, rfl⟩ := hr'.over; clear hr')
            | (go_at_call 104; refine (mask_yes _ _ _ hf).mono ?_; rintro e w' hr'; obtain ⟨rfl, s, rfl⟩ := hr'.over; clear hr'))
          go_ret2
          exact Ret.two E.out.1 E.out.2 (by repeat (first | exact ext_refl _ | apply ext_over | apply ext_alloc))
      · have E : Hid (Value.int .u64 0 = Value.int .u64 (U x) ∧ Value.bool false = Value.bool r) := by
          have hn : ¬ LayF l := fun h => hf (h k hlt).1
          exact ⟨by rw [(hs.out.2 hn).1, U_0], by rw [(hs.out.2 hn).2]⟩
        clear HT
        go_wp2_with (go_at_call 103; refine (formed_no _ _ _ hf).mono ?_; rintro e w' hr'; obtain ⟨rfl, s, rfl⟩ := hr'.over; clear hr')
        go_ret2
        exact Ret.two E.out.1 E.out.2 (by repeat (first | exact ext_refl _ | apply ext_over | apply ext_alloc))
    · obtain rfl : k = l.length := by omega
      have E : Hid (Value.int .u64 (U (covTo l l.length)) = Value.int .u64 (U x) ∧ Value.bool true = Value.bool r) := ⟨by rw [(hs.out.1 HT.out).1], by rw [(hs.out.1 HT.out).2]⟩
      clear HT
      go_wp2
      go_ret2
      exact Ret.two E.out.1 E.out.2 (by repeat (first | exact ext_refl _ | apply ext_over | apply ext_alloc))

theorem covSpec_of (l : List (Int × Int)) : ∃ x r, CovSpec l x r ∧ (r = true ↔ LayF l) := by
  by_cases h : LayF l
  · exact ⟨covTo l l.length, true, ⟨fun _ => ⟨rfl, rfl⟩, fun hn => absurd h hn⟩, by simp [h]⟩
  · exact ⟨0#64, false, ⟨fun hn => absurd hn h, fun _ => ⟨rfl, rfl⟩⟩, by simp [h]⟩

set_option maxHeartbeats 400000 in
theorem formedL_any (l : List (Int × Int)) (v : Value) (w : World) (r : Bool) (hr : Hid (r = true ↔ LayF l)) (hl : l.length ≤ 64) (hF : Fs w v l) :
    Calls Tryz.prog 107 #[v] w (Ret (.bool r) w) := by
  obtain ⟨x, r', hs, hr'⟩ := covSpec_of l
  obtain rfl : r = r' := by
    have h1 := hr.out
    rw [Bool.eq_iff_iff, h1, hr']
  have HS := Lib.hid hs
  clear hs hr' hr
  go_enter Tryz.func107, Tryz.ntmps107
  go_wp2_with (go_at_call 136; refine (cover_any l v _ x r HS hl hF).mono ?_; rintro e w' hr'; obtain ⟨rfl, s, rfl⟩ := hr'.over; clear hr')
  go_ret
  exact Ret.mk (by repeat (first | exact ext_refl _ | apply ext_over | apply ext_alloc))

end Go.Proofs.YtlapcocljjgjlaaGreat

/-
  What the call of Pack comes to. Conditions: those of each theorem.
-/
namespace Go.Proofs.YtlapcocljjgjlaaGreat
open Go Go.RowKit

/-- The loop of Pack. -/
def PackRel (l : List (Int × Int)) (v : List (BitVec 64)) (w : World) (x i : Value) (wr : World) : Prop :=
  ∃ k : Nat, k ≤ l.length ∧ FitTo l v k ∧ x = .int .u64 (U (packTo l v k)) ∧ i = .int .i64 k ∧ ∃ s, wr = over w s

set_option maxHeartbeats 1000000 in
theorem pack_any (l : List (Int × Int)) (v : List (BitVec 64)) (lv vv : Value) (w : World) (x : BitVec 64) (e : Int) (hs : Hid (PackSpec l v x e)) (hl : l.length ≤ 64) (hF : Fs w lv l) (hU : Us w vv v) :
    Calls Tryz.prog 70 #[lv, vv] w (Ret (.tuple #[.int .u64 (U x), .int .i64 e]) w) := by
  by_cases hlay : LayF l
  · by_cases hlen : l.length = v.length
    · have HY := Lib.hid hlay
      have HFs := Lib.hid hF
      obtain ⟨a0, cap, rfl, hc, hcell⟩ := hF
      obtain ⟨a1, cap1, rfl, hc1, hcell1⟩ := hU
      rw [← hlen] at hc1 hcell1 ⊢
      have HL := Lib.hid hlen
      have HC := Lib.hid hcell
      have HC1 := Lib.hid hcell1
      clear hcell hcell1 hlen hlay
      go_enter Tryz.func70, Tryz.ntmps70
      go_wp2_with (go_at_call 107; refine (formedL_any l _ _ true (by exact Lib.hid (by simp [HY.out])) hl HFs.out).mono ?_; rintro e w' hr'; obtain ⟨rfl, s, rfl⟩ := hr'.over; clear hr')
      go_loopw [6, 21] (fun u i wr => PackRel l v w u i wr) (fun _ i _ => (l.length - intOf i).toNat)
      case atStart => exact ⟨0, by omega, FitTo.zero l v, by rw [packTo, U_0], rfl, over_of (over_below _ _)⟩
      case round =>
        obtain ⟨k, hk, hto, rfl, rfl, s, rfl⟩ := hrel
        have HT := Lib.hid hto
        clear hto
        by_cases hlt : k < l.length
        · obtain ⟨b, off, rfl, hb, hcells⟩ := HC.out (by omega)
          obtain ⟨b1, off1, rfl, hb1, hcells1⟩ := HC1.out (by omega)
          obtain ⟨c1, c2⟩ := hcells k hlt
          have c3 := hcells1 k hlt
          clear hcells hcells1 HC HC1
          have hf : Fm (fA l k) (fB l k) := (HY.out k hlt).1
          by_cases t1 : U (mostN (fB l k)) < U (uN v k)
          · have E := hs.out.no (fun h => by have := h.2.2 k hlt; omega)
            clear HT
            go_wp2
            first | refine wp_region_over2 (by kernel_rfl) (by kernel_rfl) ?_ | refine wp_region_over (by kernel_rfl) (by kernel_rfl) ?_
            repeat (go_big_quiet_step ((go_at_call 108; exact over_call (most_yes _ _ _ hf))))
            refine wpQuiet_nil ?_
            intro _ hw'
            obtain ⟨s1, hw''⟩ := hw'
            subst hw''
            go_wp2
            go_ret2
            exact Ret.two E.out.1 E.out.2 (by repeat (first | exact ext_refl _ | apply ext_over | apply ext_alloc))
          · have t2 : decide (U (mostN (fB l k)) < U (uN v k)) = false := by simpa using t1
            have E : Hid (FitTo l v (k + 1)) := Lib.hid (FitTo.succ HT.out (by omega))
            clear HT t1
            go_wp2
            first | refine wp_region_over2 (by kernel_rfl) (by kernel_rfl) ?_ | refine wp_region_over (by kernel_rfl) (by kernel_rfl) ?_
            repeat (go_big_quiet_step ((go_at_call 108; exact over_call (most_yes _ _ _ hf))))
            refine wpQuiet_nil ?_
            intro _ hw'
            obtain ⟨s1, hw''⟩ := hw'
            subst hw''
            go_wp2
            first | refine wp_region_over2 (by kernel_rfl) (by kernel_rfl) ?_ | refine wp_region_over (by kernel_rfl) (by kernel_rfl) ?_
            repeat (go_big_quiet_step ((go_at_call 109; exact over_call (put_yes _ _ _ _ _ hf))))
            refine wpQuiet_nil ?_
            intro _ hw'
            obtain ⟨s2, hw''⟩ := hw'
            subst hw''
            go_wp2
            exact ⟨⟨k + 1, by omega, E.out, rfl, by go_num, over_of (by repeat (first | exact ext_refl _ | apply ext_over | apply ext_alloc))⟩, by simp [intOf]; omega⟩
        · obtain rfl : k = l.length := by omega
          have E := hs.out.yes ⟨HY.out, HL.out, HT.out⟩
          clear HT
          go_wp2
          go_ret2
          exact Ret.two E.out.1 E.out.2 (by repeat (first | exact ext_refl _ | apply ext_over | apply ext_alloc))
    · have E := hs.out.no (fun h => hlen h.2.1)
      have HY := Lib.hid hlay
      have HFs := Lib.hid hF
      obtain ⟨a0, cap, rfl, hc, hcell⟩ := hF
      obtain ⟨a1, cap1, rfl, hc1, hcell1⟩ := hU
      clear hcell hcell1
      have q1 : ((v.length : Int) != (l.length : Int)) = true := by rw [bne_iff_ne]; omega
      have q2 : (v.length != l.length) = true := by rw [bne_iff_ne]; omega
      clear hlen hlay
      go_enter Tryz.func70, Tryz.ntmps70
      go_wp2_with (go_at_call 107; refine (formedL_any l _ _ true (by exact Lib.hid (by simp [HY.out])) hl HFs.out).mono ?_; rintro e w' hr'; obtain ⟨rfl, s, rfl⟩ := hr'.over; clear hr')
      go_ret2
      exact Ret.two E.out.1 E.out.2 (by repeat (first | exact ext_refl _ | apply ext_over | apply ext_alloc))
  · have E := hs.out.no (fun h => hlay h.1)
    have HY := Lib.hid hlay
    have HFs := Lib.hid hF
    clear hlay hF hU
    go_enter Tryz.func70, Tryz.ntmps70
    go_wp2_with (go_at_call 107; refine (formedL_any l _ _ false (by exact Lib.hid (by simp [HY.out])) hl HFs.out).mono ?_; rintro e w' hr'; obtain ⟨rfl, s, rfl⟩ := hr'.over; clear hr')
    go_ret2
    exact Ret.two E.out.1 E.out.2 (by repeat (first | exact ext_refl _ | apply ext_over | apply ext_alloc))

end Go.Proofs.YtlapcocljjgjlaaGreat

/-
  What the call of Split comes to. Conditions: those of the theorem.
-/
namespace Go.Proofs.YtlapcocljjgjlaaGreat
open Go Go.RowKit

theorem Tryz.info24s : (Tryz.prog.info? 35).map (fun i => (i.zero, i.size, i.bytes)) = some (some (.int .u64 0), 1, 8) := by kernel_rfl

/-- The loop of Split: the first k numbers stand in the row g. -/
def SplRel (l : List (Int × Int)) (x : BitVec 64) (g : Nat) (w : World) (i : Value) (wr : World) : Prop :=
  ∃ k : Nat, k ≤ l.length ∧ i = .int .i64 k ∧ wr.ownsRow w.heap.size 35 1 (.slice (some ⟨g, 0, none⟩) l.length l.length) l.length (fillTo (splitL l x) k) ∧ Ext w wr

set_option maxHeartbeats 1000000 in
theorem split_any (l : List (Int × Int)) (lv : Value) (x : BitVec 64) (w : World) (r : List (BitVec 64)) (e : Int) (hs : Hid (SplitSpec l x r e)) (hl : l.length ≤ 64) (hF : Fs w lv l) :
    Calls Tryz.prog 140 #[lv, .int .u64 (U x)] w (RetSp r e w) := by
  by_cases hlay : LayF l
  · have HV : Hid (CovSpec l (covTo l l.length) true) := ⟨fun _ => ⟨rfl, rfl⟩, fun hn => absurd hlay hn⟩
    by_cases hz : x &&& ~~~ (covTo l l.length) = 0#64
    · have E : Hid (r = splitL l x ∧ e = 0) := Lib.hid (hs.out.2.2 hlay hz)
      have q1 := U_eq0 _ hz
      have HY := Lib.hid hlay
      obtain ⟨i24, hi24, hy0, hy1, hy2⟩ := info_parts Tryz.info24s
      have HFs := Lib.hid hF
      obtain ⟨a0, cap, rfl, hc, hcell⟩ := hF
      clear hcell hz hlay
      go_enter Tryz.func140, Tryz.ntmps140
      go_wp2_with (first
        | (go_at_call 136; refine (cover_any l _ _ _ _ HV hl HFs.out).mono ?_; rintro e w' hr'; obtain ⟨rfl, s, rfl⟩ := hr'.over; clear hr')
        | (at_make; refine wpList_make_full _ rfl (.tmp 23) (.tmp 23) 92 rfl w.heap.size 35 i24 (.int .u64 0) 1 Tryz.underlying92 hi24 hy0 hy1 .i64 .i64 l.length l.length l.length rfl rfl rfl rfl (by rw [hy2]; omega) (by unfold maxLen; omega) (over_size _ _) ?_; intro w1 ho1 hg1; have HO1 := Lib.hid ho1; have HX1 := Lib.hid (ext_grown0 (over_below _ _) hg1); clear ho1 hg1))
      have hg : w.heap.size ≤ (over w s).heap.size := over_size _ _
      generalize (over w s).heap.size = g at HO1 hg ⊢
      have HO2 : Hid (w1.ownsRow w.heap.size 35 1 (.slice (some ⟨g, 0, none⟩) l.length l.length) l.length (fillTo (splitL l x) 0)) := by
        have h := HO1.out
        rw [Nat.mul_one] at h
        rw [fill_zero, splitL_len]
        have e1 : (madeCells (Value.int IntKind.u64 0).cells l.length).toList = List.replicate l.length (Value.int .u64 0) := toList_madeCells_one _ _
        rw [e1] at h
        exact h
      clear HO1
      go_loopw [27] (fun i wr => SplRel l x g w i wr) (fun i _ => (l.length - intOf i).toNat)
      case atStart => exact ⟨0, by omega, rfl, HO2.out, HX1.out⟩
      case round =>
        obtain ⟨k, hk, rfl, ho, hx⟩ := hrel
        have HX := Lib.hid hx
        have HO := Lib.hid ho
        by_cases hlt : k < l.length
        · obtain ⟨b, off, rfl, hb, hcells⟩ := (HFs.out.ext hx).at (by omega)
          obtain ⟨c1, c2⟩ := hcells k hlt
          have hf : Fm (fA l k) (fB l k) := (HY.out k hlt).1
          have es := splitL_at l x k hlt
          have HE := Lib.hid es
          clear hcells ho hx HO2 HX1 es
          go_wp2_with (go_at_call 59; refine (get_yes _ _ _ _ hf).mono ?_; rintro e w' hr'; obtain ⟨rfl, hbx⟩ := hr'; have HO3 := Lib.hid (own_ext (HO.out.alloc _) hbx); have HX3 := Lib.hid (ext_trans (ext_alloc _ HX.out) hbx); have fz := HO3.out.frozenAt k; have cc := HO3.out.cellAt k (by omega); rw [List.getElem?_eq_getElem (by rw [fill_len, splitL_len]; omega)] at cc; clear hbx)
          have hst := (HO3.out.stored k (Value.int .u64 (U (getN (fA l k) (fB l k) x)))).1
          have ew : Value.int .u64 (U (getN (fA l k) (fB l k) x)) = WU (uN (splitL l x) k) := by rw [HE.out]; rfl
          have hst2 : (w'.setCell ⟨g, k, none⟩ (Value.int .u64 (U (getN (fA l k) (fB l k) x)))).ownsRow w.heap.size 35 1 (.slice (some ⟨g, 0, none⟩) l.length l.length) l.length (fillTo (splitL l x) (k + 1)) := by
            rw [← fill_set, ← ew]; exact hst
          exact ⟨⟨k + 1, by omega, by go_num, hst2, ext_set _ hg HX3.out⟩, by simp [intOf]; omega⟩
        · obtain rfl : k = l.length := by omega
          have hU : Hid (Us wr (.slice (some ⟨g, 0, none⟩) l.length l.length) r) := by
            refine Lib.hid (us_of_own (base := w.heap.size) (e := 35) ?_)
            rw [E.out.1, ← fill_all, splitL_len]
            exact ho
          clear ho hx HO2 HX1
          go_wp2
          go_ret2
          exact RetSp.some E.out.2.symm HX.out hU.out
    · have E : Hid (r = [] ∧ e = 10) := Lib.hid (hs.out.2.1 hlay hz)
      have q1 := U_ne0 _ hz
      have HFs := Lib.hid hF
      clear hF hz hlay
      go_enter Tryz.func140, Tryz.ntmps140
      go_wp2_with (go_at_call 136; refine (cover_any l _ _ _ _ HV hl HFs.out).mono ?_; rintro e w' hr'; obtain ⟨rfl, s, rfl⟩ := hr'.over; clear hr')
      go_ret2
      exact RetSp.none E.out.1 E.out.2.symm (by repeat (first | exact ext_refl _ | apply ext_over | apply ext_alloc))
  · have HV : Hid (CovSpec l 0#64 false) := ⟨fun hn => absurd hn hlay, fun _ => ⟨rfl, rfl⟩⟩
    have E : Hid (r = [] ∧ e = 1) := Lib.hid (hs.out.1 hlay)
    have HFs := Lib.hid hF
    clear hF hlay
    go_enter Tryz.func140, Tryz.ntmps140
    go_wp2_with (go_at_call 136; refine (cover_any l _ _ _ _ HV hl HFs.out).mono ?_; rintro e w' hr'; obtain ⟨rfl, s, rfl⟩ := hr'.over; clear hr')
    go_ret2
    exact RetSp.none E.out.1 E.out.2.symm (by repeat (first | exact ext_refl _ | apply ext_over | apply ext_alloc))

end Go.Proofs.YtlapcocljjgjlaaGreat

/-
  What the calls of package state come to. Conditions: those of each theorem.
-/
namespace Go.Proofs.YtlapcocljjgjlaaGreat
open Go Go.RowKit

/-- The value of a state. -/
abbrev stV (s : St) : Value := .agg #[.int .i64 s.g, .int .i64 s.m, .int .i64 s.k]

set_option maxHeartbeats 400000 in
theorem upTo_any (n most : Int) (w : World) : Calls Tryz.prog 71 #[.int .i64 n, .int .i64 most] w (Ret (.bool (upF n most)) w) := by
  by_cases h1 : 0 ≤ n
  · by_cases h2 : n ≤ most
    · rw [upF_yes h1 h2]
      go_enter Tryz.func71, Tryz.ntmps71
      go_wp2
      go_ret
      exact Ret.mk (by repeat (first | exact ext_refl _ | apply ext_over | apply ext_alloc | (refine ext_set _ ?_ ?_; exact Nat.le_refl _)))
    · rw [upF_no fun h => h2 h.2]
      have h3 : decide (n ≤ most) = false := by simpa using h2
      clear h2
      go_enter Tryz.func71, Tryz.ntmps71
      go_wp2
      go_ret
      exact Ret.mk (by repeat (first | exact ext_refl _ | apply ext_over | apply ext_alloc | (refine ext_set _ ?_ ?_; exact Nat.le_refl _)))
  · rw [upF_no fun h => h1 h.1]
    go_enter Tryz.func71, Tryz.ntmps71
    go_wp2
    go_ret
    exact Ret.mk (by repeat (first | exact ext_refl _ | apply ext_over | apply ext_alloc | (refine ext_set _ ?_ ?_; exact Nat.le_refl _)))

set_option maxHeartbeats 400000 in
theorem sformed_yes (s : St) (h : s.ok) (w : World) : Calls Tryz.prog 27 #[stV s] w (Ret (.bool true) w) := by
  have ⟨h1, h2, h3, h4, h5, h6⟩ := h
  have e1 := upF_yes h1 h2
  have e2 := upF_yes h3 h4
  have e3 := upF_yes h5 h6
  clear h h1 h2 h3 h4 h5 h6
  go_enter Tryz.func27, Tryz.ntmps27
  go_wp2_with (go_at_call 71; refine (upTo_any _ _ _).mono ?_; rintro e w' hr; obtain ⟨rfl, s, rfl⟩ := hr.over; clear hr)
  go_ret
  exact Ret.mk (by repeat (first | exact ext_refl _ | apply ext_over | apply ext_alloc | (refine ext_set _ ?_ ?_; exact Nat.le_refl _)))

set_option maxHeartbeats 400000 in
theorem sformed_no (s : St) (h : ¬ s.ok) (w : World) : Calls Tryz.prog 27 #[stV s] w (Ret (.bool false) w) := by
  by_cases c1 : 0 ≤ s.g ∧ s.g ≤ 1073741823
  · have e1 := upF_yes c1.1 c1.2
    by_cases c2 : 0 ≤ s.m ∧ s.m ≤ 3
    · have e2 := upF_yes c2.1 c2.2
      have e3 : upF s.k 2 = false := upF_no fun c3 => h ⟨c1.1, c1.2, c2.1, c2.2, c3.1, c3.2⟩
      clear h c1 c2
      go_enter Tryz.func27, Tryz.ntmps27
      go_wp2_with (go_at_call 71; refine (upTo_any _ _ _).mono ?_; rintro e w' hr; obtain ⟨rfl, s, rfl⟩ := hr.over; clear hr)
      go_ret
      exact Ret.mk (by repeat (first | exact ext_refl _ | apply ext_over | apply ext_alloc | (refine ext_set _ ?_ ?_; exact Nat.le_refl _)))
    · have e2 := upF_no c2
      clear h c1 c2
      go_enter Tryz.func27, Tryz.ntmps27
      go_wp2_with (go_at_call 71; refine (upTo_any _ _ _).mono ?_; rintro e w' hr; obtain ⟨rfl, s, rfl⟩ := hr.over; clear hr)
      go_ret
      exact Ret.mk (by repeat (first | exact ext_refl _ | apply ext_over | apply ext_alloc | (refine ext_set _ ?_ ?_; exact Nat.le_refl _)))
  · have e1 := upF_no c1
    clear h c1
    go_enter Tryz.func27, Tryz.ntmps27
    go_wp2_with (go_at_call 71; refine (upTo_any _ _ _).mono ?_; rintro e w' hr; obtain ⟨rfl, s, rfl⟩ := hr.over; clear hr)
    go_ret
    exact Ret.mk (by repeat (first | exact ext_refl _ | apply ext_over | apply ext_alloc | (refine ext_set _ ?_ ?_; exact Nat.le_refl _)))

theorem sformed_is (s : St) (w : World) (r : Bool) (hr : Hid (r = true ↔ s.ok)) : Calls Tryz.prog 27 #[stV s] w (Ret (.bool r) w) := by
  by_cases h : s.ok
  · rw [hr.out.2 h]
    exact sformed_yes s h w
  · have e : r = false := by
      cases r
      · rfl
      · exact absurd (hr.out.1 rfl) h
    rw [e]
    exact sformed_no s h w

set_option maxHeartbeats 400000 in
theorem freed_any (s : St) (most : Int) (w : World) : Calls Tryz.prog 29 #[stV s, .int .i64 most] w (Ret (stV (s.freed most)) w) := by
  by_cases h : most ≤ s.g
  · have e : s.freed most = ⟨s.g, 3, 0⟩ := by unfold St.freed; rw [if_pos h]
    rw [e]
    clear e
    go_enter Tryz.func29, Tryz.ntmps29
    go_wp2
    refine bodyPost_ret (v := stV ⟨s.g, 3, 0⟩) (by simp [results, Tryz.results29, go_sem]) rfl (Ret.mk (by repeat (first | exact ext_refl _ | apply ext_over | apply ext_alloc | (refine ext_set _ ?_ ?_; exact Nat.le_refl _))))
  · have e : s.freed most = ⟨wrap64 (s.g + 1), 0, 0⟩ := by unfold St.freed; rw [if_neg h]
    rw [e]
    clear e
    go_enter Tryz.func29, Tryz.ntmps29
    go_wp2
    refine bodyPost_ret (v := stV ⟨wrap64 (s.g + 1), 0, 0⟩) (by simp [results, Tryz.results29, go_sem]) rfl (Ret.mk (by repeat (first | exact ext_refl _ | apply ext_over | apply ext_alloc | (refine ext_set _ ?_ ?_; exact Nat.le_refl _))))

/-- The value of the array of fields. -/
abbrev layV : Value := .agg #[.int .i64 0, .int .i64 30, .int .i64 30, .int .i64 2, .int .i64 32, .int .i64 2]
set_option maxHeartbeats 400000 in
theorem slayout_any (w : World) : Calls Tryz.prog 68 #[] w (Ret layV w) := by
  go_enter Tryz.func68, Tryz.ntmps68
  go_wp2
  refine bodyPost_ret (v := layV) (by simp [results, Tryz.results68, go_sem]) rfl (Ret.mk (by repeat (first | exact ext_refl _ | apply ext_over | apply ext_alloc | (refine ext_set _ ?_ ?_; exact Nat.le_refl _))))

/-- The value of the array of numbers. -/
abbrev numV (s : St) : Value := .agg #[.int .u64 (U (bvI s.g)), .int .u64 (U (bvI s.m)), .int .u64 (U (bvI s.k))]
set_option maxHeartbeats 400000 in
theorem numbers_any (s : St) (h : s.ok) (w : World) : Calls Tryz.prog 69 #[stV s] w (Ret (numV s) w) := by
  obtain ⟨h1, h2, h3, h4, h5, h6⟩ := h
  unfold numV
  rw [U_bvI _ h1 (by omega), U_bvI _ h3 (by omega), U_bvI _ h5 (by omega)]
  go_enter Tryz.func69, Tryz.ntmps69
  go_wp2
  refine bodyPost_ret (v := .agg #[.int .u64 s.g, .int .u64 s.m, .int .u64 s.k]) (by simp [results, Tryz.results69, go_sem]) rfl (Ret.mk (by repeat (first | exact ext_refl _ | apply ext_over | apply ext_alloc | (refine ext_set _ ?_ ?_; exact Nat.le_refl _))))

end Go.Proofs.YtlapcocljjgjlaaGreat

/-
  A region that draws its order, where more than one that writes, makes or calls may come up: one walk for each order of these. Conditions: those of each theorem.
-/
namespace Go.Proofs.YtlapcocljjgjlaaGreat
open Go Go.RowKit

section
variable {P : Program} {ops : Array Oper} {Q : Exit → Act → World → Prop} {S : World → Prop}
/-- Whatever comes up next, but for those of ex, it is well. -/
def Ways (P : Program) (ops : Array Oper) (Q : Exit → Act → World → Prop) (S : World → Prop) (ex : List Nat) (listed : Array Bool) (f : Nat) (a : Act) (w : World) : Prop :=
  Closed ops listed → S w → (ex = [] → wpAnyX P ops Q [] f S listed a w) ∧
    (0 < f → ∀ j ∈ Region.ready .any ops listed, j ∉ ex → wpOp P ops Q j (fun a' w' => S w' ∧ wpAnyX P ops Q [] (f - 1) S (listed.setIfInBounds j true) a' w') a w)

theorem op_of_list {K : Act → World → Prop} {K' : Act → World → Prop} {i : Nat} {o : Oper} {a : Act} {w : World} (ho : ops[i]? = some o) (hk : ∀ a w, S w → K a w → K' a w)
    (h : wpList P ops (mixQ Q S K) (pickL ops.toList [i]) a w) : wpOp P ops Q i K' a w := by
  rw [pick_at ho] at h
  simp only [pickL, List.map_nil, wpList] at h
  unfold wpOp
  simp only [ho]
  split
  · rename_i hw
    rw [if_pos hw] at h
    rcases h with h | ⟨h5, h6⟩
    · exact .inl (op_mix (Q' := mixQ Q S K) (fun e a w he hh => by cases e <;> first | exact hh | exact absurd rfl he) (fun a w hh => hk a w hh.1 hh.2) h)
    · obtain ⟨a6, w6, h7⟩ := h6
      exact .inr ⟨h5, a6, w6, h7⟩
  · rename_i hw
    rw [if_neg hw] at h
    exact hk _ _ h.1 h.2

theorem ways_end {listed : Array Bool} {f : Nat} {a : Act} {w : World} (hB : (Region.ready .any ops listed).isEmpty = true) (h : Q .normal a w) : Ways P ops (calm Q) S [] listed f a w := fun _ _ => by
  have hr := List.isEmpty_iff.1 hB
  exact ⟨fun _ => x_done (Q := calm Q) hr h _, fun _ j hj => by rw [hr] at hj; cases hj⟩
theorem ways_reads {listed : Array Bool} {f : Nat} {a : Act} {w : World} (is : List Nat) (hB : (Region.noSelect ops && (takeB ops [] is listed).isSome && decide (is.length ≤ f)) = true)
    (h : wpQuiet P ops S (fun a' => Ways P ops (calm Q) S [] ((takeB ops [] is listed).getD listed) (f - is.length) a' w) (pickL ops.toList is) a) : Ways P ops (calm Q) S [] listed f a w := fun hcl hS => by
  simp only [Bool.and_eq_true, decide_eq_true_eq] at hB
  obtain ⟨⟨hs, h1⟩, h2⟩ := hB
  obtain ⟨listed', ht⟩ := Option.isSome_iff_exists.1 h1
  have main : wpAnyX P ops (calm Q) [] f S listed a w := by
    rw [show f = is.length + (f - is.length) by omega]
    refine x_take hs (fun _ _ _ _ _ h => h) hS _ listed' (fun a' hcl' ha => ?_) is listed a hcl ht h
    have := (ha : Ways P ops (calm Q) S [] ((takeB ops [] is listed).getD listed) (f - is.length) a' w)
    rw [ht] at this
    exact (this hcl' hS).1 rfl
  refine ⟨fun _ => main, fun h0 j hj _ => ?_⟩
  obtain ⟨f', rfl⟩ : ∃ f', f = f' + 1 := ⟨f - 1, by omega⟩
  have := main.2 j hj
  simp only [List.contains_nil, Bool.false_eq_true, if_false] at this
  exact this
theorem ways_act {listed : Array Bool} {f : Nat} {a : Act} {w : World} {ex : List Nat} (i : Nat) (hB : (decide ((Region.ready .any ops listed).filter (fun j => !ex.contains j) = [i]) && (ops[i]?).isSome && decide (0 < f)) = true)
    (h : wpList P ops (mixQ (calm Q) S (Ways P ops (calm Q) S [] (listed.setIfInBounds i true) (f - 1))) (pickL ops.toList [i]) a w) : Ways P ops (calm Q) S ex listed f a w := fun hcl hS => by
  simp only [Bool.and_eq_true, decide_eq_true_eq] at hB
  obtain ⟨⟨h1, h2⟩, h3⟩ := hB
  obtain ⟨o, ho⟩ := Option.isSome_iff_exists.1 h2
  obtain ⟨f', rfl⟩ : ∃ f', f = f' + 1 := ⟨f - 1, by omega⟩
  have hi : i ∈ Region.ready .any ops listed := by
    have : i ∈ (Region.ready .any ops listed).filter (fun j => !ex.contains j) := by rw [h1]; simp
    exact (List.mem_filter.1 this).1
  have main : ∀ j ∈ Region.ready .any ops listed, j ∉ ex → wpOp P ops (calm Q) j (fun a' w' => S w' ∧ wpAnyX P ops (calm Q) [] f' S (listed.setIfInBounds j true) a' w') a w := fun j hj hne => by
    have : j ∈ (Region.ready .any ops listed).filter (fun j => !ex.contains j) := List.mem_filter.2 ⟨hj, by simpa using hne⟩
    rw [h1] at this
    obtain rfl : j = i := by simpa using this
    exact op_of_list ho (fun a' w' hS' hk => ⟨hS', (hk (hcl.set hi) hS').1 rfl⟩) h
  refine ⟨fun he => ⟨fun h0 => (by rw [h0] at hi; cases hi), fun j hj => ?_⟩, fun _ => main⟩
  simp only [List.contains_nil, Bool.false_eq_true, if_false]
  exact main j hj (by rw [he]; simp)
theorem ways_fork {listed : Array Bool} {f : Nat} {a : Act} {w : World} {ex : List Nat} (i : Nat) (hB : ((Region.ready .any ops listed).contains i && (ops[i]?).isSome && decide (0 < f)) = true)
    (h : wpList P ops (mixQ (calm Q) S (Ways P ops (calm Q) S [] (listed.setIfInBounds i true) (f - 1))) (pickL ops.toList [i]) a w) (h' : Ways P ops (calm Q) S (i :: ex) listed f a w) : Ways P ops (calm Q) S ex listed f a w := fun hcl hS => by
  simp only [Bool.and_eq_true, decide_eq_true_eq] at hB
  obtain ⟨⟨h1, h2⟩, h3⟩ := hB
  obtain ⟨o, ho⟩ := Option.isSome_iff_exists.1 h2
  have hi : i ∈ Region.ready .any ops listed := by simpa using h1
  obtain ⟨f', rfl⟩ : ∃ f', f = f' + 1 := ⟨f - 1, by omega⟩
  have hq := h' hcl hS
  have main : ∀ j ∈ Region.ready .any ops listed, j ∉ ex → wpOp P ops (calm Q) j (fun a' w' => S w' ∧ wpAnyX P ops (calm Q) [] f' S (listed.setIfInBounds j true) a' w') a w := fun j hj hne => by
    by_cases e : j = i
    · subst e
      exact op_of_list ho (fun a' w' hS' hk => ⟨hS', (hk (hcl.set hi) hS').1 rfl⟩) h
    · exact hq.2 (by omega) j hj (by simp [e, hne])
  refine ⟨fun he => ⟨fun h0 => (by rw [h0] at hi; cases hi), fun j hj => ?_⟩, fun _ => main⟩
  simp only [List.contains_nil, Bool.false_eq_true, if_false]
  exact main j hj (by rw [he]; simp)

/-- The region, by its ways. -/
theorem wp_region_ways {id : Nat} {a : Act} {w : World} {l : List Oper} (S : World → Prop) (hm : P.follows .mixedOrders = true)
    (hS : S w.drew) (h : Ways P l.toArray (calm Q) S [] (Array.replicate l.toArray.size false) l.toArray.size a w.drew) : (Code.region id l.toArray true).wp P Q a w :=
  Code.wp_mono calm_out (wp_region_any hm (any_of_x (late := []) _ S _ _ _ ((h (Closed.none _) hS).1 rfl)))
end
end Go.Proofs.YtlapcocljjgjlaaGreat
