/-
  ProgRuns: the call's ways, walked. Conditions: those of each theorem.
-/
import Derived.Test.YtmianpfomoghjaaProgRRun
import Derived.Test.YtmianpfomoghjaaProgSame
namespace Go.Proofs.Ytmianpfomoghjaa
open Go Go.RowKit

theorem rnew_row (l : List Int) (cs : Array Value) (n : Nat) (w : World) (hcs : cs = (l.map fun x => Value.int .i64 x).toArray) (hn : n = l.length) (hok : SizesOk l) :
    Calls Try.prog 11 #[.slice (some ⟨w.heap.size, 0, none⟩) n n] (w.alloc (.cells cs 3)) (RetRNew l (w.alloc (.cells cs 3))) := by
  subst hcs hn
  exact rnew_yes l _ _ hok (is_new w l 3)
def RunsRel (lo hi : Nat) (L : Lay) (R : RL) (M : MS) (bx : Nat) (w : World) (i : Value) (wr : World) : Prop :=
  ∃ k : Nat, k ≤ 8 ∧ i = .int .i64 (k : Int) ∧ MemIn lo hi L M wr ∧ RefIn (fun _ => True) R M wr ∧ BoxV bx R M wr ∧ Ext w wr

set_option maxRecDepth 8000 in
set_option maxHeartbeats 4000000 in
theorem progRuns_small (l : List Acc) (a0 : Option Addr) (cap : Nat) (most : Int) (w : World) (hl : l.length ≤ 40) (hA : Hid (AsB (fun _ => False) w (.slice a0 l.length cap) l)) :
    Calls Try.prog 3 #[.slice a0 l.length cap, .int .i64 most] w (Ret (.bool true) w) := by
  have q0 : decide (40 < (l.length : Int)) = false := by simp; omega
  obtain ⟨F, hF⟩ : ∃ F, runF 0 1#64 l most.toNat (M0 [8] 1) = F := ⟨_, rfl⟩
  have HFE := Lib.hid hF
  have hlen := run_len (r := 0) (e := 1#64) (l := l) (k := most.toNat) (M := M0 [8] 1)
  have hct := run_ct (r := 0) (e := 1#64) (l := l) (k := most.toNat) (M := M0 [8] 1) (by decide) (by show (0 : Int) + l.length < 1000000; omega)
  have h8 : Mem8 F.1 := by rw [← hF]; exact Mem8.zero.run
  rw [hF] at hlen hct
  have HLEN := Lib.hid hlen.1
  have HCT : Hid (F.1.ct = (F.2.1.length : Int)) := Lib.hid (by rw [hct]; show (0 : Int) + _ = _; omega)
  have H8 := Lib.hid h8
  clear hF hlen hct h8
  go_enter Try.func3, Try.ntmps3
  go_wp2_with (first
    | (go_at_call 9; refine (awake_any _).mono ?_; rintro e w' hr'; obtain ⟨rfl, s, rfl⟩ := hr'.over; clear hr')
    | (go_at_call 10; refine (new_law [8] _ _ (over_below w s) rfl rfl ok8).mono ?_; rintro e X ⟨lo, hi, L, rfl, hM, hX, hlo⟩; have HM : Hid (MemIn lo hi L (M0 [8] 1) X) := Lib.hid hM; have HX := Lib.hid hX; clear hM hX)
    | (go_at_call 11; refine (rnew_row [8] _ _ X rfl rfl ok8).mono ?_; rintro e X2 ⟨R, rfl, hr, hx⟩; have HR : Hid (RefIn (X.heap.size + 1 ≤ ·) R (M0 [8] 1) X2) := Lib.hid (by simpa using hr); have HX2 := Lib.hid (ext_trans (ext_alloc _ (ext_refl X)) hx); clear hr hx; unfold refV)
    | (go_at_call 12; refine (cap_int ((HM.out.ext HX2.out).alloc _) 0 1#64 (by decide) (by decide) (Lib.hid rfl)).mono ?_; rintro e w' hr'; obtain ⟨rfl, s1, rfl⟩ := hr'.over; clear hr'; refine Hid.out ?_))
  refine Lib.hid ?_
  have HBX := Lib.hid ((((box_new X2 R (M0 [8] 1) 32).out.ext (over_below _ s1))).ext (ext_alloc (.cells #[.int .i64 0, .int .u64 (U 1#64)] 37) (ext_refl _)))
  have HEW : Hid (Ext X2 ((over (X2.alloc (.cells #[.slice R.wa (M0 [8] 1).n R.wc, .slice R.ea (M0 [8] 1).n R.ec, .int .i64 (M0 [8] 1).ct] 32)) s1).alloc (.cells #[.int .i64 0, .int .u64 (U 1#64)] 37))) := Lib.hid (ext_alloc _ (ext_over s1 (ext_alloc _ (ext_refl X2))))
  have HCP := heap_at (over (X2.alloc (.cells #[.slice R.wa (M0 [8] 1).n R.wc, .slice R.ea (M0 [8] 1).n R.ec, .int .i64 (M0 [8] 1).ct] 32)) s1) (.cells #[.int .i64 0, .int .u64 (U 1#64)] 37) _ rfl
  have hcb : hi ≤ (over (X2.alloc (.cells #[.slice R.wa (M0 [8] 1).n R.wc, .slice R.ea (M0 [8] 1).n R.ec, .int .i64 (M0 [8] 1).ct] 32)) s1).heap.size := by
    have h1 := HM.out.top
    have h2 := HX2.out.size
    have h3 := over_size (X2.alloc (.cells #[.slice R.wa (M0 [8] 1).n R.wc, .slice R.ea (M0 [8] 1).n R.ec, .int .i64 (M0 [8] 1).ct] 32)) s1
    simp at h3
    omega
  have hbw : hi ≤ X2.heap.size := by have h1 := HM.out.top; have h2 := HX2.out.size; omega
  have HHX := Lib.hid HM.out.top
  go_wp2
  generalize (over (X2.alloc (.cells #[.slice R.wa (M0 [8] 1).n R.wc, .slice R.ea (M0 [8] 1).n R.ec, .int .i64 (M0 [8] 1).ct] 32)) s1).alloc (.cells #[.int .i64 0, .int .u64 (U 1#64)] 37) = W at HBX HEW HCP ⊢
  generalize (over (X2.alloc (.cells #[.slice R.wa (M0 [8] 1).n R.wc, .slice R.ea (M0 [8] 1).n R.ec, .int .i64 (M0 [8] 1).ct] 32)) s1).heap.size = cb at HCP hcb ⊢
  have HMW := Lib.hid ((HM.out.ext HX2.out).ext HEW.out)
  have HRW := Lib.hid (HR.out.ext HEW.out)
  have HXW := Lib.hid (ext_trans (ext_trans HX.out HX2.out) HEW.out)
  generalize X2.heap.size = bw at HBX hbw ⊢
  have cp0 := cell_at (o := 0) HCP rfl
  have cp1 := cell_at (o := 1) HCP rfl
  have lc := heap_lt HCP
  have HCPH := Lib.hid HCP
  clear HCP HM HR HX HX2 HEW s1 X2
  refine wp_region_mix (fun w' => ∃ s, w' = off lo hi W s) [(0, [0, 2, 3, 4]), (1, [1]), (1, [5]), (0, [6, 7, 8, 9, 10, 11, 12])] (by kernel_rfl) (by kernel_rfl) (off_of (.of_ext (ext_drew (ext_refl W)))) ?_
  simp only [pieces, pickL, List.map_cons, List.map_nil, List.getD_cons_zero, List.getD_cons_succ]
  refine mix_reads ?_
  repeat (go_big_quiet_step (fail))
  refine wpQuiet_nil (mix_acts ?_)
  go_wp2_with (go_at_call 14; refine (list_any (fun k => lo ≤ k ∧ k < hi) l _ _ (hA.out.ext (ext_drew HXW.out)) (by omega) (fun k hk => by have := HMW.out.top; simp; omega)).mono ?_; rintro e w1 ⟨v1, rfl, hx, hp⟩; have HP := Lib.hid hp; have HX2 := Lib.hid (ext_trans (ext_drew (ext_refl W)) hx); clear hp hx)
  refine mixQ_mk (off_of (.of_ext HX2.out)) (mix_acts ?_)
  have HM2 := Lib.hid (HMW.out.ext HX2.out)
  go_wp2_with (go_at_call 13; refine (run_at (fun k => lo ≤ k ∧ k < hi) l [] v1 0 1#64 most w1 F HFE HP.out.h HM2.out (by simp; omega) (fun k h1 h2 => ⟨h1, h2⟩) (fun k hk => by have := HM2.out.top; omega)).mono ?_; rintro e w2 ⟨rv, rfl, hm, hf, hu1, hu2⟩; have HM3 := Lib.hid hm; have HF3 := Lib.hid ((Fr.of_ext HX2.out).trans hf); have HU1 := Lib.hid hu1; have HU2 := Lib.hid hu2; clear hm hf hu1 hu2)
  refine mixQ_mk (off_of HF3.out) (mix_reads ?_)
  repeat (go_big_quiet_step (fail))
  refine wpQuiet_nil (mix_end ?_)
  have HR3 := Lib.hid (HRW.out.fr HF3.out (fun b hb => .inr (by have := HHX.out; omega)))
  have HB3 := Lib.hid (HBX.out.fr HF3.out (.inr hbw))
  have HX3 := Lib.hid (HF3.out.below HXW.out hlo)
  have hcp3 := (HF3.out.block _ lc (.inr hcb)).trans HCPH.out
  have cq0 := cell_at (o := 0) hcp3 rfl
  have cq1 := cell_at (o := 1) hcp3 rfl
  have lq := heap_lt hcp3
  obtain ⟨k0, k1, k2, kz⟩ := HB3.out
  have lk := cell_lt k0
  clear hcp3 cp0 cp1 lc HP HX2 HM2 HRW HBX HXW HMW HCPH HF3
  go_wp2_with (go_at_call 15; refine (rrun_any (M := M0 [8] 1) (R := R) l a0 cap 0 1#64 most w2 F HFE (by omega) (Lib.hid (hA.out.ext HX3.out)) HR3.out).mono ?_; rintro e w3 ⟨ov, R', rfl, hu, hr, hx⟩; refine Hid.out ?_)
  refine Lib.hid ?_
  obtain ⟨oa, oc, rfl, _⟩ := id hu
  have HUW := Lib.hid hu
  have HRR := Lib.hid hr
  have HMM := Lib.hid (HM3.out.ext hx)
  have HXX := Lib.hid (ext_trans HX3.out hx)
  have HX23 := Lib.hid hx
  have HBX5 := (box_new w3 R' F.1 32).out
  unfold refV
  clear hu hr hx k0 k1 k2 kz cq0 cq1 lk lq HM3 HR3 HB3 HX3
  by_cases h22 : F.2.2 = []
  · have hov : F.2.2.isEmpty = true := by rw [h22]; rfl
    have hu := (HU1.out h22).us.ext HX23.out
    rw [List.nil_append] at hu
    obtain ⟨ra, rc, rfl, _⟩ := id hu
    have HUR := Lib.hid hu
    have hn := HLEN.out
    rw [h22] at hn
    have qn : (((F.2.1.length : Nat) : Int) == ((l.length : Nat) : Int)) = true := beq_iff_eq.2 (by simp at hn; omega)
    have qn2 : (F.2.1.length == l.length) = true := beq_iff_eq.2 (by simp at hn; omega)
    have HL70 : Hid (F.2.1.length ≤ 70) := Lib.hid (by simp at hn; omega)
    clear hn h22 hu HU1 HU2 HLEN
    rw [hov]
    clear hov
    go_wp2_with (first
      | (go_at_call 16; refine (count_at (HMM.out.alloc _) ((F.2.1.length : Nat) : Int) HCT).mono ?_; rintro e w4 ⟨rfl, hx⟩; have HX4 := Lib.hid hx; clear hx)
      | (go_at_call 17; refine (same_any F.2.1 F.2.1 _ _ _ true (hid_yes rfl) HL70.out ((HUR.out.ext (ext_alloc _ (ext_refl w3))).ext HX4.out) ((HUW.out.ext (ext_alloc _ (ext_refl w3))).ext HX4.out)).mono ?_; rintro e w5 ⟨rfl, hx⟩; have HX5 := Lib.hid (ext_trans HX4.out hx); clear hx))
    have HB5 := Lib.hid ((HBX5).ext HX5.out)
    have HM5 := Lib.hid ((HMM.out.alloc (.cells #[.slice R'.wa F.1.n R'.wc, .slice R'.ea F.1.n R'.ec, .int .i64 F.1.ct] 32)).ext HX5.out)
    have HR5 := Lib.hid ((HRR.out.alloc (.cells #[.slice R'.wa F.1.n R'.wc, .slice R'.ea F.1.n R'.ec, .int .i64 F.1.ct] 32)).ext HX5.out)
    have HX6 := Lib.hid (ext_trans (ext_alloc (.cells #[.slice R'.wa F.1.n R'.wc, .slice R'.ea F.1.n R'.ec, .int .i64 F.1.ct] 32) HXX.out) HX5.out)
    generalize w3.heap.size = bx at HB5 ⊢
    clear HMM HRR HXX HUW HBX5 HX5
    generalize F.1 = MF at H8 HB5 HM5 HR5 ⊢
    go_loopw [15] (fun i wr => RunsRel lo hi L R' MF bx w i wr) (fun i _ => (8 - intOf i).toNat)
    case atStart => exact ⟨0, Nat.zero_le _, rfl, HM5.out, HR5.out, HB5.out, HX6.out⟩
    case round =>
      clear HB5 HM5 HR5 HX6
      obtain ⟨k, hk, rfl, hm, hr, hb, hx⟩ := hrel
      have HM := Lib.hid hm
      have HR := Lib.hid hr
      have HB := Lib.hid hb
      have HX := Lib.hid hx
      obtain ⟨k0, k1, k2, kz⟩ := hb
      have lk := cell_lt k0
      clear hm hr hx
      by_cases hlt : k < 8
      · have hn : 0 < MF.n := by rw [H8.out.n]; decide
        have hsz : k < MF.sz 0 := by rw [H8.out.s]; exact hlt
        have E1 : Hid (∀ Y, MemIn lo hi L MF Y → Calls Try.prog 18 #[.pointer (some ⟨L.bm, 0, none⟩), .int .i64 0, .int .i64 (k : Int)] Y (Ret (.int .u64 (U (MF.wd 0 k))) Y)) := Lib.hid fun Y hY => peek_yes hY 0 k hn hsz
        have E2 : Hid (∀ Y, RefIn (fun _ => True) R' MF Y → Calls Try.prog 19 #[.agg #[.slice R'.wa MF.n R'.wc, .slice R'.ea MF.n R'.ec, .int .i64 MF.ct], .int .i64 0, .int .i64 (k : Int)] Y (Ret (.int .u64 (U (MF.wd 0 k))) Y)) := Lib.hid fun Y hY => rpeek_yes hY 0 k hn hsz
        clear hn hsz
        go_wp2
        refine wp_region_over (by kernel_rfl) (by kernel_rfl) ?_
        repeat (go_big_quiet_step ((first | (go_at_call 18; exact over_call (E1.out _ (HM.out.over _))) | (go_at_call 19; exact over_call (E2.out _ (HR.out.over _))))))
        refine wpQuiet_nil ?_
        intro _ hw'
        obtain ⟨s2, hw''⟩ := hw'
        subst hw''
        go_wp2
        exact ⟨⟨k + 1, by omega, by go_num, HM.out.over s2, HR.out.over s2, HB.out.ext (over_below _ s2), ext_over s2 HX.out⟩, by simp [intOf]; omega⟩
      · obtain rfl : k = 8 := by omega
        have h88 : ¬ (((8 : Nat) : Int) < 8) := by decide
        go_wp2
        go_ret
        exact Ret.mk HX.out
  · have hov : F.2.2.isEmpty = false := by
      cases h : F.2.2 with
      | nil => exact absurd h h22
      | cons a l' => rfl
    have hrv := HU2.out h22
    have hn : F.2.1.length ≠ l.length := fun e => h22 (List.eq_nil_of_length_eq_zero (by have := HLEN.out; omega))
    have qn : (((F.2.1.length : Nat) : Int) == ((l.length : Nat) : Int)) = false := beq_eq_false_iff_ne.2 (by omega)
    have qn2 : (F.2.1.length == l.length) = false := beq_eq_false_iff_ne.2 hn
    subst hrv
    clear hn h22 HU1 HU2 HLEN
    rw [hov]
    clear hov
    go_wp2_with (first
      | (go_at_call 16; refine (count_at (HMM.out.alloc _) ((F.2.1.length : Nat) : Int) HCT).mono ?_; rintro e w4 ⟨rfl, hx⟩; have HX5 := Lib.hid hx; clear hx))
    have HB5 := Lib.hid ((HBX5).ext HX5.out)
    have HM5 := Lib.hid ((HMM.out.alloc (.cells #[.slice R'.wa F.1.n R'.wc, .slice R'.ea F.1.n R'.ec, .int .i64 F.1.ct] 32)).ext HX5.out)
    have HR5 := Lib.hid ((HRR.out.alloc (.cells #[.slice R'.wa F.1.n R'.wc, .slice R'.ea F.1.n R'.ec, .int .i64 F.1.ct] 32)).ext HX5.out)
    have HX6 := Lib.hid (ext_trans (ext_alloc (.cells #[.slice R'.wa F.1.n R'.wc, .slice R'.ea F.1.n R'.ec, .int .i64 F.1.ct] 32) HXX.out) HX5.out)
    generalize w3.heap.size = bx at HB5 ⊢
    clear HMM HRR HXX HUW HBX5 HX5
    generalize F.1 = MF at H8 HB5 HM5 HR5 ⊢
    go_loopw [15] (fun i wr => RunsRel lo hi L R' MF bx w i wr) (fun i _ => (8 - intOf i).toNat)
    case atStart => exact ⟨0, Nat.zero_le _, rfl, HM5.out, HR5.out, HB5.out, HX6.out⟩
    case round =>
      clear HB5 HM5 HR5 HX6
      obtain ⟨k, hk, rfl, hm, hr, hb, hx⟩ := hrel
      have HM := Lib.hid hm
      have HR := Lib.hid hr
      have HB := Lib.hid hb
      have HX := Lib.hid hx
      obtain ⟨k0, k1, k2, kz⟩ := hb
      have lk := cell_lt k0
      clear hm hr hx
      by_cases hlt : k < 8
      · have hn : 0 < MF.n := by rw [H8.out.n]; decide
        have hsz : k < MF.sz 0 := by rw [H8.out.s]; exact hlt
        have E1 : Hid (∀ Y, MemIn lo hi L MF Y → Calls Try.prog 18 #[.pointer (some ⟨L.bm, 0, none⟩), .int .i64 0, .int .i64 (k : Int)] Y (Ret (.int .u64 (U (MF.wd 0 k))) Y)) := Lib.hid fun Y hY => peek_yes hY 0 k hn hsz
        have E2 : Hid (∀ Y, RefIn (fun _ => True) R' MF Y → Calls Try.prog 19 #[.agg #[.slice R'.wa MF.n R'.wc, .slice R'.ea MF.n R'.ec, .int .i64 MF.ct], .int .i64 0, .int .i64 (k : Int)] Y (Ret (.int .u64 (U (MF.wd 0 k))) Y)) := Lib.hid fun Y hY => rpeek_yes hY 0 k hn hsz
        clear hn hsz
        go_wp2
        refine wp_region_over (by kernel_rfl) (by kernel_rfl) ?_
        repeat (go_big_quiet_step ((first | (go_at_call 18; exact over_call (E1.out _ (HM.out.over _))) | (go_at_call 19; exact over_call (E2.out _ (HR.out.over _))))))
        refine wpQuiet_nil ?_
        intro _ hw'
        obtain ⟨s2, hw''⟩ := hw'
        subst hw''
        go_wp2
        exact ⟨⟨k + 1, by omega, by go_num, HM.out.over s2, HR.out.over s2, HB.out.ext (over_below _ s2), ext_over s2 HX.out⟩, by simp [intOf]; omega⟩
      · obtain rfl : k = 8 := by omega
        have h88 : ¬ (((8 : Nat) : Int) < 8) := by decide
        go_wp2
        go_ret
        exact Ret.mk HX.out

set_option maxHeartbeats 1000000 in
theorem progRuns_great (n : Nat) (a0 : Option Addr) (cap : Nat) (most : Int) (w : World) (h : 40 < n) :
    Calls Try.prog 3 #[.slice a0 n cap, .int .i64 most] w (Ret (.bool true) w) := by
  have q0 : decide (40 < (n : Int)) = true := by simp; omega
  go_enter Try.func3, Try.ntmps3
  go_wp2_with (go_at_call 9; refine (awake_any _).mono ?_; rintro e w' hr'; obtain ⟨rfl, s, rfl⟩ := hr'.over; clear hr')
  go_ret
  exact Ret.mk (by repeat (first | exact ext_refl _ | apply ext_over))

theorem progRuns_any (f : Nat → Acc) (n : Nat) (v : Value) (most : Int) (w : World) (hf : As w v n f) : Calls Try.prog 3 #[v, .int .i64 most] w (Ret (.bool true) w) := by
  have hA := asB_of hf
  obtain ⟨a0, cap, rfl, _⟩ := id hf
  by_cases hl : n ≤ 40
  · have e1 : ((List.range n).map f).length = n := by simp
    have := progRuns_small ((List.range n).map f) a0 cap most w (by omega) (Lib.hid (by rw [e1]; exact hA))
    rwa [e1] at this
  · exact progRuns_great n a0 cap most w (by omega)

end Go.Proofs.Ytmianpfomoghjaa
