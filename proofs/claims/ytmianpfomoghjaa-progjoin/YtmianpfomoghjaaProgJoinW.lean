/-
  ProgJoin: the call's ways, walked. Conditions: those of each theorem.
-/
import Derived.Test.YtmianpfomoghjaaProgJoinC
import Derived.Test.YtmianpfomoghjaaProgHalvesW
namespace Go.Proofs.Ytmianpfomoghjaa
open Go Go.RowKit

theorem none_len {w : World} {a0 : Option Addr} {n c : Nat} {l : List Acc} (h : AsB (fun _ => False) w (.slice a0 n c) l) : a0 = none → l.length = 0 := fun e => by
  cases l with
  | nil => rfl
  | cons a l =>
    obtain ⟨b, o, e1, _⟩ := h.at (by simp)
    rw [e] at e1
    cases e1
theorem news_opt {w : World} {a0 : Option Addr} {n c : Nat} {l : List Acc} (h : AsB (fun _ => False) w (.slice a0 n c) l) : ∀ ad, a0 = some ad → ∀ j u, (l.flatMap A4)[j]? = some u → w.cell? (ad.add j) = some u := fun ad e => by
  rw [e] at h
  exact news_as h

set_option maxRecDepth 8000 in
set_option maxHeartbeats 4000000 in
theorem progJoin_small (l m : List Acc) (a0 a1 : Option Addr) (cap cap1 : Nat) (w : World) (hl : l.length ≤ 20) (hm : m.length ≤ 20) (hA : Hid (AsB (fun _ => False) w (.slice a0 l.length cap) l)) (hB : Hid (AsB (fun _ => False) w (.slice a1 m.length cap1) m)) :
    Calls Try.prog 4 #[.slice a0 l.length cap, .slice a1 m.length cap1] w (Ret (.bool true) w) := by
  have q0 : decide (20 < (l.length : Int)) = false := by simp; omega
  have q1 : decide (20 < (m.length : Int)) = false := by simp; omega
  obtain ⟨iA, hiA, hz0, hz1, hz2⟩ := info_parts Try.infoAcc
  go_enter Try.func4, Try.ntmps4
  go_wp2_with (first
    | (go_at_call 9; refine (awake_any _).mono ?_; rintro e w' hr'; obtain ⟨rfl, s, rfl⟩ := hr'.over; clear hr')
    | (go_at_call 10; refine (new_law [8] _ _ (over_below w s) rfl rfl ok8).mono ?_; rintro e X ⟨lo, hi, L, rfl, hM, hX, hlo⟩; have HM : Hid (MemIn lo hi L (M0 [8] 1) X) := Lib.hid hM; have HX := Lib.hid hX; clear hM hX; refine Hid.out ?_))
  refine Lib.hid ?_
  go_wp2_with (first
    | (go_at_call 10; refine (new_law [8] _ _ (ext_refl X) rfl rfl ok8).mono ?_; rintro e X2 ⟨lo2, hi2, L2, rfl, hM2, hX2, hlo2⟩; have HM2 : Hid (MemIn lo2 hi2 L2 (M0 [8] 1) X2) := Lib.hid hM2; have HX2 := Lib.hid hX2; clear hM2 hX2)
    | (go_at_call 14; refine (list_any (fun k => (lo ≤ k ∧ k < hi) ∨ (lo2 ≤ k ∧ k < hi2)) l _ _ (hA.out.ext (ext_trans HX.out HX2.out)) (by omega) (fun k hk => by have := HM.out.top; have := HX2.out.size; have := HM2.out.top; rcases hk with hk | hk <;> omega)).mono ?_; rintro e w1 ⟨v1, rfl, hx, hp⟩; refine Hid.out ?_))
  refine Lib.hid ?_
  have hhi : hi ≤ X2.heap.size := Nat.le_trans HM.out.top HX2.out.size
  have hap : hi ≤ lo2 := Nat.le_trans HM.out.top hlo2
  have hlo2w : w.heap.size ≤ lo2 := Nat.le_trans HX.out.size hlo2
  have HXw := Lib.hid (ext_trans HX.out HX2.out)
  have HMm := Lib.hid (HM.out.ext HX2.out)
  have hdb : ∀ T : World, Ext X2 T → ∀ k, ((lo ≤ k ∧ k < hi) ∨ (lo2 ≤ k ∧ k < hi2)) → k < T.heap.size := fun T hT k hk => by
    have h1 := HM2.out.top
    have h2 := hT.size
    rcases hk with hk | hk <;> omega
  have HDB := Lib.hid hdb
  have HX1 := Lib.hid hx
  have HP1 := Lib.hid hp
  clear hdb hx hp HM HX HX2
  go_wp2_with (first
    | (go_at_call 14; refine (list_any (fun k => (lo ≤ k ∧ k < hi) ∨ (lo2 ≤ k ∧ k < hi2)) m _ _ (hB.out.ext (ext_trans HXw.out HX1.out)) (by omega) (HDB.out _ HX1.out)).mono ?_; rintro e w2 ⟨v2, rfl, hx, hp⟩; have HX12 := Lib.hid hx; have HXd2 := Lib.hid (ext_trans HX1.out hx); have HP2 := Lib.hid hp; clear hx hp)
    | (go_at_call 20; refine (join_any (fun k => (lo ≤ k ∧ k < hi) ∨ (lo2 ≤ k ∧ k < hi2)) l m v1 v2 w2 (HP1.out.ext HX12.out) HP2.out (by omega) (HDB.out _ HXd2.out)).mono ?_; rintro e w3 ⟨v3, rfl, hx, hp⟩; refine Hid.out ?_))
  refine Lib.hid ?_
  obtain ⟨sa, n, c, a, fn, pp, rfl, hfn⟩ := hp.shape
  have hsf := store_fn hfn
  have hX3 := ext_trans HXd2.out hx
  have HBX : Hid (BoxP w3.heap.size (pV (.slice sa n c) a fn (.pointer pp)) (w3.alloc (.cells #[.slice sa n c, .int .i64 a.op, .int .i64 a.at_, .int .u64 (U a.a), .int .u64 (U a.b), fn, .pointer pp] 46))) := Lib.hid ⟨sa, n, c, a, fn, pp, rfl, hfn, heap_at _ _ _ rfl⟩
  have HXY := Lib.hid (ext_alloc (.cells #[.slice sa n c, .int .i64 a.op, .int .i64 a.at_, .int .u64 (U a.a), .int .u64 (U a.b), fn, .pointer pp] 46) hX3)
  have HPY := Lib.hid (hp.ext (ext_alloc (.cells #[.slice sa n c, .int .i64 a.op, .int .i64 a.at_, .int .u64 (U a.a), .int .u64 (U a.b), fn, .pointer pp] 46) (ext_refl w3)))
  have hBB : hi ≤ w3.heap.size := Nat.le_trans hhi hX3.size
  clear hx hp HP1 HP2 HX1 HX12 HXd2 hX3 hfn
  unfold pV at HPY HBX ⊢
  go_wp2_with (at_builtin; refine Hid.out ?_)
  refine Lib.hid ?_
  have hYs : (w3.alloc (.cells #[.slice sa n c, .int .i64 a.op, .int .i64 a.at_, .int .u64 (U a.a), .int .u64 (U a.b), fn, .pointer pp] 46)).heap.size = w3.heap.size + 1 := by simp
  have HBK := Lib.hid (heap_at w3 (.cells #[.slice sa n c, .int .i64 a.op, .int .i64 a.at_, .int .u64 (U a.a), .int .u64 (U a.b), fn, .pointer pp] 46) w3.heap.size rfl)
  clear HBX
  generalize w3.alloc (.cells #[.slice sa n c, .int .i64 a.op, .int .i64 a.at_, .int .u64 (U a.a), .int .u64 (U a.b), fn, .pointer pp] 46) = Y at HXY HPY hYs HBK ⊢
  have hHA := hA.out.ext (ext_trans HXw.out HXY.out)
  have hHB := hB.out.ext (ext_trans HXw.out HXY.out)
  have hXa := ext_alloc (.cells #[] 42) (ext_refl Y)
  refine wpList_append_opt rfl (.tmp 52) (.tmp 53) 22 rfl Y.heap.size 42 iA _ 4 32 Try.underlying22 hiA hz0 hz1 hz2 rfl (by decide) (.slice (some ⟨w3.heap.size + 1, 0, none⟩) 0 0) 0 [] rfl (own_none Y _ _ _ _ hYs.symm (Nat.le_refl _)) a0 l.length cap (l.flatMap A4) rfl (none_len hHA) (a4_len l) (news_opt (hHA.ext hXa)) (ones_as l) (by unfold maxLen; omega) (by omega) (by simp) ?_
  intro x1 y1 hv1 hg1
  have hX1 := ext_own hXa (own_none Y _ _ 4 _ hYs.symm (Nat.le_refl _)) hg1
  rw [Nat.zero_add, List.nil_append] at hv1
  obtain ⟨A1, C1, rfl⟩ : ∃ A1 C1, x1 = .slice A1 l.length C1 := by
    rcases hv1.2 with ⟨rfl, h0⟩ | ⟨g, cap, _, rfl, _⟩
    · exact ⟨none, 0, by rw [h0]⟩
    · exact ⟨_, _, rfl⟩
  have HV1 := Lib.hid hv1
  have HY1 := Lib.hid hX1
  clear hv1 hg1 hX1 hXa
  go_wp2_with (at_builtin; refine Hid.out ?_)
  refine Lib.hid ?_
  refine wpList_append_opt rfl (.tmp 54) (.tmp 55) 22 rfl Y.heap.size 42 iA _ 4 32 Try.underlying22 hiA hz0 hz1 hz2 rfl (by decide) (.slice A1 l.length C1) l.length (l.flatMap A4) rfl HV1.out a1 m.length cap1 (m.flatMap A4) rfl (none_len hHB) (a4_len m) (news_opt (hHB.ext HY1.out)) (ones_as m) (by unfold maxLen; omega) (by omega) HY1.out.size ?_
  intro x2 y2 hv2 hg2
  have HY2 := Lib.hid (ext_own HY1.out HV1.out hg2)
  have e8 : l.length + m.length = (l ++ m).length := by simp
  have e9 : l.flatMap A4 ++ m.flatMap A4 = (l ++ m).flatMap A4 := by simp
  rw [e8, e9] at hv2
  have hlm : (l ++ m).length ≤ 40 := by simp; omega
  have HAL : Hid (AsB (fun k => (lo ≤ k ∧ k < hi) ∨ (lo2 ≤ k ∧ k < hi2)) y2 x2 (l ++ m)) := Lib.hid (asB_of_own hv2 (HDB.out _ HXY.out))
  clear HV1 hv2 hg2 e8 e9 hHA hHB HY1
  have HZ := Lib.hid (ext_trans HXY.out HY2.out)
  obtain ⟨xa, xc, rfl⟩ : ∃ xa xc, x2 = .slice xa (l ++ m).length xc := by
    obtain ⟨xa, xc, e, _⟩ := HAL.out
    exact ⟨xa, xc, e⟩
  have hblk := (HY2.out.block _ (heap_lt HBK.out)).trans HBK.out
  obtain ⟨cc0, cc1, cc2, cc3, cc4, cc5, cc6, cz, ll⟩ := sev_of hblk
  have HP := Lib.hid (HPY.out.ext HY2.out)
  have HMM := Lib.hid (HMm.out.ext HZ.out)
  have HMN := Lib.hid (HM2.out.ext HZ.out)
  have HEW := Lib.hid (ext_trans HXw.out HZ.out)
  have hDm : ∀ k, lo ≤ k → k < hi → ((lo ≤ k ∧ k < hi) ∨ (lo2 ≤ k ∧ k < hi2)) := fun k h1 h2 => .inl ⟨h1, h2⟩
  clear HBK hblk HPY HMm HM2 HXw HY2 HXY
  go_wp2
  refine wp_region_mix (fun w' => ∃ s, w' = off lo hi y2 s) [(0, [0, 1, 2]), (1, [3]), (1, [4]), (0, [5, 6, 7, 8, 9, 10, 11])] (by kernel_rfl) (by kernel_rfl) (off_of (.of_ext (ext_drew (ext_refl y2)))) ?_
  simp only [pieces, pickL, List.map_cons, List.map_nil, List.getD_cons_zero, List.getD_cons_succ]
  refine mix_reads ?_
  repeat (go_big_quiet_step (fail))
  refine wpQuiet_nil (mix_acts ?_)
  go_wp2_with (go_at_call 12; refine (cap_int (HMM.out.drew) 0 1#64 (by decide) (by decide) (Lib.hid rfl)).mono ?_; rintro e y3 ⟨rfl, hx⟩; have HX2 := Lib.hid (ext_trans (ext_drew (ext_refl y2)) hx); clear hx)
  refine mixQ_mk (off_of (.of_ext HX2.out)) (mix_acts ?_)
  obtain ⟨F, hF⟩ : ∃ F, F = runF 0 1#64 (l ++ m) 50 (M0 [8] 1) := ⟨_, rfl⟩
  have h8 : Mem8 F.1 := by rw [hF]; exact Mem8.zero.run
  have H8 := Lib.hid h8
  have HFE : Hid (runF 0 1#64 (l ++ m) (50 : Int).toNat (M0 [8] 1) = F) := Lib.hid hF.symm
  clear h8 hF
  go_wp2_with (go_at_call 13; refine (run_at _ (l ++ m) [] _ 0 1#64 50 y3 F HFE (HP.out.ext HX2.out) (HMM.out.ext HX2.out) (by simp at hlm ⊢; omega) hDm (HDB.out _ (ext_trans HZ.out HX2.out))).mono ?_; rintro e y4 ⟨rv, rfl, hm', hf, hu1, hu2⟩; refine Hid.out ?_)
  refine Lib.hid ?_
  have HF3 := Lib.hid ((Fr.of_ext HX2.out).trans hf)
  have HMA := Lib.hid hm'
  have HUA := Lib.hid (res_us hu1 hu2)
  have HMB := Lib.hid (HMN.out.fr HF3.out (.inr hap))
  have HXA := Lib.hid (HF3.out.below HEW.out hlo)
  have HAA : Hid (AsB (fun _ => False) y4 (.slice xa (l.length + m.length) xc) (l ++ m)) := Lib.hid (by rw [← List.length_append]; exact (HAL.out.fr (FD.of_fr HF3.out hDm)).more fun k _ h => h.elim)
  clear hm' hf hu1 hu2 cc0 cc1 cc2 cc3 cc4 cc5 cc6 cz ll HX2 HAL HMN HMM HP HEW
  go_wp2
  refine mixQ_mk (off_of HF3.out) (mix_reads ?_)
  repeat (go_big_quiet_step (fail))
  refine wpQuiet_nil (mix_end ?_)
  clear HF3
  go_wp2_with (first
    | (go_at_call 14; refine (list_any (fun k => lo2 ≤ k ∧ k < hi2) (l ++ m) _ _ HAA.out (by omega) (fun k hk => by have := HMB.out.top; omega)).mono ?_; rintro e w4 ⟨v4, rfl, hx, hp⟩; have HX4 := Lib.hid hx; have HP4 := Lib.hid hp; clear hx hp)
    | (go_at_call 12; refine (cap_int (HMB.out.ext HX4.out) 0 1#64 (by decide) (by decide) (Lib.hid rfl)).mono ?_; rintro e w5 ⟨rfl, hx⟩; have HX5 := Lib.hid (ext_trans HX4.out hx); have HX45 := Lib.hid hx; clear hx)
    | (go_at_call 13; refine (run_at _ (l ++ m) [] v4 0 1#64 50 w5 F HFE (HP4.out.ext HX45.out).h (HMB.out.ext HX5.out) (by simp at hlm ⊢; omega) (fun k h1 h2 => ⟨h1, h2⟩) (fun k hk => by have := HMB.out.top; have := HX5.out.size; omega)).mono ?_; rintro e w6 ⟨rv2, rfl, hm', hf, hu1, hu2⟩; refine Hid.out ?_))
  refine Lib.hid ?_
  have HUB := Lib.hid (res_us hu1 hu2).us
  have HMB6 := Lib.hid hm'
  have hf6 := (Fr.of_ext HX5.out).trans hf
  have HMA6 := Lib.hid (HMA.out.fr hf6 (.inl hap))
  have HUA6 := Lib.hid ((HUA.out.fr (FD.of_fr hf6 fun k h1 h2 => .inr ⟨h1, h2⟩)).us)
  have HX6 := Lib.hid (hf6.below HXA.out hlo2w)
  clear hm' hf hu1 hu2 hf6 HX5 HX45 HX4 HP4 HXA HMB HUA HMA
  have HRL : Hid ((resOf F []).length ≤ 70) := by
    refine Lib.hid ?_
    have h := run_len (r := 0) (e := 1#64) (l := l ++ m) (k := 50) (M := M0 [8] 1)
    unfold resOf
    rw [← HFE.out]
    show (if (runF 0 1#64 (l ++ m) 50 (M0 [8] 1)).2.2 = [] then [] ++ (runF 0 1#64 (l ++ m) 50 (M0 [8] 1)).2.1 else []).length ≤ 70
    split
    · simp; omega
    · simp
  clear HFE
  generalize resOf F [] = res at HUB HUA6 HRL
  generalize F.2.2.isEmpty = ov
  generalize F.2.1.length = nn
  generalize F.1 = MF at H8 HMB6 HMA6
  have qo : (ov == ov) = true := by simp
  go_wp2_with (go_at_call 17; refine (same_any res res rv rv2 _ true (hid_yes rfl) HRL.out HUA6.out HUB.out).mono ?_; rintro e w' hr'; obtain ⟨rfl, s2, rfl⟩ := hr'.over; clear hr'; refine Hid.out ?_)
  refine Lib.hid ?_
  have HMA7 := Lib.hid (HMA6.out.over s2)
  have HMB7 := Lib.hid (HMB6.out.over s2)
  have HUA7 := Lib.hid (HUA6.out.over s2)
  have HUB7 := Lib.hid (HUB.out.over s2)
  have HX7 := Lib.hid (ext_over s2 HX6.out)
  clear HMA6 HMB6 HUA6 HUB HX6
  go_wp2
  go_loopw [17] (fun i wr => HvEnd lo hi L lo2 hi2 L2 MF rv rv2 res w i wr) (fun i _ => (8 - intOf i).toNat)
  case atStart => exact ⟨0, Nat.zero_le _, rfl, HMA7.out, HMB7.out, HUA7.out, HUB7.out, HX7.out⟩
  case round =>
    clear HMA7 HMB7 HUA7 HUB7 HX7
    obtain ⟨k, hk, rfl, hm1, hm2, hu1, hu2, hx⟩ := hrel
    have HA1 := Lib.hid hm1
    have HA2 := Lib.hid hm2
    have HU1 := Lib.hid hu1
    have HU2 := Lib.hid hu2
    have HX := Lib.hid hx
    clear hm1 hm2 hu1 hu2 hx
    by_cases hlt : k < 8
    · have hn : (0 : Int) < (MF.n : Int) := by rw [H8.out.n]; decide
      have hsz : (k : Int) < (MF.sz (0 : Int).toNat : Int) := by show (k : Int) < (MF.sz 0 : Int); rw [H8.out.s]; omega
      have HH := Lib.hid (And.intro hn hsz)
      clear hn hsz
      go_wp2_with fail
      refine (peek_int HA1.out 0 (k : Int) (U (MF.wd 0 k)) (by decide) HH.out.1 (by omega) HH.out.2 (Lib.hid rfl)).mono ?_
      rintro e w' hr'
      obtain ⟨rfl, s2, rfl⟩ := hr'.over
      clear hr'
      go_wp2_with fail
      refine (peek_int (HA2.out.over s2) 0 (k : Int) (U (MF.wd 0 k)) (by decide) HH.out.1 (by omega) HH.out.2 (Lib.hid rfl)).mono ?_
      rintro e w' hr'
      obtain ⟨rfl, s3, rfl⟩ := hr'.over
      clear hr'
      go_wp2
      exact ⟨⟨k + 1, by omega, by go_num, by first | exact (HA1.out.over _).over _ | exact HA1.out.over _, by first | exact (HA2.out.over _).over _ | exact HA2.out.over _, by first | exact (HU1.out.over _).over _ | exact HU1.out.over _, by first | exact (HU2.out.over _).over _ | exact HU2.out.over _, by first | exact ext_over _ (ext_over _ HX.out) | exact ext_over _ HX.out⟩, by simp [intOf]; omega⟩
    · obtain rfl : k = 8 := by omega
      have h88 : ¬ (((8 : Nat) : Int) < 8) := by decide
      go_wp2
      go_ret
      exact Ret.mk HX.out

set_option maxHeartbeats 1000000 in
theorem progJoin_great (n k : Nat) (a0 a1 : Option Addr) (cap cap1 : Nat) (w : World) (h : 20 < n ∨ 20 < k) :
    Calls Try.prog 4 #[.slice a0 n cap, .slice a1 k cap1] w (Ret (.bool true) w) := by
  by_cases hn : 20 < n
  · have q0 : decide (20 < (n : Int)) = true := by simp; omega
    go_enter Try.func4, Try.ntmps4
    go_wp2_with (go_at_call 9; refine (awake_any _).mono ?_; rintro e w' hr'; obtain ⟨rfl, s, rfl⟩ := hr'.over; clear hr')
    go_ret
    exact Ret.mk (by repeat (first | exact ext_refl _ | apply ext_over))
  · have q0 : decide (20 < (n : Int)) = false := by simp; omega
    have q1 : decide (20 < (k : Int)) = true := by simp; omega
    go_enter Try.func4, Try.ntmps4
    go_wp2_with (go_at_call 9; refine (awake_any _).mono ?_; rintro e w' hr'; obtain ⟨rfl, s, rfl⟩ := hr'.over; clear hr')
    go_ret
    exact Ret.mk (by repeat (first | exact ext_refl _ | apply ext_over))

theorem progJoin_any (f : Nat → Acc) (n : Nat) (v0 : Value) (g : Nat → Acc) (m : Nat) (v1 : Value) (w : World) (hf : As w v0 n f) (hg : As w v1 m g) : Calls Try.prog 4 #[v0, v1] w (Ret (.bool true) w) := by
  have hA := asB_of hf
  have hB := asB_of hg
  obtain ⟨a0, cap, rfl, _⟩ := id hf
  obtain ⟨a1, cap1, rfl, _⟩ := id hg
  by_cases hl : n ≤ 20 ∧ m ≤ 20
  · have e1 : ((List.range n).map f).length = n := by simp
    have e2 : ((List.range m).map g).length = m := by simp
    have := progJoin_small ((List.range n).map f) ((List.range m).map g) a0 a1 cap cap1 w (by omega) (by omega) (Lib.hid (by rw [e1]; exact hA)) (Lib.hid (by rw [e2]; exact hB))
    rwa [e1, e2] at this
  · exact progJoin_great n m a0 a1 cap cap1 w (by omega)

end Go.Proofs.Ytmianpfomoghjaa
