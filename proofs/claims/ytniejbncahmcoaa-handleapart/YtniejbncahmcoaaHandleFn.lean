/-
  What the calls of package handle come to, but Of and Mine. Conditions: those of each theorem.
-/
import Derived.Test.YtniejbncahmcoaaHandleM
import Derived.Test.YtniejbncahmcoaaPack
import Derived.Test.YtniejbncahmcoaaSplit
import Derived.Test.YtniejbncahmcoaaMix
namespace Go.Proofs.Ytniejbncahmcoaa
open Go Go.RowKit

/-- The value of a handle. -/
abbrev hnV (h : Hn) : Value := .agg #[.int .i64 h.i, .int .i64 h.g, .int .i64 h.t]

set_option maxHeartbeats 400000 in
theorem hupTo_any (n most : Int) (w : World) : Calls Try.prog 18 #[.int .i64 n, .int .i64 most] w (Ret (.bool (upF n most)) w) := by
  by_cases h1 : 0 ≤ n
  · by_cases h2 : n ≤ most
    · rw [upF_yes h1 h2]
      go_enter Try.func18, Try.ntmps18
      go_wp2
      go_ret
      exact Ret.mk (by repeat (first | exact ext_refl _ | apply ext_over | apply ext_alloc | (refine ext_set _ ?_ ?_; exact Nat.le_refl _)))
    · rw [upF_no fun h => h2 h.2]
      have h3 : decide (n ≤ most) = false := by simpa using h2
      clear h2
      go_enter Try.func18, Try.ntmps18
      go_wp2
      go_ret
      exact Ret.mk (by repeat (first | exact ext_refl _ | apply ext_over | apply ext_alloc | (refine ext_set _ ?_ ?_; exact Nat.le_refl _)))
  · rw [upF_no fun h => h1 h.1]
    go_enter Try.func18, Try.ntmps18
    go_wp2
    go_ret
    exact Ret.mk (by repeat (first | exact ext_refl _ | apply ext_over | apply ext_alloc | (refine ext_set _ ?_ ?_; exact Nat.le_refl _)))

set_option maxHeartbeats 400000 in
theorem hformed_yes (h : Hn) (k : h.ok) (w : World) : Calls Try.prog 10 #[hnV h] w (Ret (.bool true) w) := by
  have ⟨h1, h2, h3, h4, h5, h6⟩ := k
  have e1 := upF_yes h1 h2
  have e2 := upF_yes h3 h4
  have e3 := upF_yes h5 h6
  clear k h1 h2 h3 h4 h5 h6
  go_enter Try.func10, Try.ntmps10
  go_wp2_with (go_at_call 18; refine (hupTo_any _ _ _).mono ?_; rintro e w' hr; obtain ⟨rfl, s, rfl⟩ := hr.over; clear hr)
  go_ret
  exact Ret.mk (by repeat (first | exact ext_refl _ | apply ext_over | apply ext_alloc | (refine ext_set _ ?_ ?_; exact Nat.le_refl _)))

set_option maxHeartbeats 400000 in
theorem hformed_no (h : Hn) (k : ¬ h.ok) (w : World) : Calls Try.prog 10 #[hnV h] w (Ret (.bool false) w) := by
  by_cases c1 : 0 ≤ h.i ∧ h.i ≤ 1048575
  · have e1 := upF_yes c1.1 c1.2
    by_cases c2 : 0 ≤ h.g ∧ h.g ≤ 1073741823
    · have e2 := upF_yes c2.1 c2.2
      have e3 : upF h.t 63 = false := upF_no fun c3 => k ⟨c1.1, c1.2, c2.1, c2.2, c3.1, c3.2⟩
      clear k c1 c2
      go_enter Try.func10, Try.ntmps10
      go_wp2_with (go_at_call 18; refine (hupTo_any _ _ _).mono ?_; rintro e w' hr; obtain ⟨rfl, s, rfl⟩ := hr.over; clear hr)
      go_ret
      exact Ret.mk (by repeat (first | exact ext_refl _ | apply ext_over | apply ext_alloc | (refine ext_set _ ?_ ?_; exact Nat.le_refl _)))
    · have e2 := upF_no c2
      clear k c1 c2
      go_enter Try.func10, Try.ntmps10
      go_wp2_with (go_at_call 18; refine (hupTo_any _ _ _).mono ?_; rintro e w' hr; obtain ⟨rfl, s, rfl⟩ := hr.over; clear hr)
      go_ret
      exact Ret.mk (by repeat (first | exact ext_refl _ | apply ext_over | apply ext_alloc | (refine ext_set _ ?_ ?_; exact Nat.le_refl _)))
  · have e1 := upF_no c1
    clear k c1
    go_enter Try.func10, Try.ntmps10
    go_wp2_with (go_at_call 18; refine (hupTo_any _ _ _).mono ?_; rintro e w' hr; obtain ⟨rfl, s, rfl⟩ := hr.over; clear hr)
    go_ret
    exact Ret.mk (by repeat (first | exact ext_refl _ | apply ext_over | apply ext_alloc | (refine ext_set _ ?_ ?_; exact Nat.le_refl _)))

theorem hformed_is (h : Hn) (w : World) (r : Bool) (hr : Hid (r = true ↔ h.ok)) : Calls Try.prog 10 #[hnV h] w (Ret (.bool r) w) := by
  by_cases k : h.ok
  · rw [hr.out.2 k]
    exact hformed_yes h k w
  · have e : r = false := by
      cases r
      · rfl
      · exact absurd (hr.out.1 rfl) k
    rw [e]
    exact hformed_no h k w

/-- The cells of the row of fields, of that of numbers. -/
abbrev hfC : Array Value := #[.int .i64 0, .int .i64 20, .int .i64 20, .int .i64 30, .int .i64 50, .int .i64 6, .int .i64 58, .int .i64 6]
abbrev hnC (h : Hn) : Array Value := #[.int .u64 (U (bvI h.i)), .int .u64 (U (bvI h.g)), .int .u64 (U (bvI h.t)), .int .u64 (U (bvI 42))]
theorem made_hfs {Y Z : World} {b : Nat} {t : TypeId} (h : Made Y b hfC t Z) : Fs Z (.slice (some ⟨b, 0, none⟩) 4 4) hnL := by
  refine ⟨_, 4, rfl, Nat.le_refl _, fun _ => ⟨b, 0, rfl, hp_lt h.1, fun i hi => ?_⟩⟩
  have hi' : i < 4 := hi
  have e : i = 0 ∨ i = 1 ∨ i = 2 ∨ i = 3 := by omega
  rcases e with rfl | rfl | rfl | rfl
  · exact ⟨cell_at (o := 0) h.1 rfl, cell_at (o := 1) h.1 rfl⟩
  · exact ⟨cell_at (o := 2) h.1 rfl, cell_at (o := 3) h.1 rfl⟩
  · exact ⟨cell_at (o := 4) h.1 rfl, cell_at (o := 5) h.1 rfl⟩
  · exact ⟨cell_at (o := 6) h.1 rfl, cell_at (o := 7) h.1 rfl⟩
theorem made_hus {Y Z : World} {b : Nat} {t : TypeId} {s : Hn} (h : Made Y b (hnC s) t Z) : Us Z (.slice (some ⟨b, 0, none⟩) 4 4) s.ns := by
  refine ⟨_, 4, rfl, Nat.le_refl _, fun _ => ⟨b, 0, rfl, hp_lt h.1, fun i hi => ?_⟩⟩
  have hi' : i < 4 := hi
  have e : i = 0 ∨ i = 1 ∨ i = 2 ∨ i = 3 := by omega
  rcases e with rfl | rfl | rfl | rfl
  · exact cell_at (o := 0) h.1 rfl
  · exact cell_at (o := 1) h.1 rfl
  · exact cell_at (o := 2) h.1 rfl
  · exact cell_at (o := 3) h.1 rfl

set_option maxHeartbeats 400000 in
theorem hlayout_any (w : World) : Calls Try.prog 17 #[] w (RetFs hnL w) := by
  go_enter Try.func17, Try.ntmps17
  go_wp2
  have H := Made.mk hfC 51 (ext_refl w)
  go_ret
  exact ⟨_, rfl, ext_alloc _ (ext_refl _), made_hfs H⟩
  
set_option maxHeartbeats 400000 in
theorem hnumbers_any (h : Hn) (k : h.ok) (w : World) : Calls Try.prog 20 #[hnV h] w (RetUs h.ns w) := by
  obtain ⟨h1, h2, h3, h4, h5, h6⟩ := k
  go_enter Try.func20, Try.ntmps20
  go_wp2
  have H := Made.mk (hnC h) 24 (ext_alloc (.cells #[.int .i64 h.i, .int .i64 h.g, .int .i64 h.t] 23) (ext_refl w))
  have HE := ext_alloc (.cells (hnC h) 24) (ext_alloc (.cells #[.int .i64 h.i, .int .i64 h.g, .int .i64 h.t] 23) (ext_refl w))
  have HU := made_hus H
  unfold hnC at HE HU
  rw [U_bvI _ h1 (by omega), U_bvI _ h3 (by omega), U_bvI _ h5 (by omega), U_bvI 42 (by omega) (by omega)] at HE HU
  rw [show (w.alloc (.cells #[.int .i64 h.i, .int .i64 h.g, .int .i64 h.t] 23)).heap.size = w.heap.size + 1 from by simp] at HU
  go_ret
  exact ⟨_, rfl, HE, HU⟩
  
theorem hn_packs (h : Hn) (k : h.ok) : PackSpec hnL h.ns h.word 0 := ⟨fun _ => ⟨(hn_pack h k).symm, rfl⟩, fun hn => absurd (hn_fit h k) hn⟩

set_option maxHeartbeats 400000 in
theorem hword_none (h : Hn) (k : ¬ h.ok) (w : World) : Calls Try.prog 12 #[hnV h] w (Ret (.int .u64 (U h.word)) w) := by
  rw [hword_no h k, U_0]
  go_enter Try.func12, Try.ntmps12
  go_wp2_with (go_at_call 10; refine (hformed_no _ k _).mono ?_; rintro e w' hr; obtain ⟨rfl, s0, rfl⟩ := hr.over; clear hr)
  go_ret
  exact Ret.mk (by repeat (first | exact ext_refl _ | apply ext_over | apply ext_alloc | (refine ext_set _ ?_ ?_; exact Nat.le_refl _)))

set_option maxRecDepth 8000 in
set_option maxHeartbeats 1000000 in
theorem hword_yes (h : Hn) (k : h.ok) (w : World) : Calls Try.prog 12 #[hnV h] w (Ret (.int .u64 (U h.word)) w) := by
  have HP := Lib.hid (hn_packs h k)
  go_enter Try.func12, Try.ntmps12
  go_wp2_with (go_at_call 10; refine (hformed_yes _ k _).mono ?_; rintro e w' hr; obtain ⟨rfl, s0, rfl⟩ := hr.over; clear hr)
  have HX := Lib.hid (ext_over s0 (ext_alloc (.cells #[.int .i64 h.i, .int .i64 h.g, .int .i64 h.t] 23) (ext_refl w)))
  have HB : Hid (Made w w.heap.size #[.int .i64 h.i, .int .i64 h.g, .int .i64 h.t] 23 (over (w.alloc (.cells #[.int .i64 h.i, .int .i64 h.g, .int .i64 h.t] 23)) s0)) := Lib.hid ((Made.mk #[.int .i64 h.i, .int .i64 h.g, .int .i64 h.t] 23 (ext_refl w)).over s0)
  generalize over (w.alloc (.cells #[.int .i64 h.i, .int .i64 h.g, .int .i64 h.t] 23)) s0 = Y at HX HB ⊢
  generalize w.heap.size = bp at HB ⊢
  have lY := hp_lt HB.out.1
  have c0 := cell_at (o := 0) HB.out.1 rfl
  have c1 := cell_at (o := 1) HB.out.1 rfl
  have c2 := cell_at (o := 2) HB.out.1 rfl
  simp only [List.getElem_toArray, List.getElem_cons_zero, List.getElem_cons_succ] at c0 c1 c2
  refine wp_region_mix (fun x => ∃ s, x = over Y s) [(0, [1]), (1, [0]), (1, [2]), (1, [3]), (0, [4, 5, 6, 7, 8])] (by kernel_rfl) (by kernel_rfl) (over_of (ext_drew (ext_refl Y))) ?_
  simp only [pieces, pickL, List.map_cons, List.map_nil, List.getD_cons_zero, List.getD_cons_succ]
  refine mix_reads ?_
  repeat (go_big_quiet_step (fail))
  refine wpQuiet_nil (mix_acts ?_)
  clear c0 c1 c2
  have HY := Lib.hid (ext_drew (ext_refl Y))
  generalize Y.drew = Y0 at HY ⊢
  go_wp2_with (go_at_call 17; refine (hlayout_any _).mono ?_; rintro e w' hr; obtain ⟨sf, rfl, s1, rfl, HF⟩ := hr.over; clear hr)
  have HY1 := Lib.hid (ext_over s1 HY.out)
  refine mixQ_mk (over_of HY1.out) (mix_acts ?_)
  clear HY
  generalize over Y0 s1 = Y1 at HY1 HF ⊢
  go_wp2_with (go_at_call 20; refine (hnumbers_any h k _).mono ?_; rintro e w' hr; obtain ⟨sn, rfl, s2, rfl, HN⟩ := hr.over; clear hr)
  have HY2 := Lib.hid (ext_over s2 HY1.out)
  have HF2 := Lib.hid (HF.out.over s2)
  refine mixQ_mk (over_of HY2.out) (mix_acts ?_)
  clear HY1 HF
  generalize over Y1 s2 = Y2 at HY2 HF2 HN ⊢
  go_wp2_with (go_at_call 19; refine (pack_any hnL h.ns _ _ _ _ _ HP (by decide) HF2.out HN.out).mono ?_; rintro e w' hr; obtain ⟨rfl, s3, rfl⟩ := hr.over; clear hr)
  have HY3 := Lib.hid (ext_over s3 HY2.out)
  refine mixQ_mk (over_of HY3.out) (mix_reads ?_)
  clear HY2 HF2 HN
  generalize over Y2 s3 = Y3 at HY3 ⊢
  repeat (go_big_quiet_step (fail))
  refine wpQuiet_nil (mix_end ?_)
  go_wp2
  go_ret
  exact Ret.mk (ext_trans HX.out HY3.out)
  

theorem hword_any (h : Hn) (w : World) : Calls Try.prog 12 #[hnV h] w (Ret (.int .u64 (U h.word)) w) := by
  by_cases k : h.ok
  · exact hword_yes h k w
  · exact hword_none h k w

end Go.Proofs.Ytniejbncahmcoaa
