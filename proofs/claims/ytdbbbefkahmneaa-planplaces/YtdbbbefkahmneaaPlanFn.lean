/-
  What the calls of package plan come to. Conditions: those of each theorem.
-/
import Derived.Test.YtdbbbefkahmneaaPlanM
import Derived.Test.YtdbbbefkahmneaaMix
import Derived.Test.YtdbbbefkahmneaaRecs
import Derived.Deep.Cut
namespace Go.Proofs.Ytdbbbefkahmneaa
open Go Go.RowKit

/-- The value of a plan. -/
abbrev plV (p : Pl) : Value := .agg #[.int .i64 p.n, .int .i64 p.t, .int .i64 p.r, .int .i64 p.d, .int .i64 p.b, .int .i64 p.g]

set_option maxHeartbeats 400000 in
theorem cells_any (p : Pl) (w : World) : Calls Try.prog 29 #[plV p] w (Ret (.int .i64 p.c) w) := by
  by_cases h : 2 < p.b
  · have e : p.c = p.b := by unfold Pl.c; rw [if_pos h]
    rw [e]
    clear e
    go_enter Try.func29, Try.ntmps29
    go_wp2
    go_ret
    exact Ret.mk (by repeat (first | exact ext_refl _ | apply ext_over | apply ext_alloc))
  · have e : p.c = 2 := by unfold Pl.c; rw [if_neg h]
    rw [e]
    clear e
    go_enter Try.func29, Try.ntmps29
    go_wp2
    go_ret
    exact Ret.mk (by repeat (first | exact ext_refl _ | apply ext_over | apply ext_alloc))

set_option maxHeartbeats 400000 in
theorem rcells_any (p : Pl) (w : World) : Calls Try.prog 17 #[plV p] w (Ret (.int .i64 p.c) w) := by
  by_cases h : 2 < p.b
  · have e : p.c = p.b := by unfold Pl.c; rw [if_pos h]
    rw [e]
    clear e
    go_enter Try.func17, Try.ntmps17
    go_wp2
    go_ret
    exact Ret.mk (by repeat (first | exact ext_refl _ | apply ext_over | apply ext_alloc))
  · have e : p.c = 2 := by unfold Pl.c; rw [if_neg h]
    rw [e]
    clear e
    go_enter Try.func17, Try.ntmps17
    go_wp2
    go_ret
    exact Ret.mk (by repeat (first | exact ext_refl _ | apply ext_over | apply ext_alloc))

set_option maxHeartbeats 400000 in
theorem domain_any (p : Pl) (x : Int) (w : World) : Calls Try.prog 35 #[plV p, .int .i64 x] w (Ret (.int .i64 (p.domW x)) w) := by
  go_enter Try.func35, Try.ntmps35
  go_wp2_with (go_at_call 29; refine (cells_any p _).mono ?_; rintro e w' hr; obtain ⟨rfl, s, rfl⟩ := hr.over; clear hr)
  go_ret
  exact Ret.int rfl (by repeat (first | exact ext_refl _ | apply ext_over | apply ext_alloc))

set_option maxHeartbeats 400000 in
theorem hazards_any (p : Pl) (x : Int) (w : World) : Calls Try.prog 33 #[plV p, .int .i64 x] w (Ret (.int .i64 (p.hazW x)) w) := by
  go_enter Try.func33, Try.ntmps33
  go_wp2_with (go_at_call 35; refine (domain_any p _ _).mono ?_; rintro e w' hr; obtain ⟨rfl, s, rfl⟩ := hr.over; clear hr)
  go_ret
  exact Ret.int rfl (by repeat (first | exact ext_refl _ | apply ext_over | apply ext_alloc))

set_option maxHeartbeats 400000 in
theorem count_any (p : Pl) (x : Int) (w : World) : Calls Try.prog 34 #[plV p, .int .i64 x] w (Ret (.int .i64 (p.cntW x)) w) := by
  go_enter Try.func34, Try.ntmps34
  go_wp2
  first | refine wp_region_over2 (by kernel_rfl) (by kernel_rfl) ?_ | refine wp_region_over (by kernel_rfl) (by kernel_rfl) ?_
  repeat (go_big_quiet_step ((go_at_call 33; exact over_call (hazards_any p _ _))))
  refine wpQuiet_nil ?_
  intro _ hw'
  obtain ⟨s, hw''⟩ := hw'
  subst hw''
  go_wp2
  go_ret
  exact Ret.int rfl (by repeat (first | exact ext_refl _ | apply ext_over | apply ext_alloc))

set_option maxHeartbeats 400000 in
theorem node_any (p : Pl) (x : Int) (w : World) : Calls Try.prog 28 #[plV p, .int .i64 x] w (Ret (.int .i64 (p.nodW x)) w) := by
  go_enter Try.func28, Try.ntmps28
  go_wp2_with (go_at_call 34; refine (count_any p _ _).mono ?_; rintro e w' hr; obtain ⟨rfl, s, rfl⟩ := hr.over; clear hr)
  go_ret
  exact Ret.int rfl (by repeat (first | exact ext_refl _ | apply ext_over | apply ext_alloc))

set_option maxHeartbeats 400000 in
theorem one_any (n m : Int) (w : World) : Calls Try.prog 32 #[.int .i64 n, .int .i64 m] w (Ret (.agg #[.int .i64 n, .int .i64 0, .int .i64 (wrap64 (m - 1))]) w) := by
  go_enter Try.func32, Try.ntmps32
  go_wp2
  exact bodyPost_ret (v := .agg #[.int .i64 n, .int .i64 0, .int .i64 (wrap64 (m - 1))]) (by simp [results, Try.results32, go_sem]) rfl (Ret.mk (by repeat (first | exact ext_refl _ | apply ext_over | apply ext_alloc)))

def BdTo (l : List T3) (k : Nat) : Prop := ∀ i, i < k → (tN l i).b ≤ (tN l i).a ∧ (tN l i).a ≤ (tN l i).c
set_option maxHeartbeats 400000 in
theorem within_any (l : List T3) (v : Value) (w : World) (r : Bool) (hr : Hid (r = true ↔ Bd l)) (hT : Ts w v l) (hl : l.length ≤ 6) :
    Calls Try.prog 27 #[v] w (Ret (.bool r) w) := by
  have HT := Lib.hid hT
  obtain ⟨a0, cap, rfl, hc, hcell⟩ := hT
  clear hcell
  go_enter Try.func27, Try.ntmps27
  go_wp2
  go_loopw [7] (fun i wr => ∃ k : Nat, k ≤ l.length ∧ i = .int .i64 (k : Int) ∧ BdTo l k ∧ Ext w wr) (fun i _ => (l.length - intOf i).toNat)
  case atStart => exact ⟨0, Nat.zero_le _, rfl, fun _ h => absurd h (Nat.not_lt_zero _), ext_refl w⟩
  case round =>
    obtain ⟨k, hk, rfl, hf, hx⟩ := hrel
    have HF := Lib.hid hf
    have HX := Lib.hid hx
    clear hf hx
    by_cases hlt : k < l.length
    · obtain ⟨b, off, rfl, hb, hcells⟩ := (HT.out.ext HX.out).at (by omega)
      obtain ⟨c0, c1, c2⟩ := hcells k hlt
      clear hcells
      by_cases h0 : (tN l k).b ≤ (tN l k).a
      · by_cases h1 : (tN l k).a ≤ (tN l k).c
        · go_wp2
          refine ⟨⟨k + 1, by omega, by go_num, fun i hi => ?_, ext_alloc _ HX.out⟩, by simp [intOf]; omega⟩
          by_cases e : i = k
          · subst e; exact ⟨h0, h1⟩
          · exact HF.out i (by omega)
        · have h2 : (tN l k).c < (tN l k).a := by omega
          have E : Hid (false = r) := by
            refine Lib.hid ?_
            cases r with
            | false => rfl
            | true => exact absurd (hr.out.1 rfl k hlt).2 h1
          clear h1
          go_wp2
          go_ret
          exact Ret.bool E.out (ext_alloc _ HX.out)
      · have h2 : (tN l k).a < (tN l k).b := by omega
        have E : Hid (false = r) := by
          refine Lib.hid ?_
          cases r with
          | false => rfl
          | true => exact absurd (hr.out.1 rfl k hlt).1 h0
        clear h0
        go_wp2
        go_ret
        exact Ret.bool E.out (ext_alloc _ HX.out)
    · obtain rfl : k = l.length := by omega
      have E : Hid (true = r) := Lib.hid (hr.out.2 HF.out).symm
      go_wp2
      go_ret
      exact Ret.bool E.out HX.out

set_option maxHeartbeats 400000 in
theorem formed_any (p : Pl) (w : World) (r : Bool) (hr : Hid (r = true ↔ p.ok)) : Calls Try.prog 11 #[plV p] w (Ret (.bool r) w) := by
  have HR : Hid (r = true ↔ Bd p.bds) := Lib.hid (hr.out.trans p.bds_ok.symm)
  clear hr
  go_enter Try.func11, Try.ntmps11
  go_wp2_with fail
  refine (within_any p.bds _ _ r HR (ts_new _ _ _ _ _ _ (by simp) rfl rfl) (by show 6 ≤ 6; omega)).mono ?_
  rintro e w' hr'
  obtain ⟨rfl, s, rfl⟩ := hr'.over
  clear hr'
  go_wp2
  go_ret
  exact Ret.mk (by repeat (first | exact ext_refl _ | apply ext_over | apply ext_alloc))

set_option maxHeartbeats 400000 in
theorem place_any (p : Pl) (at_ : Int) (l : List T3) (v : Value) (w : World) (r : Int) (hr : Hid (PlaceSpec p at_ l r)) (hT : Ts w v l) (hl : l.length ≤ 6) :
    Calls Try.prog 31 #[plV p, .int .i64 at_, v] w (Ret (.int .i64 r) w) := by
  have HT := Lib.hid hT
  obtain ⟨a0, cap, rfl, hc, hcell⟩ := hT
  clear hcell
  by_cases hk : p.ok
  · have F := Lib.hid hk
    by_cases hb : Bd l
    · have E : Hid (at_ = r) := Lib.hid (hr.out.1 hk hb).symm
      have G := Lib.hid hb
      clear hk hb hr
      go_enter Try.func31, Try.ntmps31
      go_wp2_with (first | (go_at_call 11; refine (formed_any p _ true (hid_yes F.out)).mono ?_; rintro e w' hr; obtain ⟨rfl, s, rfl⟩ := hr.over; clear hr) | (go_at_call 27; refine (within_any l _ _ true (hid_yes G.out) (HT.out.ext (by repeat (first | exact ext_refl _ | apply ext_over | apply ext_alloc))) hl).mono ?_; rintro e w' hr; obtain ⟨rfl, s1, rfl⟩ := hr.over; clear hr))
      go_ret
      exact Ret.int E.out (by repeat (first | exact ext_refl _ | apply ext_over | apply ext_alloc))
    · have E : Hid (-1 = r) := Lib.hid (hr.out.2 fun h => hb h.2).symm
      have G := Lib.hid hb
      clear hk hb hr
      go_enter Try.func31, Try.ntmps31
      go_wp2_with (first | (go_at_call 11; refine (formed_any p _ true (hid_yes F.out)).mono ?_; rintro e w' hr; obtain ⟨rfl, s, rfl⟩ := hr.over; clear hr) | (go_at_call 27; refine (within_any l _ _ false (hid_no G.out) (HT.out.ext (by repeat (first | exact ext_refl _ | apply ext_over | apply ext_alloc))) hl).mono ?_; rintro e w' hr; obtain ⟨rfl, s1, rfl⟩ := hr.over; clear hr))
      go_ret
      exact Ret.int E.out (by repeat (first | exact ext_refl _ | apply ext_over | apply ext_alloc))
  · have E : Hid (-1 = r) := Lib.hid (hr.out.2 fun h => hk h.1).symm
    have F := Lib.hid hk
    clear hk hr
    go_enter Try.func31, Try.ntmps31
    go_wp2_with (go_at_call 11; refine (formed_any p _ false (hid_no F.out)).mono ?_; rintro e w' hr; obtain ⟨rfl, s, rfl⟩ := hr.over; clear hr)
    go_ret
    exact Ret.int E.out (by repeat (first | exact ext_refl _ | apply ext_over | apply ext_alloc))
end Go.Proofs.Ytdbbbefkahmneaa
