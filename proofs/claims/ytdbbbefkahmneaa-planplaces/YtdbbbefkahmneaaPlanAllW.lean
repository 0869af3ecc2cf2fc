/-
  PlanAll: the call's ways, walked. Conditions: those of each theorem.
-/
import Derived.Test.YtdbbbefkahmneaaPlanWds
namespace Go.Proofs.Ytdbbbefkahmneaa
open Go Go.RowKit

theorem over_self (w : World) : w = over w ⟨w, Below.refl _ _⟩ := by unfold over; rfl
def AllRel (n : Int) (W : World) (i : Value) (wr : World) : Prop := ∃ k : Nat, (k : Int) ≤ n ∧ i = .int .i64 (k : Int) ∧ ∃ s, wr = over W s

theorem wds_yes {p : Pl} (h : p.ok) {x : Int} (h0 : 0 ≤ x) (h1 : x < p.n) : p.wdsF x = [p.fdF x 0, p.fdF x 1, p.fdF x 2] := by unfold Pl.wdsF; rw [if_pos ⟨h, h0, h1⟩]
theorem wds_no {p : Pl} {x : Int} (h1 : p.n ≤ x) : p.wdsF x = [] := by unfold Pl.wdsF; rw [if_neg]; rintro ⟨_, _, h⟩; omega
theorem wds_neg {p : Pl} : p.wdsF (-1) = [] := by unfold Pl.wdsF; rw [if_neg]; rintro ⟨_, h, _⟩; omega
theorem ext_over_then {Y Z : World} {s : Sub Y} (h : Ext (over Y s) Z) : Ext Y Z := ext_trans (over_below Y s) h
/-- Three ints, one by one. -/
theorem Is.get {w : World} {v : Value} {l : List Int} {x y z : Int} (h : Is w v l) (e : l = [x, y, z]) : ∃ g o c, v = .slice (some ⟨g, o, none⟩) 3 c ∧ g < w.heap.size ∧ w.cell? ⟨g, o, none⟩ = some (.int .i64 x) ∧ w.cell? ⟨g, o + 1, none⟩ = some (.int .i64 y) ∧ w.cell? ⟨g, o + 2, none⟩ = some (.int .i64 z) := by
  subst e
  obtain ⟨a, c, rfl, _, hr⟩ := h
  obtain ⟨g, o, rfl, hg, hc⟩ := hr (by simp)
  exact ⟨g, o, c, rfl, hg, hc 0 (by simp), hc 1 (by simp), hc 2 (by simp)⟩

set_option maxRecDepth 8000 in
set_option maxHeartbeats 2000000 in
theorem planAll_any (p : Pl) (w : World) : Calls Try.prog 4 #[plV p] w (Ret (.bool true) w) := by
  by_cases hf : p.few
  · have F := Lib.hid hf
    clear hf
    by_cases hk : p.ok
    · have K := Lib.hid hk
      have hn1 : 1 ≤ p.n := (by unfold Pl.ok at hk; omega)
      have hn2 : p.n ≤ 40 := (F.out hk).1
      clear hk
      go_enter Try.func4, Try.ntmps4
      go_wp2_with (first
        | (go_at_call 8; refine (awake_any _).mono ?_; rintro e w' hr'; obtain ⟨rfl, s, rfl⟩ := hr'.over; clear hr')
        | (go_at_call 9; refine (few_any p _ true (hid_yes F.out)).mono ?_; rintro e w' hr'; obtain ⟨rfl, s1, rfl⟩ := hr'.over; clear hr')
        | (go_at_call 10; refine (rformed_any p _ true (hid_yes K.out)).mono ?_; rintro e w' hr'; obtain ⟨rfl, s2, rfl⟩ := hr'.over; clear hr')
        | (go_at_call 16; refine Hid.out ?_))
      refine Lib.hid ?_
      refine (words_any p _ K.out).mono ?_
      rintro e Y ⟨v, l, rfl, hx, hT, hL, hG⟩
      have HXY : Hid (Ext w Y) := Lib.hid (ext_trans (ext_over ((s.comp s1).comp s2) (ext_alloc _ (ext_refl w))) hx)
      obtain ⟨bp, hbp⟩ : ∃ bp, bp = w.heap.size := ⟨_, rfl⟩
      have HB : Hid (Y.heap[bp]? = some (.cells #[.int .i64 p.n, .int .i64 p.t, .int .i64 p.r, .int .i64 p.d, .int .i64 p.b, .int .i64 p.g] 23 (0, 0))) := Lib.hid (by subst hbp; rw [hx.block _ (by have := over_size (w.alloc (.cells #[.int .i64 p.n, .int .i64 p.t, .int .i64 p.r, .int .i64 p.d, .int .i64 p.b, .int .i64 p.g] 23)) ((s.comp s1).comp s2); simp at this ⊢; omega), (over_below _ _).block _ (by simp)]; exact hp_at _ _ _ rfl)
      simp only [← hbp]
      clear hbp hx
      have HT := Lib.hid hT
      have HL := Lib.hid hL
      have HG := Lib.hid hG
      clear hL hG
      obtain ⟨a0, cap, rfl, hcap, _⟩ := hT
      obtain ⟨p0, p1, p2, p3, p4, p5, pz, pl⟩ := six_at HB.out
      have hlen : (l.length : Int) ≤ 5275777 := (by rw [HL.out]; unfold Pl.sizeF; rw [if_pos K.out]; exact (Pl.nod_in K.out (by omega) (Int.le_refl _)).2)
      go_wp2
      go_loopw [4] (fun i wr => AllRel (l.length : Int) Y i wr) (fun i _ => ((l.length : Int) - intOf i).toNat)
      case atStart => exact ⟨0, by omega, rfl, _, over_self Y⟩
      case round =>
        obtain ⟨k, hk, rfl, s3, rfl⟩ := hrel
        by_cases hlt : (k : Int) < (l.length : Int)
        · have hg := (HG.out k (by omega)).1
          obtain ⟨bw, off, rfl, hbw, hc⟩ := HT.out.at (by omega)
          obtain ⟨c0, c1, c2⟩ := hc k (by omega)
          clear hc
          go_wp2
          refine wp_region_over2 (by kernel_rfl) (by kernel_rfl) ?_
          repeat (go_big_quiet_step (first | (go_at_call 14; exact over_call (told_any p (tN l k) _))))
          refine wpQuiet_nil ?_
          intro _ hw'
          obtain ⟨s4, hw''⟩ := hw'
          subst hw''
          go_wp2
          exact ⟨⟨k + 1, by omega, by go_num, _, rfl⟩, by simp [intOf]; omega⟩
        · have hlt' : (l.length : Int) ≤ (k : Int) := by omega
          go_wp2
          clear hlt hlt' hk
          go_loopw [5] (fun i wr => AllRel p.n Y i wr) (fun i _ => (p.n - intOf i).toNat)
          case atStart => exact ⟨0, by omega, rfl, _, rfl⟩
          case round =>
            obtain ⟨q, hq, rfl, s4, rfl⟩ := hrel
            by_cases hlt : (q : Int) < p.n
            · go_wp2_with (go_at_call 15; refine (wds_any p _ _).mono ?_; rintro e Z ⟨vw, rfl, hx, hI⟩; have HZ := Lib.hid (ext_over_then hx); have HI := Lib.hid (hI.get (wds_yes K.out (by omega) hlt)); clear hx hI; obtain ⟨gw, ow, cw, rfl, lw, d0, d1, d2⟩ := HI.out; obtain ⟨p0, p1, p2, p3, p4, p5, pz, pl⟩ := six_at ((HZ.out.block bp (hp_lt HB.out)).trans HB.out))
              refine wp_region_over (by kernel_rfl) (by kernel_rfl) ?_
              repeat (go_big_quiet_step (first | (go_at_call 19; exact over_call (field_any p _ _ _))))
              refine wpQuiet_nil ?_
              intro _ hw'
              obtain ⟨s5, hw''⟩ := hw'
              subst hw''
              go_wp2
              obtain ⟨s6, e6⟩ := over_of (ext_over s5 HZ.out)
              exact ⟨⟨q + 1, by omega, by go_num, s6, e6⟩, by simp [intOf]; omega⟩
            · have hlt' : p.n ≤ (q : Int) := by omega
              go_wp2_with fail
              refine (wds_any p _ _).mono ?_
              rintro e Z ⟨vw, rfl, hx, hI⟩
              have HZ := Lib.hid (ext_over_then hx)
              rw [wds_no (Int.le_refl p.n)] at hI
              obtain ⟨aw, cw, rfl, _, _⟩ := hI
              clear hx
              obtain ⟨p0, p1, p2, p3, p4, p5, pz, pl⟩ := six_at ((HZ.out.block bp (hp_lt HB.out)).trans HB.out)
              go_wp2_with fail
              refine (wds_any p _ _).mono ?_
              rintro e Z2 ⟨vw2, rfl, hx, hI⟩
              have HZ2 := Lib.hid (ext_trans HZ.out hx)
              rw [wds_neg] at hI
              obtain ⟨aw2, cw2, rfl, _, _⟩ := hI
              clear hx
              go_wp2
              go_ret
              exact Ret.mk (ext_trans HXY.out HZ2.out)
    · have K := Lib.hid hk
      clear hk
      go_enter Try.func4, Try.ntmps4
      go_wp2_with (first
        | (go_at_call 8; refine (awake_any _).mono ?_; rintro e w' hr'; obtain ⟨rfl, s, rfl⟩ := hr'.over; clear hr')
        | (go_at_call 9; refine (few_any p _ true (hid_yes F.out)).mono ?_; rintro e w' hr'; obtain ⟨rfl, s1, rfl⟩ := hr'.over; clear hr')
        | (go_at_call 10; refine (rformed_any p _ false (hid_no K.out)).mono ?_; rintro e w' hr'; obtain ⟨rfl, s2, rfl⟩ := hr'.over; clear hr'))
      go_ret
      exact Ret.mk (by repeat (first | exact ext_refl _ | apply ext_over | apply ext_alloc))
  · have F := Lib.hid hf
    clear hf
    go_enter Try.func4, Try.ntmps4
    go_wp2_with (first
      | (go_at_call 8; refine (awake_any _).mono ?_; rintro e w' hr'; obtain ⟨rfl, s, rfl⟩ := hr'.over; clear hr')
      | (go_at_call 9; refine (few_any p _ false (hid_no F.out)).mono ?_; rintro e w' hr'; obtain ⟨rfl, s1, rfl⟩ := hr'.over; clear hr'))
    go_ret
    exact Ret.mk (by repeat (first | exact ext_refl _ | apply ext_over | apply ext_alloc))
end Go.Proofs.Ytdbbbefkahmneaa
