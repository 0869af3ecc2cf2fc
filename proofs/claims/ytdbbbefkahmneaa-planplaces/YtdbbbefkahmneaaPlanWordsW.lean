/-
  The reference's Words: all words of a plan's region, in order. Conditions: those of each theorem.
-/
import Derived.Test.YtdbbbefkahmneaaPlanWl
namespace Go.Proofs.Ytdbbbefkahmneaa
open Go Go.RowKit

theorem six_at {w : World} {b : Nat} {x0 x1 x2 x3 x4 x5 : Value} {t : TypeId} (h : w.heap[b]? = some (.cells #[x0, x1, x2, x3, x4, x5] t (0, 0))) : w.cell? ⟨b, 0, none⟩ = some x0 ∧ w.cell? ⟨b, 1, none⟩ = some x1 ∧ w.cell? ⟨b, 2, none⟩ = some x2 ∧
    w.cell? ⟨b, 3, none⟩ = some x3 ∧ w.cell? ⟨b, 4, none⟩ = some x4 ∧ w.cell? ⟨b, 5, none⟩ = some x5 ∧ (∀ o, w.frozen? ⟨b, o, none⟩ = false) ∧ b < w.heap.size :=
  ⟨cell_at h rfl, cell_at h rfl, cell_at h rfl, cell_at h rfl, cell_at h rfl, cell_at h rfl, fun _ => free_at h, hp_lt h⟩
/-- In the midst of a loop. -/
def WRel (p : Pl) (W : World) (f : Int → Int) (n : Int) (v i : Value) (wr : World) : Prop := ∃ k : Nat, (k : Int) ≤ n ∧ i = .int .i64 (k : Int) ∧ WL p W (f k) v wr
/-- The first word. -/
theorem wl_one (p : Pl) (hk : p.ok) (W : World) (g : Nat) (hg : g = W.heap.size) : WL p W 1 (.slice (some ⟨g, 0, none⟩) 1 1) (W.alloc (.cells #[.int .i64 0, .int .i64 0, .int .i64 0] 25)) := by
  subst hg
  refine ⟨[⟨0, 0, 0⟩], ⟨rfl, .inr ⟨W.heap.size, 1, #[.int .i64 0, .int .i64 0, .int .i64 0], rfl, Nat.le_refl _, hp_at _ _ _ rfl, Nat.le_refl _, by unfold maxLen; omega, rfl, rfl⟩⟩, ext_alloc _ (ext_refl W), rfl, fun i hi => ?_⟩
  obtain rfl : i = 0 := by simp at hi; omega
  exact ⟨told_head hk, by simp [Wd, tN]⟩
/-- What Words comes to. -/
def RetWords (p : Pl) (w : World) (e : Ending) (w' : World) : Prop := ∃ v l, e = .returned v ∧ Ext w w' ∧ Ts w' v l ∧ (l.length : Int) = p.sizeF ∧ GoodL p l

set_option maxRecDepth 8000 in
set_option maxHeartbeats 4000000 in
theorem words_any (p : Pl) (w : World) (hk : p.ok) : Calls Try.prog 16 #[plV p] w (RetWords p w) := by
  have K := Lib.hid hk
  have hd : 0 ≤ p.d ∧ p.d ≤ 64 := (by unfold Pl.ok at hk; omega)
  have ht : 1 ≤ p.t ∧ p.t ≤ 16 := (by unfold Pl.ok at hk; omega)
  have hn : 1 ≤ p.n ∧ p.n ≤ 1048576 := (by unfold Pl.ok at hk; omega)
  have hr : 1 ≤ p.r ∧ p.r ≤ 1024 := (by unfold Pl.ok at hk; omega)
  have hc : 2 ≤ p.c ∧ p.c ≤ 256 := ⟨p.c_le, p.c_ge (by unfold Pl.ok at hk; omega)⟩
  clear hk
  go_enter Try.func16, Try.ntmps16
  go_wp2
  have HV : Hid (WL p (w.alloc (.cells #[.int .i64 p.n, .int .i64 p.t, .int .i64 p.r, .int .i64 p.d, .int .i64 p.b, .int .i64 p.g] 23)) (p.dom ((0 : Nat) : Int)) (.slice (some ⟨w.heap.size + 1, 0, none⟩) 1 1) ((w.alloc (.cells #[.int .i64 p.n, .int .i64 p.t, .int .i64 p.r, .int .i64 p.d, .int .i64 p.b, .int .i64 p.g] 23)).alloc (.cells #[.int .i64 0, .int .i64 0, .int .i64 0] 25))) := Lib.hid (by rw [show ((0 : Nat) : Int) = 0 from rfl, Pl.dom0]; exact wl_one p K.out _ _ (by simp))
  have HX : Hid (Ext w (w.alloc (.cells #[.int .i64 p.n, .int .i64 p.t, .int .i64 p.r, .int .i64 p.d, .int .i64 p.b, .int .i64 p.g] 23))) := Lib.hid (ext_alloc _ (ext_refl w))
  obtain ⟨bp, hbp⟩ : ∃ bp, bp = w.heap.size := ⟨_, rfl⟩
  rw [← hbp] at HV ⊢
  have HB : Hid ((w.alloc (.cells #[.int .i64 p.n, .int .i64 p.t, .int .i64 p.r, .int .i64 p.d, .int .i64 p.b, .int .i64 p.g] 23)).heap[bp]? = some (.cells #[.int .i64 p.n, .int .i64 p.t, .int .i64 p.r, .int .i64 p.d, .int .i64 p.b, .int .i64 p.g] 23 (0, 0))) := Lib.hid (hp_at _ _ _ hbp)
  clear hbp
  generalize (w.alloc (.cells #[.int .i64 p.n, .int .i64 p.t, .int .i64 p.r, .int .i64 p.d, .int .i64 p.b, .int .i64 p.g] 23)) = W at HV HX HB ⊢
  have hbp := hp_lt HB.out
  generalize W.alloc (.cells #[.int .i64 0, .int .i64 0, .int .i64 0] 25) = W1 at HV ⊢
  go_loopw [3, 4] (fun v i wr => WRel p W p.dom p.d v i wr) (fun _ i _ => (p.d - intOf i).toNat)
  case atStart => exact ⟨0, by omega, rfl, HV.out⟩
  case round =>
    clear HV
    obtain ⟨k0, hk0, rfl, hv⟩ := hrel
    have HV := Lib.hid hv
    clear hv
    obtain ⟨p0, p1, p2, p3, p4, p5, pz, pl⟩ := six_at ((HV.out.ext.block bp hbp).trans HB.out)
    by_cases hl0 : (k0 : Int) < p.d
    · have hin := Pl.dom_in K.out (x := (k0 : Int)) (by omega) (by omega)
      have HIN := Lib.hid hin
      clear hin
      go_wp2_with (at_builtin; refine wpList_word (p := p) (W := W) rfl (.tmp 20) (.tmp 23) rfl _ (p.dom (k0 : Int)) ⟨1, (k0 : Int), 0⟩ rfl HV.out rfl rfl (told_kind K.out (by omega) hl0) (by unfold Wd; dsimp only; omega) (by have := HIN.out; omega) ?_; intro v2 w2 hv2; have HV2 := Lib.hid hv2; clear hv2)
      go_loopw [3, 5] (fun v i wr => WRel p W (fun j => p.dom (k0 : Int) + 1 + j) p.c v i wr) (fun _ i _ => (p.c - intOf i).toNat)
      case atStart => exact ⟨0, by omega, rfl, by dsimp only []; rw [show ((0 : Nat) : Int) = 0 from rfl, Int.add_zero]; exact HV2.out⟩
      case round =>
        clear HV p0 p1 p2 p3 p4 p5 pz pl HV2
        obtain ⟨j0, hj0, rfl, hv⟩ := hrel
        have HV := Lib.hid hv
        clear hv
        obtain ⟨p0, p1, p2, p3, p4, p5, pz, pl⟩ := six_at ((HV.out.ext.block bp hbp).trans HB.out)
        by_cases hm0 : (j0 : Int) < p.c
        · go_wp2_with (first | (go_at_call 17; refine (rcells_any p _).mono ?_; rintro e w' hr'; obtain ⟨rfl, sc, rfl⟩ := hr'.over; clear hr') | (at_builtin; refine wpList_word (p := p) (W := W) rfl (.tmp 31) (.tmp 35) rfl _ (p.dom (k0 : Int) + 1 + (j0 : Int)) ⟨2, (k0 : Int), (j0 : Int)⟩ rfl (HV.out.keep (over_below _ sc)) rfl rfl (told_cell K.out (by omega) hl0 (by omega) hm0) (by unfold Wd; dsimp only; omega) (by have := HIN.out; have := Pl.lim K.out; omega) ?_; intro v3 w3 hv3; have HV3 := Lib.hid hv3; clear hv3))
          exact ⟨⟨j0 + 1, by omega, by go_num, by dsimp only []; rw [show ((j0 + 1 : Nat) : Int) = (j0 : Int) + 1 from rfl, ← Int.add_assoc]; exact HV3.out⟩, by simp [intOf]; omega⟩
        · have hm0' : p.c ≤ (j0 : Int) := by omega
          go_wp2_with (go_at_call 17; refine (rcells_any p _).mono ?_; rintro e w' hr'; obtain ⟨rfl, sc, rfl⟩ := hr'.over; clear hr')
          have HV4 := Lib.hid (HV.out.keep (over_below _ sc))
          exact ⟨⟨k0 + 1, by omega, by go_num, by rw [show ((k0 + 1 : Nat) : Int) = (k0 : Int) + 1 from rfl, Pl.dom_succ, show p.c = (j0 : Int) by omega]; exact HV4.out⟩, by simp [intOf]; omega⟩
    · have hl0' : p.d ≤ (k0 : Int) := by omega
      have HEND : Hid ((k0 : Int) = p.d) := Lib.hid (by omega)
      go_wp2
      clear p0 p1 p2 p3 p4 p5 pz pl hl0 hl0' hk0
      go_loopw [3, 6] (fun v i wr => WRel p W p.haz p.t v i wr) (fun _ i _ => (p.t - intOf i).toNat)
      case atStart => exact ⟨0, by omega, rfl, by rw [show ((0 : Nat) : Int) = 0 from rfl, Pl.haz0, ← HEND.out]; exact HV.out⟩
      case round =>
        clear HV HEND
        obtain ⟨k1, hk1, rfl, hv⟩ := hrel
        have HV := Lib.hid hv
        clear hv
        obtain ⟨p0, p1, p2, p3, p4, p5, pz, pl⟩ := six_at ((HV.out.ext.block bp hbp).trans HB.out)
        by_cases hl1 : (k1 : Int) < p.t
        · have hin := Pl.haz_in K.out (x := (k1 : Int)) (by omega) (by omega)
          have HIN := Lib.hid hin
          clear hin
          go_wp2
          go_loopw [3, 7] (fun v i wr => WRel p W (fun j => p.haz (k1 : Int) + j) 3 v i wr) (fun _ i _ => (3 - intOf i).toNat)
          case atStart => exact ⟨0, by omega, rfl, by dsimp only []; rw [show ((0 : Nat) : Int) = 0 from rfl, Int.add_zero]; exact HV.out⟩
          case round =>
            clear HV p0 p1 p2 p3 p4 p5 pz pl
            obtain ⟨j1, hj1, rfl, hv⟩ := hrel
            have HV := Lib.hid hv
            clear hv
            obtain ⟨p0, p1, p2, p3, p4, p5, pz, pl⟩ := six_at ((HV.out.ext.block bp hbp).trans HB.out)
            by_cases hm1 : (j1 : Int) < 3
            · go_wp2_with (at_builtin; refine wpList_word (p := p) (W := W) rfl (.tmp 47) (.tmp 51) rfl _ (p.haz (k1 : Int) + (j1 : Int)) ⟨3, (k1 : Int), (j1 : Int)⟩ rfl HV.out rfl rfl (told_haz K.out (by omega) hl1 (by omega) hm1) (by unfold Wd; dsimp only; omega) (by have := HIN.out; have := Pl.lim K.out; omega) ?_; intro v3 w3 hv3; have HV3 := Lib.hid hv3; clear hv3)
              exact ⟨⟨j1 + 1, by omega, by go_num, by dsimp only []; rw [show ((j1 + 1 : Nat) : Int) = (j1 : Int) + 1 from rfl, ← Int.add_assoc]; exact HV3.out⟩, by simp [intOf]; omega⟩
            · have hm1' : 3 ≤ (j1 : Int) := by omega
              go_wp2
              have HV4 := HV
              exact ⟨⟨k1 + 1, by omega, by go_num, by rw [show ((k1 + 1 : Nat) : Int) = (k1 : Int) + 1 from rfl, Pl.haz_succ, show 3 = (j1 : Int) by omega]; exact HV4.out⟩, by simp [intOf]; omega⟩
        · have hl1' : p.t ≤ (k1 : Int) := by omega
          have HEND : Hid ((k1 : Int) = p.t) := Lib.hid (by omega)
          go_wp2
          clear p0 p1 p2 p3 p4 p5 pz pl hl1 hl1' hk1
          go_loopw [3, 8] (fun v i wr => WRel p W p.cnt p.t v i wr) (fun _ i _ => (p.t - intOf i).toNat)
          case atStart => exact ⟨0, by omega, rfl, by rw [show ((0 : Nat) : Int) = 0 from rfl, Pl.cnt0, ← HEND.out]; exact HV.out⟩
          case round =>
            clear HV HEND
            obtain ⟨k2, hk2, rfl, hv⟩ := hrel
            have HV := Lib.hid hv
            clear hv
            obtain ⟨p0, p1, p2, p3, p4, p5, pz, pl⟩ := six_at ((HV.out.ext.block bp hbp).trans HB.out)
            by_cases hl2 : (k2 : Int) < p.t
            · have hin := Pl.cnt_in K.out (x := (k2 : Int)) (by omega) (by omega)
              have HIN := Lib.hid hin
              clear hin
              go_wp2_with (at_builtin; refine wpList_word (p := p) (W := W) rfl (.tmp 59) (.tmp 62) rfl _ (p.cnt (k2 : Int)) ⟨4, (k2 : Int), 0⟩ rfl HV.out rfl rfl (told_cnt K.out (by omega) hl2) (by unfold Wd; dsimp only; omega) (by have := HIN.out; omega) ?_; intro v2 w2 hv2; have HV2 := Lib.hid hv2; clear hv2)
              go_loopw [3, 9] (fun v i wr => WRel p W (fun j => p.cnt (k2 : Int) + 1 + j) p.r v i wr) (fun _ i _ => (p.r - intOf i).toNat)
              case atStart => exact ⟨0, by omega, rfl, by dsimp only []; rw [show ((0 : Nat) : Int) = 0 from rfl, Int.add_zero]; exact HV2.out⟩
              case round =>
                clear HV p0 p1 p2 p3 p4 p5 pz pl HV2
                obtain ⟨j2, hj2, rfl, hv⟩ := hrel
                have HV := Lib.hid hv
                clear hv
                obtain ⟨p0, p1, p2, p3, p4, p5, pz, pl⟩ := six_at ((HV.out.ext.block bp hbp).trans HB.out)
                by_cases hm2 : (j2 : Int) < p.r
                · go_wp2_with (at_builtin; refine wpList_word (p := p) (W := W) rfl (.tmp 70) (.tmp 74) rfl _ (p.cnt (k2 : Int) + 1 + (j2 : Int)) ⟨5, (k2 : Int), (j2 : Int)⟩ rfl HV.out rfl rfl (told_ret K.out (by omega) hl2 (by omega) hm2) (by unfold Wd; dsimp only; omega) (by have := HIN.out; have := Pl.lim K.out; omega) ?_; intro v3 w3 hv3; have HV3 := Lib.hid hv3; clear hv3)
                  exact ⟨⟨j2 + 1, by omega, by go_num, by dsimp only []; rw [show ((j2 + 1 : Nat) : Int) = (j2 : Int) + 1 from rfl, ← Int.add_assoc]; exact HV3.out⟩, by simp [intOf]; omega⟩
                · have hm2' : p.r ≤ (j2 : Int) := by omega
                  go_wp2
                  have HV4 := HV
                  exact ⟨⟨k2 + 1, by omega, by go_num, by rw [show ((k2 + 1 : Nat) : Int) = (k2 : Int) + 1 from rfl, Pl.cnt_succ, show p.r = (j2 : Int) by omega]; exact HV4.out⟩, by simp [intOf]; omega⟩
            · have hl2' : p.t ≤ (k2 : Int) := by omega
              have HEND : Hid ((k2 : Int) = p.t) := Lib.hid (by omega)
              go_wp2
              clear p0 p1 p2 p3 p4 p5 pz pl hl2 hl2' hk2
              go_loopw [3, 10] (fun v i wr => WRel p W p.nod p.n v i wr) (fun _ i _ => (p.n - intOf i).toNat)
              case atStart => exact ⟨0, by omega, rfl, by rw [show ((0 : Nat) : Int) = 0 from rfl, Pl.nod0, ← HEND.out]; exact HV.out⟩
              case round =>
                clear HV HEND
                obtain ⟨k3, hk3, rfl, hv⟩ := hrel
                have HV := Lib.hid hv
                clear hv
                obtain ⟨p0, p1, p2, p3, p4, p5, pz, pl⟩ := six_at ((HV.out.ext.block bp hbp).trans HB.out)
                by_cases hl3 : (k3 : Int) < p.n
                · have hin := Pl.nod_in K.out (x := (k3 : Int)) (by omega) (by omega)
                  have HIN := Lib.hid hin
                  clear hin
                  go_wp2_with (at_builtin; refine wpList_word2 (p := p) (W := W) rfl (.tmp 82) (.tmp 87) rfl _ (p.nod (k3 : Int)) ⟨6, (k3 : Int), 0⟩ ⟨7, (k3 : Int), 0⟩ rfl HV.out rfl rfl (told_st K.out (by omega) hl3) (told_nx K.out (by omega) hl3) (by unfold Wd; dsimp only; omega) (by unfold Wd; dsimp only; omega) (by have := HIN.out; omega) ?_; intro v2 w2 hv2; have HV2 := Lib.hid hv2; clear hv2)
                  go_loopw [3, 11] (fun v i wr => WRel p W (fun j => p.nod (k3 : Int) + 2 + j) 3 v i wr) (fun _ i _ => (3 - intOf i).toNat)
                  case atStart => exact ⟨0, by omega, rfl, by dsimp only []; rw [show ((0 : Nat) : Int) = 0 from rfl, Int.add_zero]; exact HV2.out⟩
                  case round =>
                    clear HV p0 p1 p2 p3 p4 p5 pz pl HV2
                    obtain ⟨j3, hj3, rfl, hv⟩ := hrel
                    have HV := Lib.hid hv
                    clear hv
                    obtain ⟨p0, p1, p2, p3, p4, p5, pz, pl⟩ := six_at ((HV.out.ext.block bp hbp).trans HB.out)
                    by_cases hm3 : (j3 : Int) < 3
                    · go_wp2_with (at_builtin; refine wpList_word (p := p) (W := W) rfl (.tmp 93) (.tmp 97) rfl _ (p.nod (k3 : Int) + 2 + (j3 : Int)) ⟨8, (k3 : Int), (j3 : Int)⟩ rfl HV.out rfl rfl (told_fd K.out (by omega) hl3 (by omega) hm3) (by unfold Wd; dsimp only; omega) (by have := HIN.out; have := Pl.lim K.out; omega) ?_; intro v3 w3 hv3; have HV3 := Lib.hid hv3; clear hv3)
                      exact ⟨⟨j3 + 1, by omega, by go_num, by dsimp only []; rw [show ((j3 + 1 : Nat) : Int) = (j3 : Int) + 1 from rfl, ← Int.add_assoc]; exact HV3.out⟩, by simp [intOf]; omega⟩
                    · have hm3' : 3 ≤ (j3 : Int) := by omega
                      go_wp2
                      have HV4 := HV
                      exact ⟨⟨k3 + 1, by omega, by go_num, by rw [show ((k3 + 1 : Nat) : Int) = (k3 : Int) + 1 from rfl, Pl.nod_succ, show 3 = (j3 : Int) by omega]; exact HV4.out⟩, by simp [intOf]; omega⟩
                · have hl3' : p.n ≤ (k3 : Int) := by omega
                  have HEND : Hid ((k3 : Int) = p.n) := Lib.hid (by omega)
                  go_wp2
                  clear p0 p1 p2 p3 p4 p5 pz pl hl3 hl3' hk3
                  go_ret
                  obtain ⟨l, h1, h2, h3, h4⟩ := HV.out
                  exact ⟨_, l, rfl, ext_trans HX.out h2, ts_own h1, h3.trans (by unfold Pl.sizeF; rw [if_pos K.out]; exact congrArg p.nod HEND.out), h4⟩
end Go.Proofs.Ytdbbbefkahmneaa
