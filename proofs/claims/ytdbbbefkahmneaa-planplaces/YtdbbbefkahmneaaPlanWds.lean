/-
  What the call of a plan's Words comes to. Conditions: those of each theorem.
-/
import Derived.Test.YtdbbbefkahmneaaPlanWordsW
import Derived.Test.YtdbbbefkahmneaaInts
namespace Go.Proofs.Ytdbbbefkahmneaa
open Go Go.RowKit

/-- What Words answers. -/
def Pl.wdsF (p : Pl) (x : Int) : List Int := if p.ok ∧ 0 ≤ x ∧ x < p.n then [p.fdF x 0, p.fdF x 1, p.fdF x 2] else []
def RetWds (p : Pl) (x : Int) (w : World) (e : Ending) (w' : World) : Prop := ∃ v, e = .returned v ∧ Ext w w' ∧ Is w' v (p.wdsF x)
theorem Try.infoIntP : (Try.prog.info? 3).map (fun i => (i.zero, i.size, i.bytes)) = some (some (.int .i64 0), 1, 8) := by kernel_rfl
theorem int_info : ∃ i, Try.prog.info? 3 = some i ∧ i.zero = some (.int .i64 0) ∧ i.size = 1 ∧ i.bytes = 8 := by
  have h := Try.infoIntP
  cases hi : Try.prog.info? 3 with
  | none => rw [hi] at h; cases h
  | some i =>
    rw [hi] at h
    simp at h
    exact ⟨i, rfl, h.1, h.2.1, h.2.2⟩
theorem made3 {w : World} {base g : Nat} {t : TypeId} (h : w.ownsRow base t 1 (.slice (some ⟨g, 0, none⟩) 3 3) 3 (madeCells (Value.int .i64 0).cells (3 * 1)).toList) :
    w.heap[g]? = some (.cells #[.int .i64 0, .int .i64 0, .int .i64 0] t (0, 0)) := by
  rcases h.2 with ⟨h1, _⟩ | ⟨g', cap, cur, h1, _, hh, _, _, hs, ht⟩
  · cases h1
  · simp at h1
    obtain ⟨rfl, rfl⟩ := h1
    have e1 : (madeCells (Value.int IntKind.i64 0).cells 3).toList = List.replicate 3 (Value.int .i64 0) := toList_madeCells_one _ _
    rw [Nat.mul_one, e1, List.take_of_length_le (by simp; omega)] at ht
    have : cur = #[.int .i64 0, .int .i64 0, .int .i64 0] := by
      apply Array.toList_inj.1
      rw [ht]
      rfl
    rw [hh, this]
/-- The fields' row, with k of them laid. -/
def fdA (p : Pl) (x : Int) (k : Nat) : Array Value := #[.int .i64 (if 0 < k then p.fdF x 0 else 0), .int .i64 (if 1 < k then p.fdF x 1 else 0), .int .i64 (if 2 < k then p.fdF x 2 else 0)]
theorem fdA_at (p : Pl) (x : Int) (k : Nat) (h : k < 3) : ∃ y, (fdA p x k)[k]? = some (.int .i64 y) := by
  rcases (show k = 0 ∨ k = 1 ∨ k = 2 by omega) with rfl | rfl | rfl <;> exact ⟨_, rfl⟩
theorem fdA_set (p : Pl) (x : Int) (k : Nat) (h : k < 3) : (fdA p x k).setIfInBounds k (.int .i64 (p.fdF x (k : Int))) = fdA p x (k + 1) := by
  rcases (show k = 0 ∨ k = 1 ∨ k = 2 by omega) with rfl | rfl | rfl <;> rfl
/-- In the midst of Words' loop. -/
structure WdIn (p : Pl) (x : Int) (W : World) (bl k : Nat) (wr : World) : Prop where
  ext : Ext W wr
  row : wr.heap[bl]? = some (.cells (fdA p x k) 3 (0, 0))
def WdRel (p : Pl) (x : Int) (W : World) (bl : Nat) (i : Value) (wr : World) : Prop := ∃ k : Nat, k ≤ 3 ∧ i = .int .i64 (k : Int) ∧ WdIn p x W bl k wr

set_option maxRecDepth 8000 in
set_option maxHeartbeats 2000000 in
theorem wds_any (p : Pl) (x : Int) (w : World) : Calls Try.prog 15 #[plV p, .int .i64 x] w (RetWds p x w) := by
  by_cases hq : p.ok ∧ 0 ≤ x ∧ x < p.n
  · have E : p.stF x = p.nod x := by unfold Pl.stF; rw [if_pos hq]
    have hb := Pl.nod_in hq.1 hq.2.1 (Int.le_of_lt hq.2.2)
    have Q := Lib.hid hq
    clear hq
    go_enter Try.func15, Try.ntmps15
    obtain ⟨iU, hiU, hy0, hy1, hy2⟩ := int_info
    go_wp2_with (first
      | (go_at_call 21; refine (state_any p _ _).mono ?_; rintro e w' hr'; obtain ⟨rfl, s, rfl⟩ := hr'.over; clear hr')
      | (at_make; refine Hid.out ?_))
    refine Lib.hid ?_
    have HX : Hid (Ext w (over (w.alloc (.cells #[.int .i64 p.n, .int .i64 p.t, .int .i64 p.r, .int .i64 p.d, .int .i64 p.b, .int .i64 p.g] 23)) s)) := Lib.hid (ext_over s (ext_alloc _ (ext_refl w)))
    obtain ⟨bp, hbp⟩ : ∃ bp, bp = w.heap.size := ⟨_, rfl⟩
    have HB : Hid ((over (w.alloc (.cells #[.int .i64 p.n, .int .i64 p.t, .int .i64 p.r, .int .i64 p.d, .int .i64 p.b, .int .i64 p.g] 23)) s).heap[bp]? = some (.cells #[.int .i64 p.n, .int .i64 p.t, .int .i64 p.r, .int .i64 p.d, .int .i64 p.b, .int .i64 p.g] 23 (0, 0))) := Lib.hid (by subst hbp; rw [(over_below _ _).block _ (by simp)]; exact hp_at _ _ _ rfl)
    rw [← hbp]
    generalize (over (w.alloc (.cells #[.int .i64 p.n, .int .i64 p.t, .int .i64 p.r, .int .i64 p.d, .int .i64 p.b, .int .i64 p.g] 23)) s) = W at HX HB ⊢
    clear hbp
    have hbp := hp_lt HB.out
    refine wpList_make_full _ rfl (.const (.int .i64 3)) (.const (.int .i64 3)) 30 rfl W.heap.size 3 iU (.int .i64 0) 1 Try.underlying30 hiU hy0 hy1 .i64 .i64 3 3 3 rfl rfl rfl rfl (by rw [hy2]; omega) (by unfold maxLen; omega) (Nat.le_refl _) ?_
    intro w1 ho1 hg1
    have HR : Hid (WdIn p x W W.heap.size 0 w1) := Lib.hid ⟨(ext_refl W).grown hg1 (Nat.le_refl _) (fun k hk => by cases hk), made3 ho1⟩
    clear ho1 hg1
    obtain ⟨bl, hbl⟩ : ∃ bl, bl = W.heap.size := ⟨_, rfl⟩
    rw [← hbl] at HR ⊢
    have n1 : bl ≠ bp := by omega
    have n2 : bp ≠ bl := by omega
    have HBL := Lib.hid hbl
    clear hbl
    go_wp2
    go_loopw [12] (fun i wr => WdRel p x W bl i wr) (fun i _ => (3 - intOf i).toNat)
    case atStart => exact ⟨0, Nat.zero_le _, rfl, HR.out⟩
    case round =>
      clear HR
      obtain ⟨k, hk, rfl, hR⟩ := hrel
      have HR := Lib.hid hR
      clear hR
      obtain ⟨p0, p1, p2, p3, p4, p5, pz, pl⟩ := six_at ((HR.out.ext.block bp hbp).trans HB.out)
      have bz : ∀ o, wr.frozen? ⟨bl, o, none⟩ = false := fun _ => free_at HR.out.row
      have bll := hp_lt HR.out.row
      by_cases hlt : k < 3
      · obtain ⟨y, hy⟩ := fdA_at p x k hlt
        have bc := cell_at HR.out.row hy
        clear hy
        go_wp2_with (go_at_call 19; refine (field_any p _ _ _).mono ?_; rintro e w' hr'; obtain ⟨rfl, s1, rfl⟩ := hr'.over; clear hr')
        refine ⟨⟨k + 1, by omega, by go_num, ?_⟩, by simp [intOf]; omega⟩
        refine ⟨ext_set _ (by show W.heap.size ≤ bl; have := HBL.out; omega) (ext_over s1 HR.out.ext), ?_⟩
        rw [← fdA_set p x k hlt]
        exact set_same _ (((over_below wr s1).block bl bll).trans HR.out.row)
      · obtain rfl : k = 3 := by omega
        go_wp2
        go_ret
        refine ⟨_, rfl, ext_trans HX.out HR.out.ext, ?_⟩
        unfold Pl.wdsF
        rw [if_pos Q.out]
        refine ⟨_, _, rfl, Nat.le_refl _, fun _ => ⟨bl, 0, rfl, bll, fun i hi => ?_⟩⟩
        rw [Nat.zero_add]
        refine cell_at HR.out.row ?_
        rcases (show i = 0 ∨ i = 1 ∨ i = 2 by simp at hi; omega) with rfl | rfl | rfl <;> rfl
  · have E : p.stF x = -1 := by unfold Pl.stF; rw [if_neg hq]
    have Q := Lib.hid hq
    clear hq
    go_enter Try.func15, Try.ntmps15
    go_wp2_with (first | (go_at_call 21; refine (state_any p _ _).mono ?_; rintro e w' hr'; obtain ⟨rfl, s, rfl⟩ := hr'.over; clear hr'))
    go_ret
    refine ⟨_, rfl, by repeat (first | exact ext_refl _ | apply ext_over | apply ext_alloc), ?_⟩
    unfold Pl.wdsF
    rw [if_neg Q.out]
    exact ⟨none, 0, rfl, Nat.le_refl _, fun h => absurd h (Nat.not_lt_zero _)⟩
end Go.Proofs.Ytdbbbefkahmneaa
