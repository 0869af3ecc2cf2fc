/-
  What the calls of Bump and of Do come to. Conditions: those of each theorem.
-/
import Derived.Test.YthepcnffadjeaaaMemDo
namespace Go.Proofs.Ythepcnffadjeaaa
open Go Go.RowKit

section
variable {lo hi : Nat} {L : Lay} {M : MS} {w : World}

theorem U_inc (x : BitVec 64) : IntKind.u64.wrap (U x + 1) = U (x + 1#64) := by
  have h := U_add x 1#64
  rw [show U 1#64 = 1 from U_of _ _ (by decide)] at h
  exact h
attribute [go_sem] U_inc U_add
theorem bump_ep (M : MS) (r : Nat) : (M.bump r).ep r = M.ep r + 1#64 := by simp [MS.bump]

set_option maxHeartbeats 400000 in
theorem bump_no (h : MemIn lo hi L M w) (r : Int) (hr : ¬ (0 ≤ r ∧ r < M.n)) :
    Calls Try.prog 16 #[.pointer (some ⟨L.bm, 0, none⟩), .int .i64 r] w (Ret (.tuple #[.agg #[.int .i64 0, .int .u64 0], .int .i64 1]) w) := by
  have H := Lib.hid h
  have HR := Lib.hid hr
  clear h hr
  go_enter Try.func16, Try.ntmps16
  go_wp2_with (go_at_call 30; refine (find_no (H.out.alloc _) r HR.out).mono ?_; rintro e w' ⟨rfl, rfl⟩)
  exact bodyPost_ret (v := .tuple #[.agg #[.int .i64 0, .int .u64 0], .int .i64 1]) (by simp [results, Try.results16, go_sem]) rfl (Ret.mk (by repeat (first | exact ext_refl _ | apply ext_over | apply ext_alloc | (refine ext_set _ ?_ ?_; exact Nat.le_refl _))))

set_option maxHeartbeats 400000 in
theorem bump_yes (h : MemIn lo hi L M w) (r : Nat) (hr : r < M.n) :
    Calls Try.prog 16 #[.pointer (some ⟨L.bm, 0, none⟩), .int .i64 (r : Int)] w (RetM lo hi L (M.bump r) (.tuple #[.agg #[.int .i64 (r : Int), .int .u64 (U (M.ep r + 1#64))], .int .i64 0]) w) := by
  have c0 := h.r1 hr
  have cz := h.rz hr 1
  have hlt := h.lt (h.reg r hr).2.1
  have h1 := (h.reg r hr).1
  have h2 := (h.reg r hr).2.1
  have ht := h.top
  have H := Lib.hid h
  have E := bump_ep M r
  have HC := fun (w : World) (hh : MemIn lo hi L (M.bump r) w) => cap_yes hh r hr
  rw [E] at HC
  have HC' := Lib.hid HC
  clear h E HC
  go_enter Try.func16, Try.ntmps16
  go_wp2_with (first
    | (go_at_call 30; refine (find_yes (H.out.alloc _) r hr).mono ?_; rintro e w' ⟨rfl, rfl⟩)
    | (go_at_call 13; refine (HC'.out _ ((H.out.setEpoch hr).alloc _)).mono ?_; rintro e w' hr'; obtain ⟨rfl, s, rfl⟩ := hr'.over; clear hr'))
  refine bodyPost_ret (v := .tuple #[.agg #[.int .i64 (r : Int), .int .u64 (U (M.ep r + 1#64))], .int .i64 0]) (by simp [results, Try.results16, go_sem]) rfl ⟨rfl, ?_, ?_⟩
  · repeat (first | refine MemIn.setFar ?_ _ (Or.inr ht) | apply MemIn.over | exact (H.out.setEpoch hr).alloc _)
  · repeat (first | exact Fr.refl _ _ _ | apply Fr.over | apply Fr.alloc | (refine Fr.setNew _ ?_ (Nat.le_refl _)) | (refine Fr.set _ ?_ h1 h2))

set_option maxHeartbeats 400000 in
/-- The access may not be done. -/
theorem do_no (h : MemIn lo hi L M w) (r op at_ : Int) (e a b : BitVec 64) (hn : ¬ DoOk M r e op at_) :
    Calls Try.prog 46 #[.pointer (some ⟨L.bm, 0, none⟩), .agg #[.int .i64 r, .int .u64 (U e)], .agg #[.int .i64 op, .int .i64 at_, .int .u64 (U a), .int .u64 (U b)]] w (Ret (.tuple #[.int .u64 0, .bool false]) w) := by
  have H := Lib.hid h
  clear h
  by_cases hg : Good M r e
  · obtain ⟨hg0, hg1, hg2⟩ := hg
    obtain ⟨q, rfl⟩ := Int.eq_ofNat_of_zero_le hg0
    have hr' : q < M.n := by omega
    rw [show ((q : Nat) : Int).toNat = q by omega] at hg2
    have HE : Hid (M.ep q = e) := Lib.hid hg2
    have hn' : ¬ (0 ≤ at_ ∧ at_ < M.sz q ∧ 0 ≤ op ∧ op ≤ 3) := fun hh => hn ⟨⟨hg0, hg1, by rw [show ((q : Nat) : Int).toNat = q by omega]; exact hg2⟩, hh.1, by rw [show ((q : Nat) : Int).toNat = q by omega]; exact hh.2.1, hh.2.2.1, hh.2.2.2⟩
    clear hg2 hn hg0 hg1
    by_cases hj : 0 ≤ at_ ∧ at_ < M.sz q
    · obtain ⟨j, rfl⟩ := Int.eq_ofNat_of_zero_le hj.1
      have hj' : j < M.sz q := by omega
      by_cases ho : 0 ≤ op
      · have h3 : 3 < op := by omega
        clear hn' hj
        go_enter Try.func46, Try.ntmps46
        go_wp2_with (first
          | (go_at_call 52; refine (good_yes ((H.out.alloc _).alloc _) q e hr' HE).mono ?_; rintro e w' hr'; obtain ⟨rfl, s, rfl⟩ := hr'.over; clear hr')
          | (go_at_call 30; refine (find_yes (((H.out.alloc _).alloc _).over s) q hr').mono ?_; rintro e w' ⟨rfl, rfl⟩)
          | (go_at_call 40; refine (has_yes (((H.out.alloc _).alloc _).over s) q hr' j hj').mono ?_; rintro e w' ⟨rfl, rfl⟩))
        go_ret2
        exact Ret.mk (by repeat (first | exact ext_refl _ | apply ext_over | apply ext_alloc))
      · have h3 : op < 0 := by omega
        clear hn' hj ho
        go_enter Try.func46, Try.ntmps46
        go_wp2_with (first
          | (go_at_call 52; refine (good_yes ((H.out.alloc _).alloc _) q e hr' HE).mono ?_; rintro e w' hr'; obtain ⟨rfl, s, rfl⟩ := hr'.over; clear hr')
          | (go_at_call 30; refine (find_yes (((H.out.alloc _).alloc _).over s) q hr').mono ?_; rintro e w' ⟨rfl, rfl⟩)
          | (go_at_call 40; refine (has_yes (((H.out.alloc _).alloc _).over s) q hr' j hj').mono ?_; rintro e w' ⟨rfl, rfl⟩))
        go_ret2
        exact Ret.mk (by repeat (first | exact ext_refl _ | apply ext_over | apply ext_alloc))
    · have HJ := Lib.hid hj
      clear hn' hj
      go_enter Try.func46, Try.ntmps46
      go_wp2_with (first
        | (go_at_call 52; refine (good_yes ((H.out.alloc _).alloc _) q e hr' HE).mono ?_; rintro e w' hr'; obtain ⟨rfl, s, rfl⟩ := hr'.over; clear hr')
        | (go_at_call 30; refine (find_yes (((H.out.alloc _).alloc _).over s) q hr').mono ?_; rintro e w' ⟨rfl, rfl⟩)
        | (go_at_call 40; refine (has_no (((H.out.alloc _).alloc _).over s) q hr' _ HJ.out).mono ?_; rintro e w' ⟨rfl, rfl⟩))
      go_ret2
      exact Ret.mk (by repeat (first | exact ext_refl _ | apply ext_over | apply ext_alloc))
  · have HG := Lib.hid hg
    clear hg hn
    go_enter Try.func46, Try.ntmps46
    go_wp2_with (go_at_call 52; refine (good_no ((H.out.alloc _).alloc _) r e HG.out).mono ?_; rintro e w' hr'; obtain ⟨rfl, s, rfl⟩ := hr'.over; clear hr')
    go_ret2
    exact Ret.mk (by repeat (first | exact ext_refl _ | apply ext_over | apply ext_alloc))
end
end Go.Proofs.Ythepcnffadjeaaa
