/-
  The contracts of package mem, with numbers as callers spell them. Conditions: those of each theorem.
-/
import Derived.Test.YthepcnffadjeaaaMemDoY
import Derived.Test.YthepcnffadjeaaaMemNewY
namespace Go.Proofs.Ythepcnffadjeaaa
open Go Go.RowKit

section
variable {lo hi : Nat} {L : Lay} {M : MS} {w : World}

theorem cap_int (h : MemIn lo hi L M w) (r : Int) (E : BitVec 64) (h0 : 0 ≤ r) (h1 : r < M.n) (hE : Hid (M.ep r.toNat = E)) :
    Calls Try.prog 13 #[.pointer (some ⟨L.bm, 0, none⟩), .int .i64 r] w (Ret (.agg #[.int .i64 r, .int .u64 (U E)]) w) := by
  obtain ⟨q, rfl⟩ := Int.eq_ofNat_of_zero_le h0
  have hE' := hE.out
  rw [show ((q : Nat) : Int).toNat = q by omega] at hE'
  rw [← hE']
  exact cap_yes h q (by omega)
theorem peek_int (h : MemIn lo hi L M w) (r j x : Int) (h0 : 0 ≤ r) (h1 : r < M.n) (h2 : 0 ≤ j) (h3 : j < M.sz r.toNat) (hx : Hid (U (M.wd r.toNat j.toNat) = x)) :
    Calls Try.prog 23 #[.pointer (some ⟨L.bm, 0, none⟩), .int .i64 r, .int .i64 j] w (Ret (.int .u64 x) w) := by
  obtain ⟨q, rfl⟩ := Int.eq_ofNat_of_zero_le h0
  obtain ⟨p, rfl⟩ := Int.eq_ofNat_of_zero_le h2
  have hx' := hx.out
  rw [show ((q : Nat) : Int).toNat = q by omega, show ((p : Nat) : Int).toNat = p by omega] at hx'
  rw [show ((q : Nat) : Int).toNat = q by omega] at h3
  rw [← hx']
  exact peek_yes h q p (by omega) (by omega)
theorem do_int (h : MemIn lo hi L M w) (r op at_ e a b was : Int) (E A B : BitVec 64) (M' : MS) (he : e = U E) (ha : a = U A) (hb : b = U B) (hd : DoOk M r E op at_) (hw : Hid (U (M.wd r.toNat at_.toNat) = was)) (hM : Hid (M' = M.done r op at_ A B)) :
    Calls Try.prog 46 #[.pointer (some ⟨L.bm, 0, none⟩), .agg #[.int .i64 r, .int .u64 e], .agg #[.int .i64 op, .int .i64 at_, .int .u64 a, .int .u64 b]] w
      (RetM lo hi L M' (.tuple #[.int .u64 was, .bool true]) w) := by
  subst he ha hb
  rw [← hw.out, hM.out]
  exact do_yes h r op at_ E A B hd
theorem dont_int (h : MemIn lo hi L M w) (r op at_ e a b : Int) (E A B : BitVec 64) (he : e = U E) (ha : a = U A) (hb : b = U B) (hd : ¬ DoOk M r E op at_) :
    Calls Try.prog 46 #[.pointer (some ⟨L.bm, 0, none⟩), .agg #[.int .i64 r, .int .u64 e], .agg #[.int .i64 op, .int .i64 at_, .int .u64 a, .int .u64 b]] w (Ret (.tuple #[.int .u64 0, .bool false]) w) := by
  subst he ha hb
  exact do_no h r op at_ E A B hd
theorem bump_int (h : MemIn lo hi L M w) (r : Int) (E : BitVec 64) (h0 : 0 ≤ r) (h1 : r < M.n) (hE : Hid (M.ep r.toNat + 1#64 = E)) :
    Calls Try.prog 16 #[.pointer (some ⟨L.bm, 0, none⟩), .int .i64 r] w (RetM lo hi L (M.bump r.toNat) (.tuple #[.agg #[.int .i64 r, .int .u64 (U E)], .int .i64 0]) w) := by
  obtain ⟨q, rfl⟩ := Int.eq_ofNat_of_zero_le h0
  have hE' := hE.out
  rw [show ((q : Nat) : Int).toNat = q by omega] at hE' ⊢
  rw [← hE']
  exact bump_yes h q (by omega)
theorem count_at (h : MemIn lo hi L M w) (c : Int) (hc : Hid (M.ct = c)) : Calls Try.prog 25 #[.pointer (some ⟨L.bm, 0, none⟩)] w (Ret (.int .i64 c) w) := by
  rw [← hc.out]
  exact count_any h
theorem cap_at (h : MemIn lo hi L M w) (r x : Int) (h0 : 0 ≤ r) (h1 : r < M.n) (hE : Hid (U (M.ep r.toNat) = x)) :
    Calls Try.prog 13 #[.pointer (some ⟨L.bm, 0, none⟩), .int .i64 r] w (Ret (.agg #[.int .i64 r, .int .u64 x]) w) := by
  rw [← hE.out]
  exact cap_int h r _ h0 h1 (Lib.hid rfl)
/-- New of sizes that stand in a row of the caller's. -/
theorem new_row (l : List Int) (cs : Array Value) (n : Nat) (w : World) (hcs : cs = (l.map fun x => Value.int .i64 x).toArray) (hn : n = l.length) (hok : SizesOk l) :
    Calls Try.prog 10 #[.slice (some ⟨w.heap.size, 0, none⟩) n n] (w.alloc (.cells cs 3)) (RetNew l (w.alloc (.cells cs 3))) := by
  subst hcs hn
  exact new_yes l _ _ hok (is_new w l 3)
/-- The same, with what a law wants of it. -/
def RetLaw (l : List Int) (w0 : World) (e : Ending) (X : World) : Prop :=
  ∃ (lo hi : Nat) (L : Lay), e = .returned (.tuple #[.pointer (some ⟨L.bm, 0, none⟩), .int .i64 0]) ∧ MemIn lo hi L (M0 l l.length) X ∧ Ext w0 X ∧ w0.heap.size ≤ lo
theorem new_law (l : List Int) (cs : Array Value) (n : Nat) {w0 w : World} (h : Ext w0 w) (hcs : cs = (l.map fun x => Value.int .i64 x).toArray) (hn : n = l.length) (hok : SizesOk l) :
    Calls Try.prog 10 #[.slice (some ⟨w.heap.size, 0, none⟩) n n] (w.alloc (.cells cs 3)) (RetLaw l w0) :=
  (new_row l cs n w hcs hn hok).mono fun e X ⟨L, he, hM, hX⟩ => ⟨_, _, L, he, hM, ext_trans (ext_alloc _ h) hX, by have := h.size; simp; omega⟩
end
theorem fit_lit (l : List Int) (h : l.length ≤ 65) (hs : ∀ i, i < l.length → 0 ≤ iN l i ∧ iN l i ≤ 16777216 - sumTo l i) : SizesOk l := ⟨h, hs⟩

theorem ok2 : SizesOk [2] := ⟨by decide, fun i hi => by
  obtain rfl : i = 0 := by simp at hi; omega
  decide⟩
theorem U_7 : U 7#64 = 7 := U_of _ _ (by decide)
theorem U_1 : U 1#64 = 1 := U_of _ _ (by decide)

end Go.Proofs.Ythepcnffadjeaaa
