/-
  Boxes of ints, as the laws call them; the law's awake. Conditions: those of each theorem.
-/
import Derived.Test.YtfdkihdnpjgicaaInboxInt
import Derived.Test.YtfdkihdnpjgicaaInts
namespace Go.Proofs.Ytfdkihdnpjgicaa
open Go Go.RowKit Go.Conc

section
variable {p c n : Nat} {q : List Value} {w : World}
theorem new_int_at (x : Int) (n : Nat) (hx : x = n) (h1 : 1 ≤ n) (h2 : n ≤ 4096) : Calls Try.prog 8 #[.int .i64 x] w (RetB n w) := by
  subst hx
  exact new_int_yes n h1 h2
theorem len_int_at (h : BoxAt p c n q w) (x : Int) (hx : x = q.length) : Calls Try.prog 13 #[.pointer (some ⟨p, 0, none⟩)] w fun e w' => e = .returned (.int .i64 x) ∧ w = w' := by
  subst hx
  exact len_int h
end

set_option maxHeartbeats 400000 in
theorem awake_any (w : World) : Calls Try.prog 7 #[] w (Ret (.bool true) w) := by
  go_enter Try.func7, Try.ntmps7
  go_wp2_with (first
    | (go_at_call 8; refine (new_int_at 1 1 rfl (by decide) (by decide)).mono ?_; rintro e X ⟨rfl, hB, hX, hs⟩; have HB := Lib.hid hB; have HX := Lib.hid hX; clear hB hX hs)
    | (go_at_call 12; refine (put_int_room HB.out (by decide) _).mono ?_; rintro e Y ⟨rfl, hB, hF, hs⟩; have HB2 := Lib.hid hB; have HY := Lib.hid (hF.below HX.out (Nat.le_refl _)); clear hB hF hs)
    | (go_at_call 13; refine (len_int_at HB2.out 1 rfl).mono ?_; rintro e Z ⟨rfl, rfl⟩))
  go_ret
  exact Ret.mk HY.out

/-- What New comes to, with the number of the new block. -/
structure RetL (lo n : Nat) (w : World) (e : Ending) (w' : World) : Prop where
  e : e = .returned (.tuple #[.pointer (some ⟨lo + 1, 0, none⟩), .int .i64 0])
  box : BoxAt (lo + 1) lo n [] w'
  ext : Ext w w'
  size : w'.heap.size = lo + 2
theorem new_int_lo (lo : Nat) (x : Int) (n : Nat) (hx : x = n) (h1 : 1 ≤ n) (h2 : n ≤ 4096) {w : World} (hlo : w.heap.size = lo) : Calls Try.prog 8 #[.int .i64 x] w (RetL lo n w) := by
  subst hlo
  exact (new_int_at x n hx h1 h2).mono fun e w' h => ⟨h.e, h.box, h.ext, h.size⟩

/-- Ints as things. -/
def vI (l : List Int) : List Value := l.map fun x => Value.int .i64 x
theorem vI_len (l : List Int) : (vI l).length = l.length := by simp [vI]
theorem iN_get (l : List Int) (k : Nat) (hk : k < l.length) : l[k] = iN l k := by
  unfold iN
  rw [List.getD_eq_getElem?_getD, List.getElem?_eq_getElem hk]
  rfl
theorem vI_put (l : List Int) (k : Nat) (hk : k < l.length) : vI (l.take k) ++ [.int .i64 (iN l k)] = vI (l.take (k + 1)) := by
  rw [List.take_succ_eq_append_getElem hk, iN_get l k hk]
  unfold vI
  rw [List.map_append]
  rfl
theorem vI_take (l : List Int) (k : Nat) (hk : k < l.length) : vI (l.drop k) = .int .i64 (iN l k) :: vI (l.drop (k + 1)) := by
  rw [List.drop_eq_getElem_cons hk, iN_get l k hk]
  rfl

end Go.Proofs.Ytfdkihdnpjgicaa
