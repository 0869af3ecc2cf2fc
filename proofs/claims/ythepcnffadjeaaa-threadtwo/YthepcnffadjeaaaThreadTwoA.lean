/-
  Slices of bytes and of bools as arguments; two workers that add numbers: plain facts. Conditions: those of each theorem.
-/
import Derived.Test.YthepcnffadjeaaaThreadLaw
import Derived.Test.YthepcnffadjeaaaVals
namespace Go.Proofs.Ythepcnffadjeaaa
open Go Go.ChangeShapes Go.WideShapes Go.RowKit

/-- A slice of bytes, as words. -/
def Bs (w : World) (v : Value) (l : List (BitVec 64)) : Prop :=
  ∃ a0 cap, v = .slice a0 l.length cap ∧ l.length ≤ cap ∧ (0 < l.length → ∃ b o, a0 = some ⟨b, o, none⟩ ∧ b < w.heap.size ∧ ∀ i, i < l.length → w.cell? ⟨b, o + i, none⟩ = some (.int .u8 (U (uN l i))) ∧ U (uN l i) ≤ 255)
theorem Bs.at {w : World} {a0 : Option Addr} {m cap : Nat} {l : List (BitVec 64)} (h : Bs w (.slice a0 m cap) l) (hl : 0 < l.length) : ∃ b o, a0 = some ⟨b, o, none⟩ ∧ b < w.heap.size ∧ ∀ i, i < l.length → w.cell? ⟨b, o + i, none⟩ = some (.int .u8 (U (uN l i))) ∧ U (uN l i) ≤ 255 := by
  obtain ⟨a, c', e, _, hr⟩ := h
  simp at e
  obtain ⟨rfl, rfl, rfl⟩ := e
  exact hr hl
/-- A slice of bools. -/
def Bl (w : World) (v : Value) (l : List Bool) : Prop :=
  ∃ a0 cap, v = .slice a0 l.length cap ∧ l.length ≤ cap ∧ (0 < l.length → ∃ b o, a0 = some ⟨b, o, none⟩ ∧ b < w.heap.size ∧ ∀ i, i < l.length → w.cell? ⟨b, o + i, none⟩ = some (.bool (l.getD i false)))
theorem Bl.at {w : World} {a0 : Option Addr} {m cap : Nat} {l : List Bool} (h : Bl w (.slice a0 m cap) l) (hl : 0 < l.length) : ∃ b o, a0 = some ⟨b, o, none⟩ ∧ b < w.heap.size ∧ ∀ i, i < l.length → w.cell? ⟨b, o + i, none⟩ = some (.bool (l.getD i false)) := by
  obtain ⟨a, c', e, _, hr⟩ := h
  simp at e
  obtain ⟨rfl, rfl, rfl⟩ := e
  exact hr hl
theorem bs_of_rs {w : World} {v : Value} {n : Nat} {x : Nat → Nat → Int} (h : Rs 1 (fun _ => .u8) w v n x) : ∃ l, Bs w v l := by
  obtain ⟨a0, cap, e, hc, hr⟩ := h
  refine ⟨(List.range n).map fun i => toW (x i 0), a0, cap, by simpa using e, by simpa using hc, fun hp => ?_⟩
  obtain ⟨b, o, ea, hb, hcell⟩ := hr (by simpa using hp)
  refine ⟨b, o, ea, hb, fun i hi => ?_⟩
  have hi' : i < n := by simpa using hi
  obtain ⟨h1, h2⟩ := hcell i hi' 0 (by omega)
  have hb8 := bounds_u8 h2
  rw [Nat.mul_one, Nat.add_zero] at h1
  have e1 : uN ((List.range n).map fun i => toW (x i 0)) i = toW (x i 0) := by unfold uN; exact getD_range _ n i _ hi'
  have e2 : U (toW (x i 0)) = x i 0 := by
    unfold toW
    rw [U_toNat, BitVec.toNat_ofNat]
    omega
  rw [e1, e2]
  exact ⟨h1, hb8.2⟩
theorem bl_of_rv {w : World} {v : Value} {n : Nat} {x : Nat → Nat → Value} (h : Rv 1 (fun _ => some none) w v n x) : ∃ l, Bl w v l := by
  obtain ⟨a0, cap, e, hc, hr⟩ := h
  have each : ∀ i, ∃ z : Bool, (0 < n → i < n → x i 0 = .bool z) := fun i => by
    by_cases hi : 0 < n ∧ i < n
    · obtain ⟨b, o, ea, hb, hcell⟩ := hr hi.1
      obtain ⟨_, z, hz⟩ := hcell i hi.2 0 (by omega)
      exact ⟨z, fun _ _ => hz⟩
    · exact ⟨false, fun h1 h2 => absurd ⟨h1, h2⟩ hi⟩
  obtain ⟨z, hz⟩ := Classical.axiomOfChoice each
  refine ⟨(List.range n).map z, a0, cap, by simpa using e, by simpa using hc, fun hp => ?_⟩
  have hp' : 0 < n := by simpa using hp
  obtain ⟨b, o, ea, hb, hcell⟩ := hr hp'
  refine ⟨b, o, ea, hb, fun i hi => ?_⟩
  have hi' : i < n := by simpa using hi
  have h1 := (hcell i hi' 0 (by omega)).1
  rw [Nat.mul_one, Nat.add_zero, hz i hp' hi'] at h1
  rw [getD_range z n i false hi']
  exact h1

/-- The sum of words. -/
def bsum (l : List (BitVec 64)) : BitVec 64 := l.foldr (· + ·) 0#64
theorem bsum_snoc (l : List (BitVec 64)) (x : BitVec 64) : bsum (l ++ [x]) = bsum l + x := by
  unfold bsum
  induction l with
  | nil => simp
  | cons a l ih => simp only [List.cons_append, List.foldr_cons, ih, BitVec.add_assoc]
theorem uN_get (l : List (BitVec 64)) (k : Nat) (hk : k < l.length) : l[k] = uN l k := by
  simp [uN, List.getD_eq_getElem?_getD, hk]
theorem bsum_take (l : List (BitVec 64)) (k : Nat) (hk : k < l.length) : bsum (l.take (k + 1)) = bsum (l.take k) + uN l k := by
  rw [List.take_succ_eq_append_getElem hk, bsum_snoc, uN_get l k hk]
theorem drop_cons' (l : List (BitVec 64)) (k : Nat) (hk : k < l.length) : l.drop k = uN l k :: l.drop (k + 1) := by
  rw [List.drop_eq_getElem_cons hk, uN_get l k hk]
/-- What the two are given. -/
def xL (x : BitVec 64) : List Acc := [⟨3, 0, x, 0#64⟩, accZ]
def yL (x : BitVec 64) : List Acc := [⟨3, 0, x, 0#64⟩]
/-- A worker that isn't busy, with lists that wait. -/
def wait20 (ls : List (List Acc)) : WS := ⟨20, ls, false, [], []⟩
theorem wait_x (A : List (BitVec 64)) (k : Nat) (hk : k < A.length) : (wait20 ((A.take k).map xL)).give (xL (uN A k)) = wait20 ((A.take (k + 1)).map xL) := by
  unfold wait20 WS.give
  simp only
  rw [List.take_succ_eq_append_getElem hk, List.map_append, uN_get A k hk]
  rfl
theorem wait_y (A : List (BitVec 64)) (k : Nat) (hk : k < A.length) : (wait20 ((A.take k).map yL)).give (yL (uN A k)) = wait20 ((A.take (k + 1)).map yL) := by
  unfold wait20 WS.give
  simp only
  rw [List.take_succ_eq_append_getElem hk, List.map_append, uN_get A k hk]
  rfl
/-- The first worker, behind j accesses; the second one. -/
def XSt (A : List (BitVec 64)) (j : Nat) (S : WS) : Prop :=
  (j % 2 = 0 ∧ S.busy = false ∧ S.q = (A.drop (j / 2)).map xL) ∨ (j % 2 = 1 ∧ S.busy = true ∧ S.l = [accZ] ∧ S.q = (A.drop (j / 2 + 1)).map xL)
def YSt (B : List (BitVec 64)) (j : Nat) (S : WS) : Prop := S.busy = false ∧ S.q = (B.drop j).map yL
/-- The memory, behind c accesses: the sum s. -/
structure AddSt (M : MS) (s : BitVec 64) (c : Int) : Prop where
  n : M.n = 1
  z : M.sz 0 = 1
  e : M.ep 0 = 1#64
  s : M.wd 0 0 = s
  c : M.ct = c
theorem AddSt.ok3 {M : MS} {s : BitVec 64} {c : Int} (h : AddSt M s c) (op : Int) (h0 : 0 ≤ op) (h3 : op ≤ 3) : DoOk M 0 1#64 op 0 :=
  ⟨⟨by decide, by rw [h.n]; decide, h.e⟩, by decide, by show (0 : Int) < (M.sz 0 : Int); rw [h.z]; decide, h0, h3⟩
theorem AddSt.add {M : MS} {s : BitVec 64} {c : Int} (h : AddSt M s c) (x b : BitVec 64) (h0 : 0 ≤ c) (h1 : c ≤ 1000) : AddSt (M.done 0 3 0 x b) (s + x) (c + 1) := by
  refine ⟨h.n, h.z, h.e, ?_, ?_⟩
  · show (if (0 : Nat) = 0 ∧ (0 : Nat) = 0 then nextW 3 (M.wd 0 0) x b else M.wd 0 0) = _
    rw [if_pos ⟨rfl, rfl⟩, h.s]
    simp [nextW]
  · show wrap64 (M.ct + 1) = _
    rw [h.c]
    unfold wrap64
    omega
theorem AddSt.load {M : MS} {s : BitVec 64} {c : Int} (h : AddSt M s c) (h0 : 0 ≤ c) (h1 : c ≤ 1000) : AddSt (M.done 0 0 0 0#64 0#64) s (c + 1) := by
  refine ⟨h.n, h.z, h.e, ?_, ?_⟩
  · show (if (0 : Nat) = 0 ∧ (0 : Nat) = 0 then nextW 0 (M.wd 0 0) 0#64 0#64 else M.wd 0 0) = _
    rw [if_pos ⟨rfl, rfl⟩, h.s]
    simp [nextW]
  · show wrap64 (M.ct + 1) = _
    rw [h.c]
    unfold wrap64
    omega
/-- What a pick comes to: the state alone. -/
def Gets (M : MS) (S : WS) (M' : MS) (S' : WS) : Prop := ∃ kd R, pickF 0 1#64 M S = (M', S', kd, R)
theorem x_pick {A : List (BitVec 64)} {j : Nat} {M : MS} {S : WS} {s : BitVec 64} {c : Int} (hS : XSt A j S) (hM : AddSt M s c) (hj : j < 2 * A.length) (h0 : 0 ≤ c) (h1 : c ≤ 1000) :
    ∃ M' S' x, pickF 0 1#64 M S = (M', S', x) ∧ XSt A (j + 1) S' ∧ AddSt M' (s + if j % 2 = 0 then uN A (j / 2) else 0#64) (c + 1) := by
  rcases hS with ⟨h2, hb, hq⟩ | ⟨h2, hb, hl, hq⟩
  · rw [drop_cons' A (j / 2) (by omega), List.map_cons] at hq
    refine ⟨_, _, _, (pickF_begin hb hq).trans (goF_step (a := ⟨3, 0, uN A (j / 2), 0#64⟩) (a2 := accZ) (l := []) rfl (hM.ok3 3 (by decide) (by decide))), .inr ⟨by omega, rfl, rfl, ?_⟩, ?_⟩
    · show (A.drop (j / 2 + 1)).map xL = (A.drop ((j + 1) / 2 + 1)).map xL
      rw [show (j + 1) / 2 = j / 2 by omega]
    · rw [if_pos h2]
      exact hM.add _ _ h0 h1
  · refine ⟨_, _, _, (pickF_busy hb).trans (goF_last (a := accZ) hl (hM.ok3 0 (by decide) (by decide))), .inl ⟨by omega, rfl, ?_⟩, ?_⟩
    · show S.q = (A.drop ((j + 1) / 2)).map xL
      rw [hq, show (j + 1) / 2 = j / 2 + 1 by omega]
    · rw [if_neg (by omega), BitVec.add_zero]
      exact hM.load h0 h1
theorem x_idle {A : List (BitVec 64)} {M : MS} {S : WS} (hS : XSt A (2 * A.length) S) : pickF 0 1#64 M S = (M, S, 0, []) ∧ S.busy = false := by
  rcases hS with ⟨_, hb, hq⟩ | ⟨h2, _⟩
  · rw [show 2 * A.length / 2 = A.length by omega, List.drop_length] at hq
    exact ⟨pickF_idle hb hq, hb⟩
  · omega
theorem y_pick {B : List (BitVec 64)} {j : Nat} {M : MS} {S : WS} {s : BitVec 64} {c : Int} (hS : YSt B j S) (hM : AddSt M s c) (hj : j < B.length) (h0 : 0 ≤ c) (h1 : c ≤ 1000) :
    ∃ M' S' x, pickF 0 1#64 M S = (M', S', x) ∧ YSt B (j + 1) S' ∧ AddSt M' (s + uN B j) (c + 1) := by
  obtain ⟨hb, hq⟩ := hS
  rw [drop_cons' B j hj, List.map_cons] at hq
  exact ⟨_, _, _, (pickF_begin hb hq).trans (goF_last (a := ⟨3, 0, uN B j, 0#64⟩) rfl (hM.ok3 3 (by decide) (by decide))), ⟨rfl, rfl⟩, hM.add _ _ h0 h1⟩
theorem y_idle {B : List (BitVec 64)} {M : MS} {S : WS} (hS : YSt B B.length S) : pickF 0 1#64 M S = (M, S, 0, []) := by
  obtain ⟨hb, hq⟩ := hS
  rw [List.drop_length] at hq
  exact pickF_idle hb hq

/-- Two workers over one memory. -/
structure TwoIn (D : Nat → Prop) (lo hi : Nat) (L : Lay) (q : Nat) (M : MS) (S T : WS) (w wr : World) : Prop where
  x : LawIn D lo hi L q M S w wr
  y : LawIn D lo hi L (q + 3) M T w wr
section
variable {D : Nat → Prop} {lo hi : Nat} {L : Lay} {q : Nat} {M : MS} {S T : WS} {w wr wr' : World}
theorem TwoIn.grow (h : TwoIn D lo hi L q M S T w wr) (hx : Ext wr wr') : TwoIn D lo hi L q M S T w wr' := ⟨h.x.grow hx, h.y.grow hx⟩
theorem TwoIn.over (h : TwoIn D lo hi L q M S T w wr) (s : Sub wr) : TwoIn D lo hi L q M S T w (over wr s) := h.grow (over_below wr s)
theorem TwoIn.onX {M' : MS} {S' : WS} (h : TwoIn D lo hi L q M S T w wr) (hL : LawIn D lo hi L q M' S' w wr') (hf : FD (PkD lo hi (q + 2) q) wr wr') : TwoIn D lo hi L q M' S' T w wr' :=
  have h1 := h.x.ap
  ⟨hL, ⟨hL.mem, h.y.work.keep hf (fun k hk => by
    rcases hk with hk | rfl | rfl
    · exact h.x.ivl k hk.1 hk.2
    · exact h.x.work.inD.1
    · exact h.x.work.inD.2) (by unfold PkD; omega) (by unfold PkD; omega) (by unfold PkD; omega), hL.ext, h.y.ivl, hL.bd, h.y.ap, h.y.old⟩⟩
theorem TwoIn.onY {M' : MS} {T' : WS} (h : TwoIn D lo hi L q M S T w wr) (hL : LawIn D lo hi L (q + 3) M' T' w wr') (hf : FD (PkD lo hi (q + 3 + 2) (q + 3)) wr wr') : TwoIn D lo hi L q M' S T' w wr' :=
  have h1 := h.x.ap
  ⟨⟨hL.mem, h.x.work.keep hf (fun k hk => by
    rcases hk with hk | rfl | rfl
    · exact h.x.ivl k hk.1 hk.2
    · exact h.y.work.inD.1
    · exact h.y.work.inD.2) (by unfold PkD; omega) (by unfold PkD; omega) (by unfold PkD; omega), hL.ext, h.x.ivl, hL.bd, h.x.ap, h.x.old⟩, hL⟩
end

end Go.Proofs.Ythepcnffadjeaaa
