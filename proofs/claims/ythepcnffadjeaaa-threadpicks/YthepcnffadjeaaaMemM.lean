/-
  A memory of regions, as it stands in the program's memory, and what its accesses make of it: plain facts. No conditions.
-/
import Derived.Test.YthepcnffadjeaaaFr
import Derived.Test.YthepcnffadjeaaaBv
namespace Go.Proofs.Ythepcnffadjeaaa
open Go Go.RowKit

/-- Where a memory stands: its struct, its row of pointers, each region's struct and words. -/
structure Lay where
  bm : Nat
  br : Nat
  ra : Option Addr
  cap : Nat
  rb : Nat → Nat
  wb : Nat → Nat
  wc : Nat → Nat
/-- What a memory is: so many regions, their sizes, words, epochs; how many accesses were done. -/
structure MS where
  n : Nat
  sz : Nat → Nat
  wd : Nat → Nat → BitVec 64
  ep : Nat → BitVec 64
  ct : Int

/-- The memory M stands in w, in the blocks from lo on and ahead of hi. -/
structure MemIn (lo hi : Nat) (L : Lay) (M : MS) (w : World) : Prop where
  top : hi ≤ w.heap.size
  few : M.n ≤ 65
  small : ∀ i, i < M.n → M.sz i ≤ 16777216
  mIn : lo ≤ L.bm ∧ L.bm < hi
  m : w.heap[L.bm]? = some (.cells #[.slice L.ra M.n L.cap, .int .i64 M.ct] 76 (0, 0))
  r : 0 < M.n → L.ra = some ⟨L.br, 0, none⟩ ∧ lo ≤ L.br ∧ L.br < hi ∧ ∃ cur, w.heap[L.br]? = some (.cells cur 77 (0, 0)) ∧ ∀ i, i < M.n → cur[i]? = some (.pointer (some ⟨L.rb i, 0, none⟩))
  reg : ∀ i, i < M.n → lo ≤ L.rb i ∧ L.rb i < hi ∧ w.heap[L.rb i]? = some (.cells #[.slice (some ⟨L.wb i, 0, none⟩) (M.sz i) (L.wc i), .int .u64 (U (M.ep i))] 79 (0, 0))
  wds : ∀ i, i < M.n → lo ≤ L.wb i ∧ L.wb i < hi ∧ ∃ cur, w.heap[L.wb i]? = some (.cells cur 43 (0, 0)) ∧ M.sz i ≤ cur.size ∧ ∀ j, j < M.sz i → cur[j]? = some (.int .u64 (U (M.wd i j)))
  rinj : ∀ i j, i < M.n → j < M.n → L.rb i = L.rb j → i = j
  winj : ∀ i j, i < M.n → j < M.n → L.wb i = L.wb j → i = j

section
variable {lo hi : Nat} {L : Lay} {M : MS} {w w' : World}

theorem MemIn.keep (h : MemIn lo hi L M w) (hs : w.heap.size ≤ w'.heap.size) (hb : ∀ k, lo ≤ k → k < hi → w'.heap[k]? = w.heap[k]?) : MemIn lo hi L M w' where
  top := Nat.le_trans h.top hs
  few := h.few
  small := h.small
  mIn := h.mIn
  m := by rw [hb _ h.mIn.1 h.mIn.2]; exact h.m
  r := fun hn => by
    obtain ⟨h1, h2, h3, cur, h4, h5⟩ := h.r hn
    exact ⟨h1, h2, h3, cur, by rw [hb _ h2 h3]; exact h4, h5⟩
  reg := fun i hi' => by
    obtain ⟨h1, h2, h3⟩ := h.reg i hi'
    exact ⟨h1, h2, by rw [hb _ h1 h2]; exact h3⟩
  wds := fun i hi' => by
    obtain ⟨h1, h2, cur, h3, h4⟩ := h.wds i hi'
    exact ⟨h1, h2, cur, by rw [hb _ h1 h2]; exact h3, h4⟩
  rinj := h.rinj
  winj := h.winj
theorem MemIn.ext (h : MemIn lo hi L M w) (hb : Ext w w') : MemIn lo hi L M w' := h.keep hb.size fun k _ hk => hb.block k (Nat.lt_of_lt_of_le hk h.top)
theorem MemIn.over (h : MemIn lo hi L M w) (s : Sub w) : MemIn lo hi L M (over w s) := h.ext (over_below w s)
theorem MemIn.alloc (h : MemIn lo hi L M w) (o : Obj) : MemIn lo hi L M (w.alloc o) := h.ext (ext_alloc o (ext_refl w))
theorem MemIn.drew (h : MemIn lo hi L M w) : MemIn lo hi L M w.drew := h.ext (ext_drew (ext_refl w))
theorem MemIn.fr {lo' hi' : Nat} (h : MemIn lo hi L M w) (hf : Fr lo' hi' w w') (ha : hi ≤ lo' ∨ hi' ≤ lo) : MemIn lo hi L M w' :=
  h.keep hf.size fun k h1 h2 => hf.block k (Nat.lt_of_lt_of_le h2 h.top) (by omega)
theorem MemIn.setFar {p : Addr} (h : MemIn lo hi L M w) (x : Value) (hp : p.block < lo ∨ hi ≤ p.block) : MemIn lo hi L M (w.setCell p x) :=
  h.keep (by rw [set_size]; exact Nat.le_refl _) fun k h1 h2 => Below.heap_setCell _ _ _ _ (by omega)

theorem MemIn.lt (h : MemIn lo hi L M w) {k : Nat} (hk : k < hi) : k < w.heap.size := Nat.lt_of_lt_of_le hk h.top
theorem MemIn.m0 (h : MemIn lo hi L M w) : w.cell? ⟨L.bm, 0, none⟩ = some (.slice L.ra M.n L.cap) := cell_at h.m rfl
theorem MemIn.m1 (h : MemIn lo hi L M w) : w.cell? ⟨L.bm, 1, none⟩ = some (.int .i64 M.ct) := cell_at h.m rfl
theorem MemIn.mz (h : MemIn lo hi L M w) (o : Nat) : w.frozen? ⟨L.bm, o, none⟩ = false := free_at h.m
theorem MemIn.p (h : MemIn lo hi L M w) {i : Nat} (hi' : i < M.n) : w.cell? ⟨L.br, i, none⟩ = some (.pointer (some ⟨L.rb i, 0, none⟩)) := by
  obtain ⟨_, _, _, cur, h4, h5⟩ := h.r (by omega)
  exact cell_at h4 (h5 i hi')
theorem MemIn.r0 (h : MemIn lo hi L M w) {i : Nat} (hi' : i < M.n) : w.cell? ⟨L.rb i, 0, none⟩ = some (.slice (some ⟨L.wb i, 0, none⟩) (M.sz i) (L.wc i)) := cell_at (h.reg i hi').2.2 rfl
theorem MemIn.r1 (h : MemIn lo hi L M w) {i : Nat} (hi' : i < M.n) : w.cell? ⟨L.rb i, 1, none⟩ = some (.int .u64 (U (M.ep i))) := cell_at (h.reg i hi').2.2 rfl
theorem MemIn.rz (h : MemIn lo hi L M w) {i : Nat} (hi' : i < M.n) (o : Nat) : w.frozen? ⟨L.rb i, o, none⟩ = false := free_at (h.reg i hi').2.2
theorem MemIn.x (h : MemIn lo hi L M w) {i j : Nat} (hi' : i < M.n) (hj : j < M.sz i) : w.cell? ⟨L.wb i, j, none⟩ = some (.int .u64 (U (M.wd i j))) := by
  obtain ⟨_, _, cur, h3, _, h5⟩ := h.wds i hi'
  exact cell_at h3 (h5 j hj)
theorem MemIn.xz (h : MemIn lo hi L M w) {i : Nat} (hi' : i < M.n) (o : Nat) : w.frozen? ⟨L.wb i, o, none⟩ = false := by
  obtain ⟨_, _, cur, h3, _⟩ := h.wds i hi'
  exact free_at h3

/-- A word put. -/
def MS.put (M : MS) (i j : Nat) (x : BitVec 64) : MS := { M with wd := fun a b => if a = i ∧ b = j then x else M.wd a b }
/-- An epoch ended. -/
def MS.bump (M : MS) (i : Nat) : MS := { M with ep := fun a => if a = i then M.ep i + 1#64 else M.ep a }
/-- One access more. -/
def MS.tick (M : MS) : MS := { M with ct := wrap64 (M.ct + 1) }

theorem MemIn.setWord (h : MemIn lo hi L M w) {i j : Nat} (hi' : i < M.n) (hj : j < M.sz i) (x : BitVec 64) : MemIn lo hi L (M.put i j x) (w.setCell ⟨L.wb i, j, none⟩ (.int .u64 (U x))) := by
  obtain ⟨hw1, hw2, cur, hw3, hw4, hw5⟩ := h.wds i hi'
  refine ⟨by rw [set_size]; exact h.top, h.few, h.small, h.mIn, ?_, fun hn => ?_, fun a ha => ?_, fun a ha => ?_, h.rinj, h.winj⟩
  · rw [set_other _ (block_ne h.m hw3 (by decide))]; exact h.m
  · obtain ⟨h1, h2, h3, cur', h4, h5⟩ := h.r hn
    exact ⟨h1, h2, h3, cur', by rw [set_other _ (block_ne h4 hw3 (by decide))]; exact h4, h5⟩
  · obtain ⟨h1, h2, h3⟩ := h.reg a ha
    exact ⟨h1, h2, by rw [set_other _ (block_ne h3 hw3 (by decide))]; exact h3⟩
  · by_cases e : a = i
    · subst e
      refine ⟨hw1, hw2, cur.setIfInBounds j (.int .u64 (U x)), set_same _ hw3, by simpa [MS.put] using hw4, fun b hb => ?_⟩
      show _ = some (Value.int .u64 (U (if a = a ∧ b = j then x else M.wd a b)))
      rw [Array.getElem?_setIfInBounds]
      by_cases e2 : j = b
      · subst e2
        have : j < cur.size := Nat.lt_of_lt_of_le hj hw4
        simp [this]
      · rw [if_neg e2, if_neg (fun hh => e2 hh.2.symm)]
        exact hw5 b hb
    · obtain ⟨h1, h2, cur', h3, h4, h5⟩ := h.wds a ha
      refine ⟨h1, h2, cur', by rw [set_other _ (fun hh => e (h.winj a i ha hi' hh))]; exact h3, h4, fun b hb => ?_⟩
      show _ = some (Value.int .u64 (U (if a = i ∧ b = j then x else M.wd a b)))
      rw [if_neg (fun hh => e hh.1)]
      exact h5 b hb
theorem MemIn.setEpoch (h : MemIn lo hi L M w) {i : Nat} (hi' : i < M.n) : MemIn lo hi L (M.bump i) (w.setCell ⟨L.rb i, 1, none⟩ (.int .u64 (U (M.ep i + 1#64)))) := by
  obtain ⟨hw1, hw2, hw3⟩ := h.reg i hi'
  refine ⟨by rw [set_size]; exact h.top, h.few, h.small, h.mIn, ?_, fun hn => ?_, fun a ha => ?_, fun a ha => ?_, h.rinj, h.winj⟩
  · rw [set_other _ (block_ne h.m hw3 (by decide))]; exact h.m
  · obtain ⟨h1, h2, h3, cur', h4, h5⟩ := h.r hn
    exact ⟨h1, h2, h3, cur', by rw [set_other _ (block_ne h4 hw3 (by decide))]; exact h4, h5⟩
  · obtain ⟨h1, h2, h3⟩ := h.reg a ha
    refine ⟨h1, h2, ?_⟩
    show _ = some (Obj.cells #[_, .int .u64 (U (if a = i then M.ep i + 1#64 else M.ep a))] _ _)
    by_cases e : a = i
    · subst e
      rw [set_same _ hw3, if_pos rfl]
      rfl
    · rw [set_other _ (fun hh => e (h.rinj a i ha hi' hh)), if_neg e]
      exact h3
  · obtain ⟨h1, h2, cur', h3, h4⟩ := h.wds a ha
    exact ⟨h1, h2, cur', by rw [set_other _ (block_ne h3 hw3 (by decide))]; exact h3, h4⟩
theorem MemIn.setCount (h : MemIn lo hi L M w) : MemIn lo hi L M.tick (w.setCell ⟨L.bm, 1, none⟩ (.int .i64 (wrap64 (M.ct + 1)))) := by
  refine ⟨by rw [set_size]; exact h.top, h.few, h.small, h.mIn, ?_, fun hn => ?_, fun a ha => ?_, fun a ha => ?_, h.rinj, h.winj⟩
  · rw [set_same _ h.m]; rfl
  · obtain ⟨h1, h2, h3, cur', h4, h5⟩ := h.r hn
    exact ⟨h1, h2, h3, cur', by rw [set_other _ (block_ne h4 h.m (by decide))]; exact h4, h5⟩
  · obtain ⟨h1, h2, h3⟩ := h.reg a ha
    exact ⟨h1, h2, by rw [set_other _ (block_ne h3 h.m (by decide))]; exact h3⟩
  · obtain ⟨h1, h2, cur', h3, h4⟩ := h.wds a ha
    exact ⟨h1, h2, cur', by rw [set_other _ (block_ne h3 h.m (by decide))]; exact h3, h4⟩
end

/-- What a word becomes by an access. -/
def nextW (op : Int) (was a b : BitVec 64) : BitVec 64 := if op = 1 then a else if op = 2 ∧ was = a then b else if op = 3 then was + a else was
/-- The capability is good. -/
def Good (M : MS) (r : Int) (e : BitVec 64) : Prop := 0 ≤ r ∧ r < M.n ∧ M.ep r.toNat = e
/-- The access may be done. -/
def DoOk (M : MS) (r : Int) (e : BitVec 64) (op at_ : Int) : Prop := Good M r e ∧ 0 ≤ at_ ∧ at_ < M.sz r.toNat ∧ 0 ≤ op ∧ op ≤ 3
/-- The memory behind an access. -/
def MS.done (M : MS) (r op at_ : Int) (a b : BitVec 64) : MS := (M.put r.toNat at_.toNat (nextW op (M.wd r.toNat at_.toNat) a b)).tick

/-- What a call that writes to a memory comes to. -/
def RetM (lo hi : Nat) (L : Lay) (M' : MS) (v : Value) (w : World) (e : Ending) (w' : World) : Prop := e = .returned v ∧ MemIn lo hi L M' w' ∧ Fr lo hi w w'

end Go.Proofs.Ythepcnffadjeaaa
