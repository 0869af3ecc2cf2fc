/-
  What a worker is, as it stands in memory: its box of lists, whether it is busy, its program; what a pick makes of it. Conditions: those of each theorem.
-/
import Derived.Test.YthepcnffadjeaaaProgLaw
import Derived.Test.YthepcnffadjeaaaInboxAcc
namespace Go.Proofs.Ythepcnffadjeaaa
open Go Go.RowKit

/-- What a worker is: its box's room, what waits, whether it is busy, what is left of its program, and what that was told. -/
structure WS where
  n : Nat
  q : List (List Acc)
  busy : Bool
  l : List Acc
  t : List (BitVec 64)
/-- Busy no more. -/
def WS.rest (S : WS) : WS := { S with busy := false, l := [], t := [] }
/-- The first thing that waits is begun. -/
def WS.begin (S : WS) (l : List Acc) (q : List (List Acc)) : WS := { S with busy := true, q := q, l := l, t := [] }
/-- A thing more waits. -/
def WS.give (S : WS) (l : List Acc) : WS := { S with q := S.q ++ [l] }
/-- What a busy worker's pick is. -/
def goF (r : Int) (e : BitVec 64) (M : MS) (S : WS) : MS × WS × Nat × List (BitVec 64) :=
  match S.l with
  | [] => (M, S.rest, 2, S.t)
  | a :: l => if DoOk M r e a.op a.at_ then
      (if l = [] then (M.done r a.op a.at_ a.a a.b, S.rest, 2, S.t ++ [M.wd r.toNat a.at_.toNat]) else (M.done r a.op a.at_ a.a a.b, { S with l := l, t := S.t ++ [M.wd r.toNat a.at_.toNat] }, 1, []))
      else (M, S.rest, 3, [])
/-- What a pick is. -/
def pickF (r : Int) (e : BitVec 64) (M : MS) (S : WS) : MS × WS × Nat × List (BitVec 64) :=
  if S.busy = true then goF r e M S else match S.q with
  | [] => (M, S, 0, [])
  | l :: q => goF r e M (S.begin l q)

/-- Values that are lists of accesses. -/
def Qs (D : Nat → Prop) (w : World) : List Value → List (List Acc) → Prop
  | [], [] => True
  | v :: vs, l :: ls => AsB D w v l ∧ Qs D w vs ls
  | _, _ => False
section
variable {D E : Nat → Prop} {w w' : World}
theorem Qs.len : ∀ {vs : List Value} {ls : List (List Acc)}, Qs D w vs ls → vs.length = ls.length
  | [], [], _ => rfl
  | _ :: _, _ :: _, h => by simp [Qs.len h.2]
theorem Qs.fr (hf : FD D w w') : ∀ {vs : List Value} {ls : List (List Acc)}, Qs D w vs ls → Qs D w' vs ls
  | [], [], _ => trivial
  | _ :: _, _ :: _, h => ⟨h.1.fr hf, Qs.fr hf h.2⟩
theorem Qs.more (he : ∀ k, k < w.heap.size → E k → D k) : ∀ {vs : List Value} {ls : List (List Acc)}, Qs D w vs ls → Qs E w vs ls
  | [], [], _ => trivial
  | _ :: _, _ :: _, h => ⟨h.1.more he, Qs.more he h.2⟩
theorem Qs.snoc {v : Value} {l : List Acc} (ha : AsB D w v l) : ∀ {vs : List Value} {ls : List (List Acc)}, Qs D w vs ls → Qs D w (vs ++ [v]) (ls ++ [l])
  | [], [], _ => ⟨ha, trivial⟩
  | _ :: _, _ :: _, h => ⟨h.1, Qs.snoc ha h.2⟩
end

/-- The cells of a worker. -/
def wC (bm p : Nat) (busy : Bool) (sv : Value) (a : Acc) (fn : Value) (pp : Option Addr) : Array Value :=
  #[.pointer (some ⟨bm, 0, none⟩), .pointer (some ⟨p, 0, none⟩), .func (.func 29) #[] #[], .func (.func 28) #[] #[], .bool busy, sv, .int .i64 a.op, .int .i64 a.at_, .int .u64 (U a.a), .int .u64 (U a.b), fn, .pointer pp]
/-- The worker S stands in w: its struct in block b, its box in p, the box's channel in c; its memory's struct is block bm; D: the blocks that may turn. -/
structure WorkIn (D : Nat → Prop) (bm b p c : Nat) (S : WS) (w : World) : Prop where
  blk : ∃ sv a fn pp, w.heap[b]? = some (.cells (wC bm p S.busy sv a fn pp) 89 (0, 0)) ∧ PH D S.l S.t (pV sv a fn (.pointer pp)) w
  box : ∃ qv, BoxAt p c S.n qv w ∧ Qs D w qv S.q
  room : S.q.length ≤ S.n
  small : ∀ l ∈ S.q, l.length ≤ 900
  run : S.t.length + S.l.length ≤ 900
  idle : S.busy = false → S.l = [] ∧ S.t = []
  inD : D b ∧ D c

section
variable {D E : Nat → Prop} {bm b p c : Nat} {S : WS} {w w' : World}
theorem WorkIn.ltb (h : WorkIn D bm b p c S w) : b < w.heap.size := by
  obtain ⟨sv, a, fn, pp, hb, _⟩ := h.blk
  exact heap_lt hb
theorem WorkIn.ltp (h : WorkIn D bm b p c S w) : p < w.heap.size := by
  obtain ⟨qv, hb, _⟩ := h.box
  exact hb.ltp
theorem WorkIn.ltc (h : WorkIn D bm b p c S w) : c < w.heap.size := by
  obtain ⟨qv, hb, _⟩ := h.box
  exact hb.ltc
theorem WorkIn.nep (h : WorkIn D bm b p c S w) : p ≠ b := by
  obtain ⟨qv, hb, _⟩ := h.box
  obtain ⟨sv, a, fn, pp, hk, _⟩ := h.blk
  intro e
  subst e
  have h1 := hb.cell
  have h2 := cell_at (o := 0) hk rfl
  rw [h1] at h2
  cases h2
theorem WorkIn.nec (h : WorkIn D bm b p c S w) : c ≠ b := by
  obtain ⟨qv, hb, _⟩ := h.box
  obtain ⟨s, r, hc⟩ := hb.chan
  obtain ⟨sv, a, fn, pp, hk, _⟩ := h.blk
  intro e
  subst e
  rw [hc] at hk
  cases hk
theorem WorkIn.npc (h : WorkIn D bm b p c S w) : p ≠ c := by
  obtain ⟨qv, hb, _⟩ := h.box
  exact hb.ne
/-- Its cells, with the program's. -/
theorem WorkIn.prog (h : WorkIn D bm b p c S w) : ∃ sa n cp a fn pp, w.heap[b]? = some (.cells (wC bm p S.busy (.slice sa n cp) a fn pp) 89 (0, 0)) ∧ PH D S.l S.t (pV (.slice sa n cp) a fn (.pointer pp)) w ∧ (fn = .nilFunc ∨ ∃ g caps, fn = .func (.func g) #[] caps) := by
  obtain ⟨sv, a, fn, pp, hk, hP⟩ := h.blk
  obtain ⟨sa, n, cp, a', fn', p', e, hfn⟩ := hP.shape
  unfold pV at e
  simp at e
  obtain ⟨rfl, _, _, _, _, rfl, rfl⟩ := e
  exact ⟨sa, n, cp, a, fn, pp, hk, hP, hfn⟩
/-- Kept where blocks turn that are none of its own. -/
theorem WorkIn.keep (h : WorkIn D bm b p c S w) (hf : FD E w w') (hd : ∀ k, E k → D k) (hb : ¬ E b) (hp : ¬ E p) (hc : ¬ E c) : WorkIn D bm b p c S w' := by
  have hfd := hf.wide hd
  refine ⟨?_, ?_, h.room, h.small, h.run, h.idle, h.inD⟩
  · obtain ⟨sv, a, fn, pp, hk, hP⟩ := h.blk
    exact ⟨sv, a, fn, pp, (hf.block b h.ltb hb).trans hk, hP.fr hfd⟩
  · obtain ⟨qv, hB, hQ⟩ := h.box
    obtain ⟨s, r, hcc⟩ := hB.chan
    exact ⟨qv, ⟨(hf.cell h.ltp hp).trans hB.cell, s, r, (hf.block c h.ltc hc).trans hcc⟩, hQ.fr hfd⟩
theorem WorkIn.ext (h : WorkIn D bm b p c S w) (hx : Ext w w') : WorkIn D bm b p c S w' :=
  h.keep (E := fun _ => False) (.of_ext hx) (fun _ h => h.elim) id id id
theorem WorkIn.more (h : WorkIn D bm b p c S w) (he : ∀ k, k < w.heap.size → (E k ↔ D k)) : WorkIn E bm b p c S w := by
  refine ⟨?_, ?_, h.room, h.small, h.run, h.idle, (he b h.ltb).2 h.inD.1, (he c h.ltc).2 h.inD.2⟩
  · obtain ⟨sv, a, fn, pp, hk, hP⟩ := h.blk
    exact ⟨sv, a, fn, pp, hk, hP.more he⟩
  · obtain ⟨qv, hB, hQ⟩ := h.box
    exact ⟨qv, hB, hQ.more fun k hk => (he k hk).1⟩
theorem WorkIn.mono (h : WorkIn E bm b p c S w) (hd : ∀ k, D k → E k) (hb : D b) (hc : D c) : WorkIn D bm b p c S w := by
  refine ⟨?_, ?_, h.room, h.small, h.run, h.idle, hb, hc⟩
  · obtain ⟨sv, a, fn, pp, hk, hP⟩ := h.blk
    exact ⟨sv, a, fn, pp, hk, hP.mono hd⟩
  · obtain ⟨qv, hB, hQ⟩ := h.box
    exact ⟨qv, hB, hQ.more fun k _ => hd k⟩
/-- Its struct's block is laid anew. -/
theorem WorkIn.lay (h : WorkIn D bm b p c S w) (hf : FD (fun k => k = b) w w') {S' : WS} {sv : Value} {a : Acc} {fn : Value} {pp : Option Addr}
    (hk : w'.heap[b]? = some (.cells (wC bm p S'.busy sv a fn pp) 89 (0, 0))) (hP : PH D S'.l S'.t (pV sv a fn (.pointer pp)) w') (hn : S'.n = S.n) (hq : S'.q = S.q) (hr : S'.t.length + S'.l.length ≤ 900) (hi : S'.busy = false → S'.l = [] ∧ S'.t = []) : WorkIn D bm b p c S' w' := by
  have hfd := hf.wide (E := D) fun k hk => by rw [hk]; exact h.inD.1
  refine ⟨⟨sv, a, fn, pp, hk, hP⟩, ?_, by rw [hn, hq]; exact h.room, by rw [hq]; exact h.small, hr, hi, h.inD⟩
  obtain ⟨qv, hB, hQ⟩ := h.box
  obtain ⟨s, r, hcc⟩ := hB.chan
  refine ⟨qv, ⟨(hf.cell h.ltp h.nep).trans hB.cell, s, r, ?_⟩, by rw [hq]; exact hQ.fr hfd⟩
  rw [hn]
  exact (hf.block c h.ltc h.nec).trans hcc
end

/-- Twelve cells, one by one. -/
structure Twe (b : Nat) (x0 x1 x2 x3 x4 x5 x6 x7 x8 x9 x10 x11 : Value) (w : World) : Prop where
  c0 : w.cell? ⟨b, 0, none⟩ = some x0
  c1 : w.cell? ⟨b, 1, none⟩ = some x1
  c2 : w.cell? ⟨b, 2, none⟩ = some x2
  c3 : w.cell? ⟨b, 3, none⟩ = some x3
  c4 : w.cell? ⟨b, 4, none⟩ = some x4
  c5 : w.cell? ⟨b, 5, none⟩ = some x5
  c6 : w.cell? ⟨b, 6, none⟩ = some x6
  c7 : w.cell? ⟨b, 7, none⟩ = some x7
  c8 : w.cell? ⟨b, 8, none⟩ = some x8
  c9 : w.cell? ⟨b, 9, none⟩ = some x9
  c10 : w.cell? ⟨b, 10, none⟩ = some x10
  c11 : w.cell? ⟨b, 11, none⟩ = some x11
  cz : ∀ o, w.frozen? ⟨b, o, none⟩ = false
  lt : b < w.heap.size
theorem twe_of {w : World} {b : Nat} {x0 x1 x2 x3 x4 x5 x6 x7 x8 x9 x10 x11 : Value} {t : TypeId} (h : w.heap[b]? = some (.cells #[x0, x1, x2, x3, x4, x5, x6, x7, x8, x9, x10, x11] t (0, 0))) : Twe b x0 x1 x2 x3 x4 x5 x6 x7 x8 x9 x10 x11 w :=
  ⟨cell_at h rfl, cell_at h rfl, cell_at h rfl, cell_at h rfl, cell_at h rfl, cell_at h rfl, cell_at h rfl, cell_at h rfl, cell_at h rfl, cell_at h rfl, cell_at h rfl, cell_at h rfl, fun _ => free_at h, heap_lt h⟩

/-- The program's seven cells are laid anew. -/
def putP (b : Nat) (x0 x1 x2 x3 x4 x5 x6 : Value) (w : World) : World :=
  (((((((w.setCell ⟨b, 5, none⟩ x0).setCell ⟨b, 6, none⟩ x1).setCell ⟨b, 7, none⟩ x2).setCell ⟨b, 8, none⟩ x3).setCell ⟨b, 9, none⟩ x4).setCell ⟨b, 10, none⟩ x5).setCell ⟨b, 11, none⟩ x6)
theorem putP_block {w : World} {b : Nat} {y0 y1 y2 y3 y4 y5 y6 y7 y8 y9 y10 y11 : Value} {t : TypeId} {f : Nat × Nat} (x0 x1 x2 x3 x4 x5 x6 : Value) (h : w.heap[b]? = some (.cells #[y0, y1, y2, y3, y4, y5, y6, y7, y8, y9, y10, y11] t f)) :
    (putP b x0 x1 x2 x3 x4 x5 x6 w).heap[b]? = some (.cells #[y0, y1, y2, y3, y4, x0, x1, x2, x3, x4, x5, x6] t f) := by
  have h0 := set_same (o := 5) x0 h
  have h1 := set_same (o := 6) x1 h0
  have h2 := set_same (o := 7) x2 h1
  have h3 := set_same (o := 8) x3 h2
  have h4 := set_same (o := 9) x4 h3
  have h5 := set_same (o := 10) x5 h4
  have h6 := set_same (o := 11) x6 h5
  unfold putP
  rw [h6]
  simp
theorem putP_fr {w : World} {b : Nat} (x0 x1 x2 x3 x4 x5 x6 : Value) : Fr b (b + 1) w (putP b x0 x1 x2 x3 x4 x5 x6 w) := by
  have h := Nat.lt_succ_self b
  have z := Nat.le_refl b
  exact (((((((Fr.refl b (b + 1) w).set (p := ⟨b, 5, none⟩) x0 z h).set (p := ⟨b, 6, none⟩) x1 z h).set (p := ⟨b, 7, none⟩) x2 z h).set (p := ⟨b, 8, none⟩) x3 z h).set (p := ⟨b, 9, none⟩) x4 z h).set (p := ⟨b, 10, none⟩) x5 z h).set (p := ⟨b, 11, none⟩) x6 z h
theorem fd_one {b : Nat} {w w' : World} (h : Fr b (b + 1) w w') : FD (fun k => k = b) w w' := FD.of_fr h fun k h1 h2 => by omega
theorem fd_ext {D : Nat → Prop} {a w w' : World} (h : FD D a w) (hx : Ext w w') : FD D a w' := h.trans (.of_ext hx)
/-- Where a stood ahead of all of D. -/
theorem FD.below {D : Nat → Prop} {u w w' : World} (h : FD D w w') (hu : Ext u w) (hd : ∀ k, D k → u.heap.size ≤ k) : Ext u w' :=
  ⟨h.os.trans hu.os, h.tape.trans hu.tape, h.output.trans hu.output, Nat.le_trans hu.size h.size, fun k hk => (h.block k (Nat.lt_of_lt_of_le hk hu.size) (fun hh => by have := hd k hh; omega)).trans (hu.block k hk)⟩

theorem FD.setNew {D : Nat → Prop} {a w : World} {p : Addr} (x : Value) (h : FD D a w) (hp : a.heap.size ≤ p.block) : FD D a (w.setCell p x) :=
  ⟨h.os, h.tape, h.output, by simpa [World.setCell] using h.size, fun k hk ho => (Below.heap_setCell _ _ _ _ (by omega)).trans (h.block k hk ho)⟩
theorem FD.set {D : Nat → Prop} {a w : World} {p : Addr} (x : Value) (h : FD D a w) (hp : D p.block) : FD D a (w.setCell p x) :=
  h.trans ⟨rfl, rfl, rfl, by simp [World.setCell], fun k _ ho => Below.heap_setCell _ _ _ _ (fun e => ho (e ▸ hp))⟩
theorem FD.refl (D : Nat → Prop) (w : World) : FD D w w := .of_ext (ext_refl w)
section
variable {D : Nat → Prop} {bm b p c x : Nat} {S : WS} {w : World}
/-- A new block more that may turn. -/
theorem WorkIn.plus (h : WorkIn D bm b p c S w) (hx : w.heap.size ≤ x) : WorkIn (fun k => D k ∨ k = x) bm b p c S w := h.more fun k hk => ⟨fun h => h.resolve_right (by omega), .inl⟩
theorem WorkIn.minus (h : WorkIn (fun k => D k ∨ k = x) bm b p c S w) (hb : D b ∧ D c) : WorkIn D bm b p c S w := h.mono (fun _ hk => .inl hk) hb.1 hb.2
/-- A store into that block. -/
theorem WorkIn.setX (h : WorkIn (fun k => D k ∨ k = x) bm b p c S w) (o : Nat) (v : Value) (hb : x ≠ b) (hp : x ≠ p) (hc : x ≠ c) : WorkIn (fun k => D k ∨ k = x) bm b p c S (w.setCell ⟨x, o, none⟩ v) :=
  h.keep (E := fun k => k = x) ((FD.refl _ w).set (p := ⟨x, o, none⟩) v rfl) (fun _ hk => .inr hk) (fun e => hb e.symm) (fun e => hp e.symm) (fun e => hc e.symm)
end

end Go.Proofs.Ythepcnffadjeaaa
