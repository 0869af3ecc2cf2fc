/-
  In a pick's midst: plain facts. Conditions: those of each theorem.
-/
import Derived.Test.YthepcnffadjeaaaThreadFn
namespace Go.Proofs.Ythepcnffadjeaaa
open Go Go.RowKit

section
variable {r : Int} {e : BitVec 64} {M : MS} {S : WS}
theorem goF_nil (h : S.l = []) : goF r e M S = (M, S.rest, 2, S.t) := by
  unfold goF
  rw [h]
theorem goF_no {a : Acc} {l : List Acc} (h : S.l = a :: l) (hd : ¬ DoOk M r e a.op a.at_) : goF r e M S = (M, S.rest, 3, []) := by
  unfold goF
  rw [h]
  exact if_neg hd
theorem goF_last {a : Acc} (h : S.l = [a]) (hd : DoOk M r e a.op a.at_) : goF r e M S = (M.done r a.op a.at_ a.a a.b, S.rest, 2, S.t ++ [M.wd r.toNat a.at_.toNat]) := by
  unfold goF
  rw [h]
  simp only
  rw [if_pos hd]
  simp
theorem goF_step {a a2 : Acc} {l : List Acc} (h : S.l = a :: a2 :: l) (hd : DoOk M r e a.op a.at_) : goF r e M S = (M.done r a.op a.at_ a.a a.b, { S with l := a2 :: l, t := S.t ++ [M.wd r.toNat a.at_.toNat] }, 1, []) := by
  unfold goF
  rw [h]
  simp only
  rw [if_pos hd, if_neg (by simp)]
theorem pickF_idle (h : S.busy = false) (hq : S.q = []) : pickF r e M S = (M, S, 0, []) := by
  unfold pickF
  rw [h, hq]
  rfl
theorem pickF_busy (h : S.busy = true) : pickF r e M S = goF r e M S := by
  unfold pickF
  rw [if_pos h]
theorem pickF_begin {l : List Acc} {q : List (List Acc)} (h : S.busy = false) (hq : S.q = l :: q) : pickF r e M S = goF r e M (S.begin l q) := by
  unfold pickF
  rw [h, hq]
  rfl
end

/-- The blocks that a pick may turn. -/
def PkD (lo hi b c : Nat) (k : Nat) : Prop := (lo ≤ k ∧ k < hi) ∨ k = b ∨ k = c
def RetPick (D : Nat → Prop) (lo hi : Nat) (L : Lay) (b p c : Nat) (x : MS × WS × Nat × List (BitVec 64)) (w : World) (en : Ending) (w' : World) : Prop :=
  ∃ ra cap, en = .returned (.agg #[.int .i64 (x.2.2.1 : Int), .slice ra x.2.2.2.length cap]) ∧ UsB D w' (.slice ra x.2.2.2.length cap) x.2.2.2 ∧ MemIn lo hi L x.1 w' ∧ WorkIn D L.bm b p c x.2.1 w' ∧ FD (PkD lo hi b c) w w'
/-- In a pick's midst: the worker is busy; its event stands in block ev. -/
structure PkIn (D : Nat → Prop) (lo hi : Nat) (L : Lay) (b p c ev : Nat) (r : Int) (e : BitVec 64) (S : WS) (M : MS) (w T : World) : Prop where
  work : WorkIn (fun k => D k ∨ k = ev) L.bm b p c S T
  mem : MemIn lo hi L M T
  evb : T.heap[ev]? = some (.cells #[.int .i64 0, .slice none 0 0] 57)
  cap : ∃ cb, cb + 1 = ev ∧ w.heap.size ≤ cb ∧ T.heap[cb]? = some (.cells #[.int .i64 r, .int .u64 (U e)] 45)
  fd : FD (PkD lo hi b c) w T
  new : w.heap.size ≤ ev
  ap : hi ≤ b ∧ hi ≤ p ∧ hi ≤ c
  inD : D b ∧ D c
  top : hi ≤ w.heap.size
  own : b < w.heap.size ∧ p < w.heap.size ∧ c < w.heap.size
section
variable {D : Nat → Prop} {lo hi : Nat} {L : Lay} {b p c ev : Nat} {r : Int} {e : BitVec 64} {S : WS} {M : MS} {w T T' : World}
theorem PkIn.ext (h : PkIn D lo hi L b p c ev r e S M w T) (hx : Ext T T') : PkIn D lo hi L b p c ev r e S M w T' := by
  obtain ⟨cb, h1, h0, h2⟩ := h.cap
  exact ⟨h.work.ext hx, h.mem.ext hx, (hx.block _ (heap_lt h.evb)).trans h.evb, ⟨cb, h1, h0, (hx.block _ (heap_lt h2)).trans h2⟩, fd_ext h.fd hx, h.new, h.ap, h.inD, h.top, h.own⟩
/-- The worker's own block has turned. -/
theorem PkIn.turn {S' : WS} (h : PkIn D lo hi L b p c ev r e S M w T) (hf : FD (fun k => k = b) T T') (hW : WorkIn (fun k => D k ∨ k = ev) L.bm b p c S' T') : PkIn D lo hi L b p c ev r e S' M w T' := by
  obtain ⟨cb, h1, h0, h2⟩ := h.cap
  have h3 := h.new
  have h4 := h.own
  have h5 := h.ap
  refine ⟨hW, h.mem.keep hf.size fun k hk1 hk2 => hf.block k (Nat.lt_of_lt_of_le hk2 h.mem.top) (by omega), (hf.block _ (heap_lt h.evb) (by omega)).trans h.evb, ⟨cb, h1, h0, (hf.block _ (heap_lt h2) ?_).trans h2⟩, h.fd.trans (hf.wide fun k hk => .inr (.inl hk)), h.new, h.ap, h.inD, h.top, h.own⟩
  intro e0
  subst e0
  obtain ⟨sv, a, fn, pp, hk, _⟩ := h.work.blk
  rw [h2] at hk
  simp at hk
/-- The worker's own block, and its channel, have turned. -/
theorem PkIn.turn2 {S' : WS} (h : PkIn D lo hi L b p c ev r e S M w T) (hf : FD (fun k => k = b ∨ k = c) T T') (hW : WorkIn (fun k => D k ∨ k = ev) L.bm b p c S' T') : PkIn D lo hi L b p c ev r e S' M w T' := by
  obtain ⟨cb, h1, h0, h2⟩ := h.cap
  have h3 := h.new
  have h4 := h.own
  have h5 := h.ap
  exact ⟨hW, h.mem.keep hf.size fun k hk1 hk2 => hf.block k (Nat.lt_of_lt_of_le hk2 h.mem.top) (by omega), (hf.block _ (heap_lt h.evb) (by omega)).trans h.evb, ⟨cb, h1, h0, (hf.block _ (heap_lt h2) (by omega)).trans h2⟩, h.fd.trans (hf.wide fun k hk => .inr hk), h.new, h.ap, h.inD, h.top, h.own⟩
/-- The memory alone has turned. -/
theorem PkIn.step {M' : MS} (h : PkIn D lo hi L b p c ev r e S M w T) (hf : Fr lo hi T T') (hM : MemIn lo hi L M' T') (hD : ∀ k, lo ≤ k → k < hi → D k) : PkIn D lo hi L b p c ev r e S M' w T' := by
  obtain ⟨cb, h1, h0, h2⟩ := h.cap
  have h3 := h.new
  have h5 := h.ap
  have h6 := h.top
  have hfd : FD (fun k => lo ≤ k ∧ k < hi) T T' := FD.of_fr hf fun k h1 h2 => ⟨h1, h2⟩
  have hcb : hi ≤ cb := by omega
  refine ⟨h.work.keep hfd (fun k hk => .inl (hD k hk.1 hk.2)) (by omega) (by omega) (by omega), hM, (hf.block _ (heap_lt h.evb) (by omega)).trans h.evb, ⟨cb, h1, h0, (hf.block _ (heap_lt h2) (by omega)).trans h2⟩, h.fd.trans (hfd.wide fun k hk => .inl hk), h.new, h.ap, h.inD, h.top, h.own⟩
/-- The memory has turned, and a new block was stored to. -/
theorem PkIn.late {M' : MS} {bq : Nat} (h : PkIn D lo hi L b p c ev r e S M w T) (hq : T.heap.size ≤ bq) (hf : Fr lo hi T T') (hM : MemIn lo hi L M' T') (hD : ∀ k, lo ≤ k → k < hi → D k) (hev : ev + 1 ≤ bq) (x0 x1 x2 x3 x4 x5 x6 : Value) :
    PkIn D lo hi L b p c ev r e S M' w (put7 bq x0 x1 x2 x3 x4 x5 x6 T') := by
  obtain ⟨cb, h1, h0, h2⟩ := h.cap
  have h3 := h.new
  have h4 := h.own
  have h5 := h.ap
  have h6 := h.top
  have h7 := h.mem.top
  have hfd : FD (fun k => lo ≤ k ∧ k < hi) T T' := FD.of_fr hf fun k h1 h2 => ⟨h1, h2⟩
  have hW1 : WorkIn (fun k => (D k ∨ k = ev) ∨ k = bq) L.bm b p c S T' := ((h.work.plus (x := bq) hq).keep hfd (fun k hk => .inl (.inl (hD k hk.1 hk.2))) (by omega) (by omega) (by omega))
  have hp7 : FD (fun k => k = bq) T' (put7 bq x0 x1 x2 x3 x4 x5 x6 T') := put7_fd _ _ _ _ _ _ _ rfl
  have hW2 := (hW1.keep hp7 (fun k hk => .inr hk) (by omega) (by omega) (by omega)).minus (D := fun k => D k ∨ k = ev) (x := bq) h.work.inD
  have hcb : hi ≤ cb := by omega
  have hz := hf.size
  have hcl := heap_lt h2
  have hel := heap_lt h.evb
  have hm7 : MemIn lo hi L M' (put7 bq x0 x1 x2 x3 x4 x5 x6 T') := put7_mem _ _ _ _ _ _ _ hM (by omega)
  have he7 : (put7 bq x0 x1 x2 x3 x4 x5 x6 T').heap[ev]? = some (.cells #[.int .i64 0, .slice none 0 0] 57) := (hp7.block _ (Nat.lt_of_lt_of_le hel hz) (by omega)).trans ((hf.block _ hel (by omega)).trans h.evb)
  have hc7 : (put7 bq x0 x1 x2 x3 x4 x5 x6 T').heap[cb]? = some (.cells #[.int .i64 r, .int .u64 (U e)] 45) := (hp7.block _ (Nat.lt_of_lt_of_le hcl hz) (by omega)).trans ((hf.block _ hcl (by omega)).trans h2)
  have hx := h.fd.trans (hfd.wide (E := PkD lo hi b c) fun k hk => .inl hk)
  have hf7 : FD (PkD lo hi b c) w (put7 bq x0 x1 x2 x3 x4 x5 x6 T') := by
    have hq7 := h.fd.size
    refine ⟨hp7.os.trans hx.os, hp7.tape.trans hx.tape, hp7.output.trans hx.output, Nat.le_trans hx.size hp7.size, fun k hk hn => ?_⟩
    exact (hp7.block k (Nat.lt_of_lt_of_le hk hx.size) (by omega)).trans (hx.block k hk hn)
  exact ⟨hW2, hm7, he7, ⟨cb, h1, h0, hc7⟩, hf7, h.new, h.ap, h.inD, h.top, h.own⟩
/-- The event is laid: the pick's end. -/
theorem PkIn.ends (h : PkIn D lo hi L b p c ev r e S M w T) (x : MS × WS × Nat × List (BitVec 64)) (k : Nat) (R : List (BitVec 64)) (ra : Option Addr) (cap : Nat) (hx : x = (M, S, k, R)) (hU : UsB (fun k => D k ∨ k = ev) T (.slice ra R.length cap) R) :
    RetPick D lo hi L b p c x w (.returned (.agg #[.int .i64 (k : Int), .slice ra R.length cap])) ((T.setCell ⟨ev, 0, none⟩ (.int .i64 (k : Int))).setCell ⟨ev, 1, none⟩ (.slice ra R.length cap)) := by
  subst hx
  have h1 := h.new
  have h2 := h.own
  have h3 := h.ap
  have h4 := h.top
  have hf : FD (fun k => k = ev) T ((T.setCell ⟨ev, 0, none⟩ (.int .i64 (k : Int))).setCell ⟨ev, 1, none⟩ (.slice ra R.length cap)) := ((FD.refl (fun k => k = ev) T).set (p := ⟨ev, 0, none⟩) _ rfl).set (p := ⟨ev, 1, none⟩) _ rfl
  refine ⟨ra, cap, rfl, (hU.fr (hf.wide fun _ hk => .inr hk)).mono fun _ hk => .inl hk, h.mem.keep hf.size fun k hk1 hk2 => hf.block k (Nat.lt_of_lt_of_le hk2 h.mem.top) (by omega), ((h.work.setX 0 _ (by omega) (by omega) (by omega)).setX 1 _ (by omega) (by omega) (by omega)).minus h.inD, (h.fd.setNew _ h1).setNew _ h1⟩
end

/-- Behind the step, whatever it came to. -/
structure PkQ (D : Nat → Prop) (lo hi : Nat) (L : Lay) (b p c ev : Nat) (r : Int) (e : BitVec 64) (S : WS) (M : MS) (w : World) (bq : Nat) (okb : Bool) (l2 : List Acc) (t2 : List (BitVec 64)) (M2 : MS) (sa : Option Addr) (n cp : Nat) (a : Acc) (fn : Value) (pp : Option Addr) (T : World) : Prop where
  pk : PkIn D lo hi L b p c ev r e S M2 w T
  p : PH (fun k => D k ∨ k = ev) l2 t2 (pV (.slice sa n cp) a fn (.pointer pp)) T
  fnh : fn = .nilFunc ∨ ∃ g caps, fn = .func (.func g) #[] caps
  box : T.heap[bq]? = some (.cells #[.slice sa n cp, .int .i64 a.op, .int .i64 a.at_, .int .u64 (U a.a), .int .u64 (U a.b), fn, .pointer pp] 87)
  sp : StepSpec r e M S.l S.t M2 l2 t2 okb

end Go.Proofs.Ythepcnffadjeaaa
