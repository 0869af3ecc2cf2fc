/-
  A memory and one worker, as the laws use them; the law's awake. Conditions: those of each theorem.
-/
import Derived.Test.YthepcnffadjeaaaThreadPick
namespace Go.Proofs.Ythepcnffadjeaaa
open Go Go.RowKit

/-- A memory and a worker, made since w: the worker's channel is block q, its box q + 1, its struct q + 2. -/
structure LawIn (D : Nat → Prop) (lo hi : Nat) (L : Lay) (q : Nat) (M : MS) (S : WS) (w wr : World) : Prop where
  mem : MemIn lo hi L M wr
  work : WorkIn D L.bm (q + 2) (q + 1) q S wr
  ext : Ext w wr
  ivl : ∀ k, lo ≤ k → k < hi → D k
  bd : ∀ k, D k → k < wr.heap.size
  ap : hi ≤ q
  old : w.heap.size ≤ lo ∧ w.heap.size ≤ q
section
variable {D : Nat → Prop} {lo hi : Nat} {L : Lay} {q : Nat} {M : MS} {S : WS} {w wr wr' : World}
theorem LawIn.grow (h : LawIn D lo hi L q M S w wr) (hx : Ext wr wr') : LawIn D lo hi L q M S w wr' :=
  ⟨h.mem.ext hx, h.work.ext hx, ext_trans h.ext hx, h.ivl, fun k hk => Nat.lt_of_lt_of_le (h.bd k hk) hx.size, h.ap, h.old⟩
theorem LawIn.over (h : LawIn D lo hi L q M S w wr) (s : Sub wr) : LawIn D lo hi L q M S w (over wr s) := h.grow (over_below wr s)
/-- Behind a Give. -/
theorem LawIn.gave {S' : WS} (h : LawIn D lo hi L q M S w wr) (hW : WorkIn D L.bm (q + 2) (q + 1) q S' wr') (hf : FD (fun k => k = q) wr wr') : LawIn D lo hi L q M S' w wr' :=
  have h1 := h.ap
  have h2 := h.old
  ⟨h.mem.keep hf.size fun k _ hk2 => hf.block k (Nat.lt_of_lt_of_le hk2 h.mem.top) (by omega), hW, hf.below h.ext (fun k hk => by omega), h.ivl, fun k hk => Nat.lt_of_lt_of_le (h.bd k hk) hf.size, h.ap, h.old⟩
/-- Behind a Pick. -/
theorem LawIn.picked {M' : MS} {S' : WS} (h : LawIn D lo hi L q M S w wr) (hM : MemIn lo hi L M' wr') (hW : WorkIn D L.bm (q + 2) (q + 1) q S' wr') (hf : FD (PkD lo hi (q + 2) q) wr wr') : LawIn D lo hi L q M' S' w wr' :=
  have h2 := h.old
  ⟨hM, hW, hf.below h.ext (fun k hk => by unfold PkD at hk; omega), h.ivl, fun k hk => Nat.lt_of_lt_of_le (h.bd k hk) hf.size, h.ap, h.old⟩
/-- Behind a turn of the memory. -/
theorem LawIn.turned {M' : MS} (h : LawIn D lo hi L q M S w wr) (hM : MemIn lo hi L M' wr') (hf : Fr lo hi wr wr') : LawIn D lo hi L q M' S w wr' :=
  have h1 := h.ap
  have h2 := h.old
  ⟨hM, h.work.keep (E := fun k => lo ≤ k ∧ k < hi) (FD.of_fr hf fun _ h1 h2 => ⟨h1, h2⟩) (fun k hk => h.ivl k hk.1 hk.2) (by omega) (by omega) (by omega), hf.below h.ext h2.1, h.ivl, fun k hk => Nat.lt_of_lt_of_le (h.bd k hk) hf.size, h.ap, h.old⟩
/-- Blocks that are none of the worker's, nor the memory's. -/
theorem LawIn.keep {E : Nat → Prop} (h : LawIn D lo hi L q M S w wr) (hf : FD E wr wr') (hd : ∀ k, E k → D k) (hm : ∀ k, E k → hi ≤ k) (h0 : ¬ E q) (h1 : ¬ E (q + 1)) (h2 : ¬ E (q + 2)) (hw : ∀ k, E k → w.heap.size ≤ k) : LawIn D lo hi L q M S w wr' :=
  ⟨h.mem.keep hf.size fun k _ hk2 => hf.block k (Nat.lt_of_lt_of_le hk2 h.mem.top) (fun hk => by have := hm k hk; omega), h.work.keep hf hd h2 h1 h0, hf.below h.ext hw, h.ivl, fun k hk => Nat.lt_of_lt_of_le (h.bd k hk) hf.size, h.ap, h.old⟩

def LawGive (D : Nat → Prop) (lo hi : Nat) (L : Lay) (q : Nat) (M : MS) (S : WS) (v : Value) (w wr : World) (e : Ending) (w' : World) : Prop := e = .returned v ∧ LawIn D lo hi L q M S w w' ∧ FD (fun k => k = q) wr w'
theorem lawGive_room (h : LawIn D lo hi L q M S w wr) (l : List Acc) (v : Value) (hA : AsB (fun _ => False) wr v l) (hl : l.length ≤ 900) (hq : S.q.length < S.n) :
    Calls Try.prog 15 #[.pointer (some ⟨q + 2, 0, none⟩), v] wr (LawGive D lo hi L q M (S.give l) (.int .i64 0) w wr) :=
  (give_room h.work l v hA hl hq h.bd).mono fun _ _ ⟨h1, h2, h3⟩ => ⟨h1, h.gave h2 h3, h3⟩
theorem lawGive_full (h : LawIn D lo hi L q M S w wr) (l : List Acc) (v : Value) (hA : AsB (fun _ => False) wr v l) (hl : l.length ≤ 900) (hq : S.n ≤ S.q.length) :
    Calls Try.prog 15 #[.pointer (some ⟨q + 2, 0, none⟩), v] wr (LawGive D lo hi L q M S (.int .i64 8) w wr) :=
  (give_full h.work l v hA hl hq).mono fun _ _ ⟨h1, h2⟩ => ⟨h1, h.grow h2, .of_ext h2⟩
def LawPick (D : Nat → Prop) (lo hi : Nat) (L : Lay) (q : Nat) (x : MS × WS × Nat × List (BitVec 64)) (w wr : World) (e : Ending) (w' : World) : Prop :=
  ∃ ra cap, e = .returned (.agg #[.int .i64 (x.2.2.1 : Int), .slice ra x.2.2.2.length cap]) ∧ UsB D w' (.slice ra x.2.2.2.length cap) x.2.2.2 ∧ LawIn D lo hi L q x.1 x.2.1 w w' ∧ FD (PkD lo hi (q + 2) q) wr w'
theorem lawPick (h : LawIn D lo hi L q M S w wr) (r : Int) (e : BitVec 64) (x : MS × WS × Nat × List (BitVec 64)) (hx : Hid (pickF r e M S = x)) :
    Calls Try.prog 18 #[.pointer (some ⟨q + 2, 0, none⟩), .agg #[.int .i64 r, .int .u64 (U e)]] wr (LawPick D lo hi L q x w wr) :=
  (pick_any h.work h.mem r e (by have := h.ap; omega) h.ivl h.bd x hx).mono fun _ _ ⟨ra, cap, h1, h2, h3, h4, h5⟩ => ⟨ra, cap, h1, h2, h.picked h3 h4 h5, h5⟩
theorem lawPick_at (h : LawIn D lo hi L q M S w wr) (r x : Int) (e : BitVec 64) (hx : x = U e) (y : MS × WS × Nat × List (BitVec 64)) (hy : Hid (pickF r e M S = y)) :
    Calls Try.prog 18 #[.pointer (some ⟨q + 2, 0, none⟩), .agg #[.int .i64 r, .int .u64 x]] wr (LawPick D lo hi L q y w wr) := by
  subst hx
  exact lawPick h r e y hy
theorem lawWaits (h : LawIn D lo hi L q M S w wr) (n : Int) (hn : (S.q.length : Int) = n) : Calls Try.prog 22 #[.pointer (some ⟨q + 2, 0, none⟩)] wr fun e w' => e = .returned (.int .i64 n) ∧ wr = w' := by
  subst hn
  exact waits_any h.work
theorem lawBusy (h : LawIn D lo hi L q M S w wr) (b : Bool) (hb : S.busy = b) : Calls Try.prog 21 #[.pointer (some ⟨q + 2, 0, none⟩)] wr fun e w' => e = .returned (.bool b) ∧ wr = w' := by
  subst hb
  exact busy_any h.work
/-- Lists, behind a New. -/
structure RetLL (D : Nat → Prop) (lo hi : Nat) (L : Lay) (q : Nat) (M : MS) (n : Nat) (w : World) (e : Ending) (w' : World) : Prop where
  e : e = .returned (.tuple #[.pointer (some ⟨q + 2, 0, none⟩), .int .i64 0])
  law : LawIn D lo hi L q M ⟨n, [], false, [], []⟩ w w'
  size : w'.heap.size = q + 3
theorem lawLists (D : Nat → Prop) (hM : MemIn lo hi L M wr) (hx : Ext w wr) (hlo : w.heap.size ≤ lo) (q : Nat) (hq : wr.heap.size = q) (x : Int) (n : Nat) (hn : x = n) (h1 : 1 ≤ n) (h2 : n ≤ 4096) (hD : ∀ k, PkD lo hi (q + 2) q k → D k) (hb : ∀ k, D k → k < q + 3) :
    Calls Try.prog 12 #[.pointer (some ⟨L.bm, 0, none⟩), .int .i64 x] wr (RetLL D lo hi L q M n w) :=
  (lists_lo L.bm q x n hn h1 h2 wr hq).mono fun _ _ h => ⟨h.e, ⟨hM.ext h.ext, h.work D (hD _ (.inr (.inl rfl))) (hD _ (.inr (.inr rfl))), ext_trans hx h.ext, fun k h1 h2 => hD k (.inl ⟨h1, h2⟩), fun k hk => by rw [h.size]; exact hb k hk, by rw [← hq]; exact hM.top, hlo, by rw [← hq]; exact hx.size⟩, h.size⟩
end
theorem asB_nil (w : World) : AsB (fun _ => False) w (.slice none 0 0) [] := ⟨none, 0, rfl, Nat.le_refl _, fun h => absurd h (Nat.not_lt_zero _)⟩

/-- Two cells, one by one. -/
theorem two_cells {w : World} {b : Nat} {x0 x1 : Value} {t : TypeId} {f : Nat × Nat} (h : w.heap[b]? = some (.cells #[x0, x1] t f)) : w.cell? ⟨b, 0, none⟩ = some x0 ∧ w.cell? ⟨b, 1, none⟩ = some x1 := ⟨cell_at h rfl, cell_at h rfl⟩
/-- A row of accesses that the caller made just now. -/
theorem asB_lit (w : World) (l : List Acc) (cs : Array Value) (t : TypeId) (n : Nat) (hcs : cs = (l.flatMap A4).toArray) (hn : n = l.length) : AsB (fun _ => False) (w.alloc (.cells cs t)) (.slice (some ⟨w.heap.size, 0, none⟩) n n) l := by
  subst hcs hn
  have h0 := heap_alloc_new w (.cells (l.flatMap A4).toArray t)
  refine ⟨_, _, rfl, Nat.le_refl _, fun _ => ⟨_, 0, rfl, fun h => h, by simp, fun i hi => ?_⟩⟩
  have h3 : ∀ j, j < 4 → (l.flatMap A4).toArray[i * 4 + j]? = (A4 (aN l i))[j]? := by
    intro j hj
    rw [List.getElem?_toArray]
    exact a4_get l i hi j hj
  rw [Nat.zero_add]
  exact ⟨cell_at h0 (h3 0 (by omega)), cell_at h0 (h3 1 (by omega)), cell_at h0 (h3 2 (by omega)), cell_at h0 (h3 3 (by omega))⟩

set_option maxRecDepth 8000 in
set_option maxHeartbeats 1000000 in
theorem awake_any (w : World) : Calls Try.prog 8 #[] w (Ret (.bool true) w) := by
  go_enter Try.func8, Try.ntmps8
  go_wp2_with fail
  refine (new_law [1] _ _ (ext_refl w) rfl rfl ok1).mono ?_
  rintro e X ⟨lo, hi, L, rfl, hM, hX, hlo⟩
  have HM : Hid (MemIn lo hi L (M0 [1] 1) X) := Lib.hid hM
  have HX := Lib.hid hX
  obtain ⟨q, hq⟩ : ∃ q, X.heap.size = q := ⟨_, rfl⟩
  have htop : hi ≤ q := by rw [← hq]; exact hM.top
  have HQ := Lib.hid hq
  clear hM hX hq
  go_wp2_with fail
  refine (lawLists (PkD lo hi (q + 2) q) HM.out HX.out hlo q HQ.out 1 1 rfl (by decide) (by decide) (fun _ h => h) (fun k hk => by unfold PkD at hk; omega)).mono ?_
  rintro e X2 ⟨rfl, hL, _⟩
  have HL := Lib.hid hL
  clear hL HM HX HQ
  go_wp2_with fail
  refine (lawGive_room HL.out [] _ (asB_nil _) (by decide) (by decide)).mono ?_
  rintro e X3 ⟨rfl, hL, _⟩
  have HL2 := Lib.hid hL
  clear hL HL
  go_wp2_with fail
  refine (lawWaits HL2.out 1 rfl).mono ?_
  rintro e X4 ⟨rfl, rfl⟩
  go_wp2_with fail
  refine (cap_int HL2.out.mem 0 1#64 (by decide) (by decide) (Lib.hid rfl)).mono ?_
  rintro e w' hr'
  obtain ⟨rfl, s, rfl⟩ := hr'.over
  clear hr'
  go_wp2_with fail
  refine (lawPick (HL2.out.over s) 0 1#64 _ (Lib.hid rfl)).mono ?_
  rintro e X5 ⟨ra, cap, rfl, _, hL, _⟩
  have HL3 := Lib.hid hL.ext
  clear hL HL2
  have e2 : (pickF 0 1#64 (M0 [1] 1) (WS.give ⟨1, [], false, [], []⟩ [])).2.2.1 = 2 := rfl
  rw [e2]
  go_wp2
  go_ret
  exact Ret.mk HL3.out

end Go.Proofs.Ythepcnffadjeaaa
