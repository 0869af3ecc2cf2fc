/-
  In a pick of the reference's worker: plain facts. Conditions: those of each theorem.
-/
import Derived.Test.YthepcnffadjeaaaThreadRef
namespace Go.Proofs.Ythepcnffadjeaaa
open Go Go.RowKit

section
variable {D E : Nat → Prop} {w w' : World} {v : Value} {us : List Value}
theorem RowB.more (h : RowB D w v us) (he : ∀ k, k < w.heap.size → (E k ↔ D k)) : RowB E w v us := by
  obtain ⟨a0, cap, e, hc, hr⟩ := h
  refine ⟨a0, cap, e, hc, fun hl => ?_⟩
  obtain ⟨b, o, ea, h0, hlt, hcell⟩ := hr hl
  exact ⟨b, o, ea, fun x => h0 ((he b hlt).1 x), hlt, hcell⟩
theorem RowB.tail {b o cap : Nat} {u : Value} (h : RowB D w (.slice (some ⟨b, o, none⟩) (us.length + 1) cap) (u :: us)) (va : Option Addr) (c : Nat) (hv : 0 < us.length → va = some ⟨b, o + 1, none⟩) (hc : us.length ≤ c) : RowB D w (.slice va us.length c) us := by
  obtain ⟨a0, cap', e, _, hr⟩ := h
  simp at e
  obtain ⟨rfl, rfl⟩ := e
  obtain ⟨b', o', ea, h0, hlt, hcell⟩ := hr (by simp)
  cases ea
  refine ⟨va, c, rfl, hc, fun hl => ⟨b, o + 1, hv hl, h0, hlt, fun j x hj => ?_⟩⟩
  rw [show o + 1 + j = o + (j + 1) by omega]
  exact hcell (j + 1) x (by simpa using hj)
theorem RowB.head {b o cap : Nat} {u : Value} (h : RowB D w (.slice (some ⟨b, o, none⟩) (us.length + 1) cap) (u :: us)) : w.cell? ⟨b, o, none⟩ = some u := by
  obtain ⟨a0, cap', e, _, hr⟩ := h
  simp at e
  obtain ⟨rfl, rfl⟩ := e
  obtain ⟨b', o', ea, h0, hlt, hcell⟩ := hr (by simp)
  cases ea
  exact hcell 0 u rfl
theorem RowB.shape {u : Value} (h : RowB D w v (u :: us)) : ∃ b o cap, v = .slice (some ⟨b, o, none⟩) (us.length + 1) cap ∧ us.length + 1 ≤ cap := by
  obtain ⟨a0, cap', e, hc, hr⟩ := h
  obtain ⟨b, o, rfl, _⟩ := hr (by simp)
  exact ⟨b, o, cap', e, hc⟩
end
section
variable {D E : Nat → Prop} {S : WS} {vb vl vt : Value} {w wr : World}
theorem VSt.more (h : VSt D S vb vl vt w wr) (he : ∀ k, k < wr.heap.size → (E k ↔ D k)) : VSt E S vb vl vt w wr := by
  obtain ⟨us, h1, h2⟩ := h.b
  exact ⟨⟨us, h1.more he, h2⟩, h.l, h.t, h.bl, fun hb => (h.bt hb).more he⟩
theorem VSt.mono (h : VSt E S vb vl vt w wr) (hd : ∀ k, D k → E k) : VSt D S vb vl vt w wr := by
  obtain ⟨us, h1, h2⟩ := h.b
  exact ⟨⟨us, h1.mono hd, h2⟩, h.l, h.t, h.bl, fun hb => (h.bt hb).mono hd⟩
/-- Busy no more. -/
theorem VSt.rests (h : VSt D S vb vl vt w wr) (vl' vt' : Value) (hl : ∃ a n c, vl' = .slice a n c) (ht : ∃ a n c, vt' = .slice a n c) : VSt D S.rest vb vl' vt' w wr :=
  ⟨h.b, hl, ht, fun h => (by cases h), fun h => (by cases h)⟩
end
theorem RefIn.only {b0 b1 : Nat → Prop} {R : RL} {M : MS} {w w' : World} (h : RefIn b0 R M w) (hx : Ext w w') (h1 : ∀ b, b0 b → b < w.heap.size → b1 b) (h2 : ∀ b, w'.heap.size ≤ b → b1 b) : RefIn b1 R M w' := by
  have k := h.ext hx
  exact ⟨k.few, k.small, h2, fun hn => ⟨(k.wA hn).1, h1 _ (h.wA hn).2.1 (h.wA hn).2.2, (k.wA hn).2.2⟩, fun hn => ⟨(k.eA hn).1, h1 _ (h.eA hn).2.1 (h.eA hn).2.2, (k.eA hn).2.2⟩, k.wR, k.eR, fun i hi => ⟨h1 _ (h.xA i hi).1 (h.xA i hi).2, (k.xA i hi).2⟩, k.xR⟩
theorem RefIn.fd {D E : Nat → Prop} {R : RL} {M : MS} {w w' : World} (h : RefIn (fun b => ¬ D b) R M w) (hf : FD E w w') (he : ∀ k, E k → D k) : RefIn (fun b => ¬ D b) R M w' :=
  h.keep hf.size fun _ _ h1 hlt => hf.cell hlt fun h2 => h1 (he _ h2)

/-- The blocks that may turn, and the six boxes of the call's own. -/
def RpE (D : Nat → Prop) (B : Nat) (k : Nat) : Prop := D k ∨ (B ≤ k ∧ k < B + 6)
structure RpIn (D : Nat → Prop) (B : Nat) (S : WS) (M : MS) (R : RL) (vb vl vt : Value) (r : Int) (e : BitVec 64) (w wr T : World) : Prop where
  bw : T.heap[B]? = some (.cells #[.int .i64 (S.n : Int), vb, .bool S.busy, vl, vt] 42)
  bm : T.heap[B + 1]? = some (.cells #[.slice R.wa M.n R.wc, .slice R.ea M.n R.ec, .int .i64 M.ct] 33)
  bc : T.heap[B + 2]? = some (.cells #[.int .i64 r, .int .u64 (U e)] 45)
  r3 : T.heap[B + 3]? = some (.cells #[.int .i64 0, .slice none 0 0, .bool false, .slice none 0 0, .slice none 0 0] 42)
  r4 : T.heap[B + 4]? = some (.cells #[.slice none 0 0, .slice none 0 0, .int .i64 0] 33)
  r5 : T.heap[B + 5]? = some (.cells #[.int .i64 0, .slice none 0 0] 59)
  vs : VSt (RpE D B) S vb vl vt w T
  ref : RefIn (fun b => ¬ RpE D B b) R M T
  ext : Ext wr T
  law : Ext w wr
  eq : wr.heap.size = B
  bd : ∀ k, D k → k < B
section
variable {D : Nat → Prop} {B : Nat} {S S' : WS} {M : MS} {R : RL} {vb vl vt vb' vl' vt' : Value} {r : Int} {e : BitVec 64} {w wr T T' : World}
theorem RpIn.big (h : RpIn D B S M R vb vl vt r e w wr T) : B + 6 ≤ T.heap.size := heap_lt h.r5
theorem RpIn.grow (h : RpIn D B S M R vb vl vt r e w wr T) (hx : Ext T T') : RpIn D B S M R vb vl vt r e w wr T' :=
  have hb : ∀ k, k < B + 6 → T'.heap[k]? = T.heap[k]? := fun k hk => hx.block k (Nat.lt_of_lt_of_le hk h.big)
  ⟨(hb _ (by omega)).trans h.bw, (hb _ (by omega)).trans h.bm, (hb _ (by omega)).trans h.bc, (hb _ (by omega)).trans h.r3, (hb _ (by omega)).trans h.r4, (hb _ (by omega)).trans h.r5, h.vs.ext hx, h.ref.ext hx, ext_trans h.ext hx, h.law, h.eq, h.bd⟩
/-- The worker's box is laid anew. -/
theorem RpIn.lay (h : RpIn D B S M R vb vl vt r e w wr T) (hf : FD (fun k => k = B) T T') (hk : T'.heap[B]? = some (.cells #[.int .i64 (S'.n : Int), vb', .bool S'.busy, vl', vt'] 42)) (hv : VSt (RpE D B) S' vb' vl' vt' w T') : RpIn D B S' M R vb' vl' vt' r e w wr T' :=
  have hb : ∀ k, k < B + 6 → k ≠ B → T'.heap[k]? = T.heap[k]? := fun k hk hn => hf.block k (Nat.lt_of_lt_of_le hk h.big) hn
  ⟨hk, (hb _ (by omega) (by omega)).trans h.bm, (hb _ (by omega) (by omega)).trans h.bc, (hb _ (by omega) (by omega)).trans h.r3, (hb _ (by omega) (by omega)).trans h.r4, (hb _ (by omega) (by omega)).trans h.r5, hv, h.ref.fd hf (fun k hk => .inr (by omega)), hf.below h.ext (fun k hk => by rw [h.eq]; omega), h.law, h.eq, h.bd⟩
end
theorem put3_block {w : World} {b : Nat} {y0 y1 y2 : Value} {t : TypeId} {f : Nat × Nat} (x0 x1 x2 : Value) (h : w.heap[b]? = some (.cells #[y0, y1, y2] t f)) :
    (((w.setCell ⟨b, 0, none⟩ x0).setCell ⟨b, 1, none⟩ x1).setCell ⟨b, 2, none⟩ x2).heap[b]? = some (.cells #[x0, x1, x2] t f) := by
  have h0 := set_same (o := 0) x0 h
  have h1 := set_same (o := 1) x1 h0
  have h2 := set_same (o := 2) x2 h1
  rw [h2]
  simp
theorem put3_fd {w : World} {b : Nat} (x0 x1 x2 : Value) : FD (fun k => k = b) w (((w.setCell ⟨b, 0, none⟩ x0).setCell ⟨b, 1, none⟩ x1).setCell ⟨b, 2, none⟩ x2) :=
  (((FD.refl (fun k => k = b) w).set (p := ⟨b, 0, none⟩) _ rfl).set (p := ⟨b, 1, none⟩) _ rfl).set (p := ⟨b, 2, none⟩) _ rfl
/-- Behind stores into a new block. -/
theorem UsB.late {D : Nat → Prop} {w w' : World} {v : Value} {l : List (BitVec 64)} {b : Nat} (h : UsB D w v l) (hx : Ext w w') (hb : w.heap.size ≤ b) (x0 x1 x2 : Value) : UsB D (((w'.setCell ⟨b, 0, none⟩ x0).setCell ⟨b, 1, none⟩ x1).setCell ⟨b, 2, none⟩ x2) v l :=
  ((((h.more (E := fun k => D k ∨ k = b) fun k hk => ⟨fun h => h.resolve_right (by omega), .inl⟩).fr (.of_ext hx)).fr ((put3_fd x0 x1 x2).wide fun _ hk => .inr hk))).mono fun _ hk => .inl hk
section
variable {D : Nat → Prop} {B : Nat} {S : WS} {M : MS} {R : RL} {vb vl vt : Value} {r : Int} {e : BitVec 64} {w wr T T' : World}
theorem RpIn.far {b : Nat} (h : RpIn D B S M R vb vl vt r e w wr T) (hx : Ext T T') (hb : T.heap.size ≤ b) (x0 x1 x2 : Value) : RpIn D B S M R vb vl vt r e w wr (((T'.setCell ⟨b, 0, none⟩ x0).setCell ⟨b, 1, none⟩ x1).setCell ⟨b, 2, none⟩ x2) := by
  have hg := h.grow hx
  have hf := put3_fd (w := T') (b := b) x0 x1 x2
  have h6 := h.big
  have h7 := hg.big
  have hk : ∀ k, k < B + 6 → (((T'.setCell ⟨b, 0, none⟩ x0).setCell ⟨b, 1, none⟩ x1).setCell ⟨b, 2, none⟩ x2).heap[k]? = T'.heap[k]? := fun k hk => hf.block k (by omega) (by omega)
  refine ⟨(hk _ (by omega)).trans hg.bw, (hk _ (by omega)).trans hg.bm, (hk _ (by omega)).trans hg.bc, (hk _ (by omega)).trans hg.r3, (hk _ (by omega)).trans hg.r4, (hk _ (by omega)).trans hg.r5, ?_, ?_, ?_, h.law, h.eq, h.bd⟩
  · exact ((((h.vs.more (E := fun k => RpE D B k ∨ k = b) fun k hk => ⟨fun h => h.resolve_right (by omega), .inl⟩).ext hx).fr (hf.wide fun _ hk => .inr hk))).mono fun _ hk => .inl hk
  · exact h.ref.keep (Nat.le_trans hx.size hf.size) fun k o _ hk => (hf.cell (Nat.lt_of_lt_of_le hk hx.size) (by omega)).trans (hx.cell (p := ⟨k, o, none⟩) hk)
  · exact hf.below (ext_trans h.ext hx) (fun k hk => by have := h.ext.size; omega)
end
/-- Behind the access, whatever it came to. -/
structure RpQ (D : Nat → Prop) (B : Nat) (S : WS) (M : MS) (R : RL) (vb vl vt : Value) (r : Int) (e : BitVec 64) (w wr : World) (bd : Nat) (M2 : MS) (R2 : RL) (T : World) : Prop where
  pk : RpIn D B S M R vb vl vt r e w wr T
  ref : RefIn (fun b => ¬ RpE D B b) R2 M2 T
  box : T.heap[bd]? = some (.cells #[.slice R2.wa M2.n R2.wc, .slice R2.ea M2.n R2.ec, .int .i64 M2.ct] 33)
  far : B + 6 ≤ bd
/-- What the reference's Pick comes to. -/
def RetRP (D : Nat → Prop) (x : MS × WS × Nat × List (BitVec 64)) (w wr : World) (e : Ending) (w' : World) : Prop :=
  ∃ vb vl vt R' ra cap, e = .returned (.tuple #[wV x.2.1 vb vl vt, refV R' x.1, .agg #[.int .i64 (x.2.2.1 : Int), .slice ra x.2.2.2.length cap]]) ∧ VSt D x.2.1 vb vl vt w w' ∧ RefIn (fun b => ¬ D b) R' x.1 w' ∧ UsB D w' (.slice ra x.2.2.2.length cap) x.2.2.2 ∧ Ext wr w'
/-- The results are laid. -/
def putE (B : Nat) (S : WS) (vb vl vt : Value) (R : RL) (M : MS) (k : Nat) (rv : Value) (T : World) : World :=
  ((((((((((T.setCell ⟨B + 3, 0, none⟩ (.int .i64 (S.n : Int))).setCell ⟨B + 3, 1, none⟩ vb).setCell ⟨B + 3, 2, none⟩ (.bool S.busy)).setCell ⟨B + 3, 3, none⟩ vl).setCell ⟨B + 3, 4, none⟩ vt).setCell ⟨B + 4, 0, none⟩ (.slice R.wa M.n R.wc)).setCell ⟨B + 4, 1, none⟩ (.slice R.ea M.n R.ec)).setCell ⟨B + 4, 2, none⟩ (.int .i64 M.ct)).setCell ⟨B + 5, 0, none⟩ (.int .i64 (k : Int))).setCell ⟨B + 5, 1, none⟩ rv)
section
variable {D : Nat → Prop} {B : Nat} {S : WS} {M M' : MS} {R R' : RL} {vb vl vt : Value} {r : Int} {e : BitVec 64} {w wr T : World}
theorem putE_fd (k : Nat) (rv : Value) : FD (fun j => B + 3 ≤ j ∧ j < B + 6) T (putE B S vb vl vt R M k rv T) :=
  (((((((((((FD.refl _ T).set (p := ⟨B + 3, 0, none⟩) _ (by simp)).set (p := ⟨B + 3, 1, none⟩) _ (by simp)).set (p := ⟨B + 3, 2, none⟩) _ (by simp)).set (p := ⟨B + 3, 3, none⟩) _ (by simp)).set (p := ⟨B + 3, 4, none⟩) _ (by simp)).set (p := ⟨B + 4, 0, none⟩) _ (by simp)).set (p := ⟨B + 4, 1, none⟩) _ (by simp)).set (p := ⟨B + 4, 2, none⟩) _ (by simp)).set (p := ⟨B + 5, 0, none⟩) _ (by simp)).set (p := ⟨B + 5, 1, none⟩) _ (by simp))
theorem RpIn.ends (h : RpIn D B S M R vb vl vt r e w wr T) (hR : RefIn (fun b => ¬ RpE D B b) R' M' T) (x : MS × WS × Nat × List (BitVec 64)) (k : Nat) (Rs : List (BitVec 64)) (ra : Option Addr) (cap : Nat) (hx : x = (M', S, k, Rs)) (hU : UsB (RpE D B) T (.slice ra Rs.length cap) Rs) :
    RetRP D x w wr (.returned (.tuple #[wV S vb vl vt, refV R' M', .agg #[.int .i64 (k : Int), .slice ra Rs.length cap]])) (putE B S vb vl vt R' M' k (.slice ra Rs.length cap) T) := by
  subst hx
  have hf := putE_fd (B := B) (S := S) (M := M') (R := R') (vb := vb) (vl := vl) (vt := vt) (T := T) k (.slice ra Rs.length cap)
  have hE : ∀ j, (B + 3 ≤ j ∧ j < B + 6) → RpE D B j := fun j hj => .inr (by omega)
  exact ⟨vb, vl, vt, R', ra, cap, rfl, (h.vs.fr (hf.wide hE)).mono fun _ hk => .inl hk, (hR.fd hf hE).mono fun _ hb hd => hb (.inl hd), (hU.fr (hf.wide hE)).mono fun _ hk => .inl hk, hf.below h.ext (fun k hk => by rw [h.eq]; omega)⟩
theorem RpIn.endsN (h : RpIn D B S M R vb vl vt r e w wr T) (hR : RefIn (fun b => ¬ RpE D B b) R' M' T) (x : MS × WS × Nat × List (BitVec 64)) (k : Nat) (Rs : List (BitVec 64)) (ra : Option Addr) (n cap : Nat) (hn : n = Rs.length) (hx : x = (M', S, k, Rs)) (hU : UsB (RpE D B) T (.slice ra n cap) Rs) :
    RetRP D x w wr (.returned (.tuple #[wV S vb vl vt, refV R' M', .agg #[.int .i64 (k : Int), .slice ra n cap]])) (putE B S vb vl vt R' M' k (.slice ra n cap) T) := by
  subst hn
  exact h.ends hR x k Rs ra cap hx hU
end

end Go.Proofs.Ythepcnffadjeaaa
