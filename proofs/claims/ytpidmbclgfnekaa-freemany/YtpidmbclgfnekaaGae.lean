/-
  What the calls of slices.Clone, own, Over and Access come to. Conditions: those of each theorem.
-/
import Derived.Test.YtpidmbclgfnekaaGad
import Derived.Shelf.Abstract
namespace Go.Proofs.Ytpidmbclgfnekaa
open Go Go.RowKit

theorem eql_slice (P : Program) (w : World) (t e : TypeId) (a : Option Addr) (n c : Nat) (h : P.underlying t = some (.slice e)) : (binOp .eql t (.slice a n c) (.slice none 0 0)).run P w = .ok (.bool a.isNone) w := by
  have h1 : ∀ d, (Op.equalIn (d + 1) t (.slice a n c) (.slice none 0 0)).run P w = .ok a.isNone w := by
    intro d
    cases a <;> simp [Op.equalIn, run_underlying h]
  simp only [binOp]
  simp [show Op.equal t (.slice a n c) (.slice none 0 0) = Op.equalIn (9999 + 1) t (.slice a n c) (.slice none 0 0) from rfl, h1 9999]
theorem news_us {w : World} {ad : Addr} {n c : Nat} {l : List (BitVec 64)} (h : Us w (.slice (some ad) n c) l) : ∀ j u, (l.map W1)[j]? = some u → w.cell? (ad.add j) = some u := by
  intro j u hj
  have hlt : j < l.length := by
    have := (List.getElem?_eq_some_iff.1 hj).1
    simpa using this
  obtain ⟨b, off, ea, _, hc⟩ := h.at (by omega)
  cases ea
  rw [add_at', hc j hlt]
  rw [List.getElem?_map, List.getElem?_eq_getElem hlt] at hj
  simp [W1] at hj
  rw [← hj]
  simp [uN, List.getD_eq_getElem?_getD, hlt]
theorem ones_us (l : List (BitVec 64)) : ∀ u ∈ l.map W1, u.oneCell' = true := by
  intro u hu
  obtain ⟨i, _, rfl⟩ := List.mem_map.1 hu
  rfl
theorem usB_of_own {D : Nat → Prop} {base : Nat} {w : World} {v : Value} {l : List (BitVec 64)} (h : w.ownsRow base 33 1 v l.length (l.map W1)) (hb : ∀ k, D k → k < base) : UsB D w v l := by
  rcases row_of_own h with ⟨rfl, rfl⟩ | ⟨g, cap, rfl, hc, hg, hlt, hR⟩
  · exact UsB.nil _ _
  · exact ⟨_, cap, rfl, hc, fun _ => ⟨g, 0, rfl, fun x => Nat.not_lt.2 hg (hb _ x), hlt, fun i hi => by rw [Nat.zero_add]; exact hR.cell hi⟩⟩
def RetUs (D : Nat → Prop) (l : List (BitVec 64)) (w : World) (e : Ending) (w' : World) : Prop := ∃ v, e = .returned v ∧ UsB D w' v l ∧ Ext w w'

set_option maxRecDepth 8000 in
set_option maxHeartbeats 1000000 in
theorem cloneU_any (D : Nat → Prop) (l : List (BitVec 64)) (v : Value) (w : World) (hU : Us w v l) (hl : l.length ≤ 1000) (hb : ∀ k, D k → k < w.heap.size) :
    Calls Try.prog 75 #[v] w (RetUs D l w) := by
  have HU := Lib.hid hU
  obtain ⟨a0, cap, rfl, hc, hcell⟩ := hU
  have hq : ∀ a n c w, (binOp .eql 82 (.slice a n c) (.slice none 0 0)).run Try.prog w = .ok (.bool a.isNone) w := fun a n c w => eql_slice _ w _ _ a n c Try.underlying82
  obtain ⟨iU, hiU, hy0, hy1, hy2⟩ := info_parts Try.infoU64t
  cases a0 with
  | none =>
    have e0 : l = [] := by
      cases l with
      | nil => rfl
      | cons x l => obtain ⟨b, off, ea, _⟩ := hcell (by simp); cases ea
    subst e0
    clear hcell HU
    go_enter Try.func75, Try.ntmps75
    go_wp2
    go_ret
    exact ⟨_, rfl, UsB.nil _ _, ext_refl _⟩
  | some ad =>
    clear hcell
    go_enter Try.func75, Try.ntmps75
    go_wp2_with (at_builtin; refine wpList_append_own _ rfl (.tmp 5) (.tmp 6) 82 rfl w.heap.size 33 iU (.int .u64 0) 1 8 Try.underlying82 hiU hy0 hy1 hy2 rfl (by decide) (.slice (some ⟨w.heap.size, 0, none⟩) 0 0) 0 [] rfl (own_none _ _ _ _ _ rfl (Nat.le_refl _)) ad l.length cap (l.map W1) rfl (by simp) (news_us (HU.out.ext (ext_alloc _ (ext_refl w)))) (ones_us l) (by unfold maxLen; omega) (by omega) (by simp) ?_; intro v2 w2 hv2 hg2 hn2; have HV := Lib.hid hv2; have HX2 := Lib.hid (ext_own (w := w) (ext_alloc _ (ext_refl w)) (own_none _ _ _ 1 _ rfl (Nat.le_refl _)) hg2); clear hv2 hg2 hn2)
    go_ret
    refine ⟨_, rfl, ?_, HX2.out⟩
    have hv := HV.out
    rw [Nat.zero_add, List.nil_append] at hv
    exact usB_of_own hv hb

/-- The cells of an access. -/
def A4 (a : Acc) : List Value := [.int .i64 a.op, .int .i64 a.at_, .int .u64 (U a.a), .int .u64 (U a.b)]
theorem a4_len (l : List Acc) : (l.flatMap A4).length = l.length * 4 := by
  induction l with
  | nil => rfl
  | cons p l ih => rw [List.flatMap_cons, List.length_append, ih]; simp [A4]; omega
theorem a4_get (l : List Acc) : ∀ i, i < l.length → ∀ j, j < 4 → (l.flatMap A4)[i * 4 + j]? = (A4 (aN l i))[j]? := by
  induction l with
  | nil => intro i hi; exact absurd hi (Nat.not_lt_zero _)
  | cons p l ih =>
    intro i hi j hj
    rw [List.flatMap_cons]
    cases i with
    | zero =>
      rw [List.getElem?_append_left (by simp [A4]; omega), Nat.zero_mul, Nat.zero_add]
      rfl
    | succ k =>
      have h := ih k (by simpa using hi) j hj
      rw [show (k + 1) * 4 + j = 4 + (k * 4 + j) by omega, List.getElem?_append_right (by simp [A4])]
      simp only [A4, List.length_cons, List.length_nil, Nat.zero_add, Nat.reduceAdd, Nat.add_sub_cancel_left]
      exact h
theorem news_as {D : Nat → Prop} {w : World} {ad : Addr} {n c : Nat} {l : List Acc} (h : AsB D w (.slice (some ad) n c) l) : ∀ j u, (l.flatMap A4)[j]? = some u → w.cell? (ad.add j) = some u := by
  intro j u hj
  have hlt : j < l.length * 4 := by
    have := (List.getElem?_eq_some_iff.1 hj).1
    rwa [a4_len] at this
  obtain ⟨b, off, ea, _, _, hc⟩ := h.at (by omega)
  cases ea
  obtain ⟨i, k, hk, rfl⟩ : ∃ i k, k < 4 ∧ j = i * 4 + k := ⟨j / 4, j % 4, by omega, by omega⟩
  rw [a4_get l i (by omega) k hk] at hj
  obtain ⟨h0, h1, h2, h3⟩ := hc i (by omega)
  rw [add_at', ← Nat.add_assoc]
  rcases (show k = 0 ∨ k = 1 ∨ k = 2 ∨ k = 3 by omega) with rfl | rfl | rfl | rfl <;> simp [A4] at hj <;> subst hj
  · exact h0
  · exact h1
  · exact h2
  · exact h3
theorem ones_as (l : List Acc) : ∀ u ∈ l.flatMap A4, u.oneCell' = true := by
  intro u hu
  obtain ⟨a, _, hu⟩ := List.mem_flatMap.1 hu
  simp [A4] at hu
  rcases hu with rfl | rfl | rfl | rfl <;> rfl
theorem asB_of_own {D : Nat → Prop} {base : Nat} {w : World} {e : TypeId} {v : Value} {l : List Acc} (h : w.ownsRow base e 4 v l.length (l.flatMap A4)) (hb : ∀ k, D k → k < base) : AsB D w v l := by
  rcases h.2 with ⟨rfl, h2⟩ | ⟨g, cap, cur, rfl, hg, hh, hc, hm, hs, ht⟩
  · have : l = [] := List.eq_nil_of_length_eq_zero h2
    subst this
    exact ⟨none, 0, rfl, Nat.le_refl _, fun h => absurd h (Nat.not_lt_zero _)⟩
  · refine ⟨_, cap, rfl, hc, fun _ => ⟨g, 0, rfl, fun x => Nat.not_lt.2 hg (hb _ x), heap_lt hh, fun i hi => ?_⟩⟩
    have h3 : ∀ j, j < 4 → cur[i * 4 + j]? = (A4 (aN l i))[j]? := by
      intro j hj
      rw [← a4_get l i hi j hj, ← ht, List.getElem?_take, if_pos (by omega), Array.getElem?_toList]
    rw [Nat.zero_add]
    exact ⟨cell_at hh (h3 0 (by omega)), cell_at hh (h3 1 (by omega)), cell_at hh (h3 2 (by omega)), cell_at hh (h3 3 (by omega))⟩
def RetAs (D : Nat → Prop) (l : List Acc) (w : World) (e : Ending) (w' : World) : Prop := ∃ v, e = .returned v ∧ AsB D w' v l ∧ Ext w w'
theorem Try.infoAcc : (Try.prog.info? 35).map (fun i => (i.zero, i.size, i.bytes)) = some (some (.agg #[.int .i64 0, .int .i64 0, .int .u64 0, .int .u64 0]), 4, 32) := by kernel_rfl

/-- A program that is over: Over. -/
def RetOver (D : Nat → Prop) (t : List (BitVec 64)) (w : World) (e : Ending) (w' : World) : Prop := ∃ v, e = .returned (.tuple #[v, .bool true]) ∧ UsB D w' v t ∧ Ext w w'
def accV (a : Acc) : Value := .agg #[.int .i64 a.op, .int .i64 a.at_, .int .u64 (U a.a), .int .u64 (U a.b)]

end Go.Proofs.Ytpidmbclgfnekaa

/-
  What the calls of List come to. Conditions: those of each theorem.
-/
namespace Go.Proofs.Ytpidmbclgfnekaa
open Go Go.RowKit

theorem put7_fd {D : Nat → Prop} {w : World} {b : Nat} (x0 x1 x2 x3 x4 x5 x6 : Value) (hb : D b) : FD D w (put7 b x0 x1 x2 x3 x4 x5 x6 w) := by
  refine FD.of_fr (lo := b) (hi := b + 1) ?_ fun k h1 h2 => by rw [show k = b by omega]; exact hb
  have h := Nat.lt_succ_self b
  have z := Nat.le_refl b
  exact (((((((Fr.refl b (b + 1) w).set (p := ⟨b, 0, none⟩) x0 z h).set (p := ⟨b, 1, none⟩) x1 z h).set (p := ⟨b, 2, none⟩) x2 z h).set (p := ⟨b, 3, none⟩) x3 z h).set (p := ⟨b, 4, none⟩) x4 z h).set (p := ⟨b, 5, none⟩) x5 z h).set (p := ⟨b, 6, none⟩) x6 z h
def RetPL (D : Nat → Prop) (l : List Acc) (t : List (BitVec 64)) (w : World) (e : Ending) (w' : World) : Prop := ∃ v, e = .returned v ∧ Ext w w' ∧ PL D l t v w'
/-- What is left behind the first. -/
theorem AsB.tail {D : Nat → Prop} {w : World} {b o cap : Nat} {a : Acc} {l : List Acc} (h : AsB D w (.slice (some ⟨b, o, none⟩) (l.length + 1) cap) (a :: l)) (v : Option Addr) (c : Nat) (hv : 0 < l.length → v = some ⟨b, o + 4, none⟩) (hc : l.length ≤ c) : AsB D w (.slice v l.length c) l := by
  obtain ⟨b', o', e, h0, hlt, hcell⟩ := h.at (by simp)
  cases e
  refine ⟨v, c, rfl, hc, fun hl => ⟨b, o + 4, hv hl, h0, hlt, fun i hi => ?_⟩⟩
  have := hcell (i + 1) (by simpa using hi)
  rw [show o + (i + 1) * 4 = o + 4 + i * 4 by omega] at this
  exact this
theorem PL.shape {D : Nat → Prop} {l : List Acc} {t : List (BitVec 64)} {v : Value} {w : World} (h : PL D l t v w) : ∃ sa n c a fn, v = pV (.slice sa n c) a fn (.pointer none) ∧ (fn = .nilFunc ∨ ∃ g caps, fn = .func (.func g) #[] caps) := by
  cases l with
  | nil => obtain ⟨rv, e, hu⟩ := h; obtain ⟨a1, c1, rfl, _⟩ := hu; exact ⟨_, _, _, _, _, e, .inl rfl⟩
  | cons a l => obtain ⟨g, caps, e, _⟩ := h; exact ⟨_, _, _, _, _, e, .inr ⟨_, _, rfl⟩⟩

end Go.Proofs.Ytpidmbclgfnekaa

/-
  What the calls of Step come to. Conditions: those of each theorem.
-/
namespace Go.Proofs.Ytpidmbclgfnekaa
open Go Go.RowKit

theorem put7_frNew {lo hi : Nat} {a w : World} {b : Nat} (x0 x1 x2 x3 x4 x5 x6 : Value) (h : Fr lo hi a w) (hb : a.heap.size ≤ b) : Fr lo hi a (put7 b x0 x1 x2 x3 x4 x5 x6 w) :=
  ((((((h.setNew (p := ⟨b, 0, none⟩) x0 hb).setNew (p := ⟨b, 1, none⟩) x1 hb).setNew (p := ⟨b, 2, none⟩) x2 hb).setNew (p := ⟨b, 3, none⟩) x3 hb).setNew (p := ⟨b, 4, none⟩) x4 hb).setNew (p := ⟨b, 5, none⟩) x5 hb).setNew (p := ⟨b, 6, none⟩) x6 hb
theorem put7_mem {lo hi : Nat} {L : Lay} {M : MS} {w : World} {b : Nat} (x0 x1 x2 x3 x4 x5 x6 : Value) (h : MemIn lo hi L M w) (hb : hi ≤ b) : MemIn lo hi L M (put7 b x0 x1 x2 x3 x4 x5 x6 w) :=
  ((((((h.setFar (p := ⟨b, 0, none⟩) x0 (.inr hb)).setFar (p := ⟨b, 1, none⟩) x1 (.inr hb)).setFar (p := ⟨b, 2, none⟩) x2 (.inr hb)).setFar (p := ⟨b, 3, none⟩) x3 (.inr hb)).setFar (p := ⟨b, 4, none⟩) x4 (.inr hb)).setFar (p := ⟨b, 5, none⟩) x5 (.inr hb)).setFar (p := ⟨b, 6, none⟩) x6 (.inr hb)
def RetStep (D : Nat → Prop) (lo hi : Nat) (L : Lay) (M' : MS) (l : List Acc) (t : List (BitVec 64)) (w : World) (e : Ending) (w' : World) : Prop :=
  ∃ v, e = .returned (.tuple #[v, .bool true]) ∧ PL D l t v w' ∧ MemIn lo hi L M' w' ∧ Fr lo hi w w'

end Go.Proofs.Ytpidmbclgfnekaa

/-
  What the call of Run comes to. Conditions: those of each theorem.
-/
namespace Go.Proofs.Ytpidmbclgfnekaa
open Go Go.RowKit

instance doOkDec (M : MS) (r : Int) (e : BitVec 64) (op at_ : Int) : Decidable (DoOk M r e op at_) := by
  unfold DoOk Good
  infer_instance
/-- So many accesses, one behind the other, to one that is refused: the memory, what they told, what is left. -/
def runF (r : Int) (e : BitVec 64) : List Acc → Nat → MS → MS × List (BitVec 64) × List Acc
  | [], _, M => (M, [], [])
  | a :: l, 0, M => (M, [], a :: l)
  | a :: l, k + 1, M => if DoOk M r e a.op a.at_ then ((runF r e l k (M.done r a.op a.at_ a.a a.b)).1, M.wd r.toNat a.at_.toNat :: (runF r e l k (M.done r a.op a.at_ a.a a.b)).2.1, (runF r e l k (M.done r a.op a.at_ a.a a.b)).2.2) else (M, [], a :: l)
theorem runF_zero (r : Int) (e : BitVec 64) (l : List Acc) (M : MS) : runF r e l 0 M = (M, [], l) := by
  cases l <;> rfl
theorem runF_no {r : Int} {e : BitVec 64} {a : Acc} {l : List Acc} {M : MS} (h : ¬ DoOk M r e a.op a.at_) (k : Nat) : runF r e (a :: l) k M = (M, [], a :: l) := by
  cases k with
  | zero => rfl
  | succ k => rw [runF, if_neg h]
/-- Behind the words ts, as if from there. -/
def runAs (r : Int) (e : BitVec 64) (l : List Acc) (m : Nat) (M : MS) (ts : List (BitVec 64)) (l' : List Acc) (m' : Nat) (M' : MS) : Prop :=
  (runF r e l m M).1 = (runF r e l' m' M').1 ∧ (runF r e l m M).2.1 = ts ++ (runF r e l' m' M').2.1 ∧ (runF r e l m M).2.2 = (runF r e l' m' M').2.2
theorem runAs.step {r : Int} {e : BitVec 64} {l l' : List Acc} {m m' : Nat} {M M' : MS} {ts : List (BitVec 64)} {a : Acc} (h : runAs r e l m M ts (a :: l') (m' + 1) M') (hd : DoOk M' r e a.op a.at_) :
    runAs r e l m M (ts ++ [M'.wd r.toNat a.at_.toNat]) l' m' (M'.done r a.op a.at_ a.a a.b) := by
  obtain ⟨h1, h2, h3⟩ := h
  rw [runF, if_pos hd] at h1 h2 h3
  exact ⟨h1, by rw [h2, List.append_assoc]; rfl, h3⟩

def RetRun (D : Nat → Prop) (lo hi : Nat) (L : Lay) (x : MS × List (BitVec 64) × List Acc) (t : List (BitVec 64)) (w : World) (en : Ending) (w' : World) : Prop :=
  ∃ rv, en = .returned (.tuple #[rv, .int .i64 (x.2.1.length : Int), .bool x.2.2.isEmpty]) ∧ MemIn lo hi L x.1 w' ∧ Fr lo hi w w' ∧ (x.2.2 = [] → UsB D w' rv (t ++ x.2.1)) ∧ (x.2.2 ≠ [] → rv = .slice none 0 0)
theorem runAs.ends {D : Nat → Prop} {lo hi : Nat} {L : Lay} {r : Int} {e : BitVec 64} {l l' : List Acc} {m m' : Nat} {M M' : MS} {t ts : List (BitVec 64)} {w : World} (h : runAs r e l m M ts l' m' M') (hE : runF r e l' m' M' = (M', [], l')) :
    ∀ en w', RetRun D lo hi L (M', ts, l') t w en w' → RetRun D lo hi L (runF r e l m M) t w en w' := by
  obtain ⟨h1, h2, h3⟩ := h
  rw [hE] at h1 h2 h3
  have : runF r e l m M = (M', ts, l') := Prod.ext h1 (Prod.ext (h2.trans (List.append_nil _)) h3)
  rw [this]
  exact fun _ _ h => h
def RetOverA (D : Nat → Prop) (l : List Acc) (t : List (BitVec 64)) (w : World) (e : Ending) (w' : World) : Prop := ∃ rv, e = .returned (.tuple #[rv, .bool l.isEmpty]) ∧ Ext w w' ∧ (l = [] → UsB D w' rv t) ∧ (l ≠ [] → rv = .slice none 0 0)
theorem PH.shape {D : Nat → Prop} {l : List Acc} {t : List (BitVec 64)} {v : Value} {w : World} (h : PH D l t v w) : ∃ sa n c a fn p, v = pV (.slice sa n c) a fn (.pointer p) ∧ (fn = .nilFunc ∨ ∃ g caps, fn = .func (.func g) #[] caps) := by
  cases l with
  | nil => obtain ⟨rv, p, e, hu⟩ := h; obtain ⟨a1, c1, rfl, _⟩ := hu; exact ⟨_, _, _, _, _, _, e, .inl rfl⟩
  | cons a l => obtain ⟨g, caps, p, e, _⟩ := h; exact ⟨_, _, _, _, _, _, e, .inr ⟨_, _, rfl⟩⟩
/-- A program in its box. -/
structure BoxP (B : Nat) (v : Value) (w : World) : Prop where
  blk : ∃ sa n c a fn p, v = pV (.slice sa n c) a fn (.pointer p) ∧ (fn = .nilFunc ∨ ∃ g caps, fn = .func (.func g) #[] caps) ∧ w.heap[B]? = some (.cells #[.slice sa n c, .int .i64 a.op, .int .i64 a.at_, .int .u64 (U a.a), .int .u64 (U a.b), fn, .pointer p] 158)
structure RunIn (D : Nat → Prop) (lo hi : Nat) (L : Lay) (r : Int) (e : BitVec 64) (l : List Acc) (m : Nat) (M : MS) (t : List (BitVec 64)) (B : Nat) (w : World) (k : Nat) (l' : List Acc) (ts : List (BitVec 64)) (M' : MS) (v : Value) (wr : World) : Prop where
  km : k ≤ m
  kt : k = ts.length
  kl : ts.length + l'.length = l.length
  ras : runAs r e l m M ts l' (m - k) M'
  p : PH D l' (t ++ ts) v wr
  mem : MemIn lo hi L M' wr
  fr : Fr lo hi w wr
  box : BoxP B v wr
  cap : wr.heap[B + 1]? = some (.cells #[.int .i64 r, .int .u64 (U e)] 61)
def RunRel (D : Nat → Prop) (lo hi : Nat) (L : Lay) (r : Int) (e : BitVec 64) (l : List Acc) (m : Nat) (M : MS) (t : List (BitVec 64)) (B : Nat) (w : World) (i : Value) (wr : World) : Prop :=
  ∃ (k : Nat) (l' : List Acc) (ts : List (BitVec 64)) (M' : MS) (v : Value), i = .int .i64 (k : Int) ∧ RunIn D lo hi L r e l m M t B w k l' ts M' v wr


end Go.Proofs.Ytpidmbclgfnekaa

/-
  What the law's awake comes to; the question whether a value is a list of words. No conditions.
-/
namespace Go.Proofs.Ytpidmbclgfnekaa
open Go Go.RowKit


end Go.Proofs.Ytpidmbclgfnekaa

/-
  What the laws of prog ask of the memory and of the runs. Conditions: those of each theorem.
-/
namespace Go.Proofs.Ytpidmbclgfnekaa
open Go Go.RowKit

theorem ok8 : SizesOk [8] := ⟨by decide, fun i hi => by
  obtain rfl : i = 0 := by simp at hi; omega
  decide⟩
theorem ok1 : SizesOk [1] := ⟨by decide, fun i hi => by
  obtain rfl : i = 0 := by simp at hi; omega
  decide⟩
theorem good_int {lo hi : Nat} {L : Lay} {M : MS} {w : World} (h : MemIn lo hi L M w) (r : Int) (e : BitVec 64) (hg : Good M r e) :
    Calls Try.prog 73 #[.pointer (some ⟨L.bm, 0, none⟩), .agg #[.int .i64 r, .int .u64 (U e)]] w (Ret (.bool true) w) := by
  obtain ⟨q, rfl⟩ := Int.eq_ofNat_of_zero_le hg.1
  exact good_yes h q e (by have := hg.2.1; omega) (Lib.hid hg.2.2)
/-- What stays, whatever is run. -/
structure Mem8 (M : MS) : Prop where
  n : M.n = 1
  s : M.sz 0 = 8
  e : M.ep 0 = 1#64
theorem Mem8.zero : Mem8 (M0 [8] 1) := ⟨rfl, rfl, rfl⟩
theorem Mem8.done {M : MS} (h : Mem8 M) (r op at_ : Int) (a b : BitVec 64) : Mem8 (M.done r op at_ a b) := ⟨h.n, h.s, h.e⟩
theorem Mem8.run {r : Int} {e : BitVec 64} : ∀ {l : List Acc} {k : Nat} {M : MS}, Mem8 M → Mem8 (runF r e l k M).1
  | [], _, _, h => by rw [runF]; exact h
  | _ :: _, 0, _, h => h
  | a :: l, k + 1, M, h => by
    rw [runF]
    split
    · exact Mem8.run (h.done _ _ _ _ _)
    · exact h
theorem run_len {r : Int} {e : BitVec 64} : ∀ {l : List Acc} {k : Nat} {M : MS}, (runF r e l k M).2.1.length + (runF r e l k M).2.2.length = l.length ∧ (runF r e l k M).2.1.length ≤ k
  | [], _, _ => by rw [runF]; simp
  | _ :: _, 0, _ => by rw [runF_zero]; simp
  | a :: l, k + 1, M => by
    rw [runF]
    split
    · have h := run_len (r := r) (e := e) (l := l) (k := k) (M := M.done r a.op a.at_ a.a a.b)
      simp only [List.length_cons]
      omega
    · simp
theorem run_ct {r : Int} {e : BitVec 64} : ∀ {l : List Acc} {k : Nat} {M : MS}, 0 ≤ M.ct → M.ct + l.length < 1000000 → (runF r e l k M).1.ct = M.ct + ((runF r e l k M).2.1.length : Int)
  | [], _, _, _, _ => by rw [runF]; simp
  | _ :: _, 0, _, _, _ => by rw [runF_zero]; simp
  | a :: l, k + 1, M, h0, h1 => by
    rw [runF]
    split
    · have hc : (M.done r a.op a.at_ a.a a.b).ct = M.ct + 1 := by
        show wrap64 (M.ct + 1) = _
        unfold wrap64
        simp only [List.length_cons] at h1
        omega
      have h := run_ct (r := r) (e := e) (l := l) (k := k) (M := M.done r a.op a.at_ a.a a.b) (by rw [hc]; omega) (by rw [hc]; simp only [List.length_cons] at h1; omega)
      rw [h, hc]
      simp only [List.length_cons]
      omega
    · simp
theorem run_none {r : Int} {e : BitVec 64} {l : List Acc} {k : Nat} {M : MS} (h : ¬ Good M r e) : runF r e l k M = (M, [], l) := by
  cases l with
  | nil => rw [runF]
  | cons a l => exact runF_no (fun hd => h hd.1) k

theorem store_fn {fn : Value} (h : fn = .nilFunc ∨ ∃ g caps, fn = .func (.func g) #[] caps) : ∀ a m w, (store a fn m).run Try.prog w = stored Try.prog w a fn m := by
  intro a m w
  rcases h with rfl | ⟨g, caps, rfl⟩
  · exact run_store Try.prog w a _ m rfl
  · exact run_store Try.prog w a _ m rfl
/-- What a step may come to. -/
def StepSpec (r : Int) (e : BitVec 64) (M : MS) (l : List Acc) (t : List (BitVec 64)) (M' : MS) (l' : List Acc) (t' : List (BitVec 64)) (ok : Bool) : Prop :=
  (ok = true ∧ ∃ a, l = a :: l' ∧ DoOk M r e a.op a.at_ ∧ M' = M.done r a.op a.at_ a.a a.b ∧ t' = t ++ [M.wd r.toNat a.at_.toNat]) ∨ (ok = false ∧ l' = l ∧ t' = t ∧ M' = M ∧ ∀ k, runF r e l k M = (M, [], l))
def RetStepA (D : Nat → Prop) (lo hi : Nat) (L : Lay) (r : Int) (e : BitVec 64) (M : MS) (l : List Acc) (t : List (BitVec 64)) (w : World) (en : Ending) (w' : World) : Prop :=
  ∃ v' ok l' t' M', en = .returned (.tuple #[v', .bool ok]) ∧ PH D l' t' v' w' ∧ MemIn lo hi L M' w' ∧ Fr lo hi w w' ∧ StepSpec r e M l t M' l' t' ok
theorem runF_more {r : Int} {e : BitVec 64} : ∀ {l : List Acc} {k j : Nat} {M : MS}, l.length ≤ k → l.length ≤ j → runF r e l k M = runF r e l j M
  | [], _, _, _, _, _ => by rw [runF, runF]
  | a :: l, 0, _, _, h, _ => by simp at h
  | a :: l, k + 1, 0, _, _, h => by simp at h
  | a :: l, k + 1, j + 1, M, h1, h2 => by
    rw [runF, runF, runF_more (l := l) (k := k) (j := j) (by simpa using h1) (by simpa using h2)]

section
variable {lo hi B : Nat} {v : Value} {wr wr' : World}
theorem BoxP.ext (h : BoxP B v wr) (hx : Ext wr wr') : BoxP B v wr' := by
  obtain ⟨sa, n, c, a, fn, p, e, hf, hb⟩ := h.blk
  exact ⟨sa, n, c, a, fn, p, e, hf, (hx.block _ (heap_lt hb)).trans hb⟩
theorem BoxP.fr (h : BoxP B v wr) (hf : Fr lo hi wr wr') (hB : hi ≤ B) : BoxP B v wr' := by
  obtain ⟨sa, n, c, a, fn, p, e, hfn, hb⟩ := h.blk
  exact ⟨sa, n, c, a, fn, p, e, hfn, (hf.block _ (heap_lt hb) (.inr hB)).trans hb⟩
end
theorem PH.mono {l : List Acc} {D E : Nat → Prop} {t : List (BitVec 64)} {v : Value} {w : World} (hd : ∀ k, D k → E k) (h : PH E l t v w) : PH D l t v w := by
  cases l with
  | nil => obtain ⟨rv, p, e, hu⟩ := h; exact ⟨rv, p, e, hu.mono hd⟩
  | cons a l =>
    obtain ⟨g, caps, p, e, he, hc⟩ := h
    obtain ⟨g', caps', e', he', hc'⟩ := PL.mono (l := a :: l) (t := t) (v := pV (.slice none 0 0) a (.func (.func g) #[] caps) (.pointer none)) hd ⟨g, caps, rfl, he, hc⟩
    unfold pV at e'
    simp at e'
    obtain ⟨rfl, rfl⟩ := e'
    exact ⟨g, caps, p, e, he, hc'⟩

end Go.Proofs.Ytpidmbclgfnekaa
