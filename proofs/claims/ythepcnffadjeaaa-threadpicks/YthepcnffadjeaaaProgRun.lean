/-
  What the call of Run comes to. Conditions: those of each theorem.
-/
import Derived.Test.YthepcnffadjeaaaProgStep
namespace Go.Proofs.Ythepcnffadjeaaa
open Go Go.RowKit

instance (M : MS) (r : Int) (e : BitVec 64) (op at_ : Int) : Decidable (DoOk M r e op at_) := by
  unfold DoOk Good
  infer_instance
/-- So many accesses, one behind the other, to one that is refused: the memory, what they told, what is left. -/
def runF (r : Int) (e : BitVec 64) : List Acc → Nat → MS → MS × List (BitVec 64) × List Acc
  | [], _, M => (M, [], [])
  | a :: l, 0, M => (M, [], a :: l)
  | a :: l, k + 1, M => if DoOk M r e a.op a.at_ then ((runF r e l k (M.done r a.op a.at_ a.a a.b)).1, M.wd r.toNat a.at_.toNat :: (runF r e l k (M.done r a.op a.at_ a.a a.b)).2.1, (runF r e l k (M.done r a.op a.at_ a.a a.b)).2.2) else (M, [], a :: l)
theorem runF_zero (r : Int) (e : BitVec 64) (l : List Acc) (M : MS) : runF r e l 0 M = (M, [], l) := by
  cases l <;> rfl
theorem runF_no {r : Int} {e : BitVec 64} {a : Acc} {l : List Acc} {M : MS} (h : ¬ DoOk M r e a.op a.at_) (k : Nat) : runF r e (a :: l) k M = (M, [], a :: l) := by
  cases k with
  | zero => rfl
  | succ k => rw [runF, if_neg h]
/-- Behind the words ts, as if from there. -/
def runAs (r : Int) (e : BitVec 64) (l : List Acc) (m : Nat) (M : MS) (ts : List (BitVec 64)) (l' : List Acc) (m' : Nat) (M' : MS) : Prop :=
  (runF r e l m M).1 = (runF r e l' m' M').1 ∧ (runF r e l m M).2.1 = ts ++ (runF r e l' m' M').2.1 ∧ (runF r e l m M).2.2 = (runF r e l' m' M').2.2
theorem runAs.step {r : Int} {e : BitVec 64} {l l' : List Acc} {m m' : Nat} {M M' : MS} {ts : List (BitVec 64)} {a : Acc} (h : runAs r e l m M ts (a :: l') (m' + 1) M') (hd : DoOk M' r e a.op a.at_) :
    runAs r e l m M (ts ++ [M'.wd r.toNat a.at_.toNat]) l' m' (M'.done r a.op a.at_ a.a a.b) := by
  obtain ⟨h1, h2, h3⟩ := h
  rw [runF, if_pos hd] at h1 h2 h3
  exact ⟨h1, by rw [h2, List.append_assoc]; rfl, h3⟩

def RetRun (D : Nat → Prop) (lo hi : Nat) (L : Lay) (x : MS × List (BitVec 64) × List Acc) (t : List (BitVec 64)) (w : World) (en : Ending) (w' : World) : Prop :=
  ∃ rv, en = .returned (.tuple #[rv, .int .i64 (x.2.1.length : Int), .bool x.2.2.isEmpty]) ∧ MemIn lo hi L x.1 w' ∧ Fr lo hi w w' ∧ (x.2.2 = [] → UsB D w' rv (t ++ x.2.1)) ∧ (x.2.2 ≠ [] → rv = .slice none 0 0)
theorem runAs.ends {D : Nat → Prop} {lo hi : Nat} {L : Lay} {r : Int} {e : BitVec 64} {l l' : List Acc} {m m' : Nat} {M M' : MS} {t ts : List (BitVec 64)} {w : World} (h : runAs r e l m M ts l' m' M') (hE : runF r e l' m' M' = (M', [], l')) :
    ∀ en w', RetRun D lo hi L (M', ts, l') t w en w' → RetRun D lo hi L (runF r e l m M) t w en w' := by
  obtain ⟨h1, h2, h3⟩ := h
  rw [hE] at h1 h2 h3
  have : runF r e l m M = (M', ts, l') := Prod.ext h1 (Prod.ext (h2.trans (List.append_nil _)) h3)
  rw [this]
  exact fun _ _ h => h
def RetOverA (D : Nat → Prop) (l : List Acc) (t : List (BitVec 64)) (w : World) (e : Ending) (w' : World) : Prop := ∃ rv, e = .returned (.tuple #[rv, .bool l.isEmpty]) ∧ Ext w w' ∧ (l = [] → UsB D w' rv t) ∧ (l ≠ [] → rv = .slice none 0 0)
theorem over_any (D : Nat → Prop) (l : List Acc) (t : List (BitVec 64)) (v : Value) (w : World) (hP : PH D l t v w) (hl : t.length ≤ 1000) (hb : ∀ k, D k → k < w.heap.size) :
    Calls Try.prog 34 #[v] w (RetOverA D l t w) := by
  cases l with
  | nil => exact (over_yes D t v w hP hl hb).mono fun e w' ⟨rv, h1, h2, h3⟩ => ⟨rv, h1, h3, fun _ => h2, fun h => absurd rfl h⟩
  | cons a l => exact (over_no D a l t v w hP).mono fun e w' ⟨h1, h3⟩ => ⟨_, h1, h3, fun h => (by cases h), fun _ => rfl⟩
theorem PH.shape {D : Nat → Prop} {l : List Acc} {t : List (BitVec 64)} {v : Value} {w : World} (h : PH D l t v w) : ∃ sa n c a fn p, v = pV (.slice sa n c) a fn (.pointer p) ∧ (fn = .nilFunc ∨ ∃ g caps, fn = .func (.func g) #[] caps) := by
  cases l with
  | nil => obtain ⟨rv, p, e, hu⟩ := h; obtain ⟨a1, c1, rfl, _⟩ := hu; exact ⟨_, _, _, _, _, _, e, .inl rfl⟩
  | cons a l => obtain ⟨g, caps, p, e, _⟩ := h; exact ⟨_, _, _, _, _, _, e, .inr ⟨_, _, rfl⟩⟩
/-- A program in its box. -/
structure BoxP (B : Nat) (v : Value) (w : World) : Prop where
  blk : ∃ sa n c a fn p, v = pV (.slice sa n c) a fn (.pointer p) ∧ (fn = .nilFunc ∨ ∃ g caps, fn = .func (.func g) #[] caps) ∧ w.heap[B]? = some (.cells #[.slice sa n c, .int .i64 a.op, .int .i64 a.at_, .int .u64 (U a.a), .int .u64 (U a.b), fn, .pointer p] 87)
structure RunIn (D : Nat → Prop) (lo hi : Nat) (L : Lay) (r : Int) (e : BitVec 64) (l : List Acc) (m : Nat) (M : MS) (t : List (BitVec 64)) (B : Nat) (w : World) (k : Nat) (l' : List Acc) (ts : List (BitVec 64)) (M' : MS) (v : Value) (wr : World) : Prop where
  km : k ≤ m
  kt : k = ts.length
  kl : ts.length + l'.length = l.length
  ras : runAs r e l m M ts l' (m - k) M'
  p : PH D l' (t ++ ts) v wr
  mem : MemIn lo hi L M' wr
  fr : Fr lo hi w wr
  box : BoxP B v wr
  cap : wr.heap[B + 1]? = some (.cells #[.int .i64 r, .int .u64 (U e)] 45)
def RunRel (D : Nat → Prop) (lo hi : Nat) (L : Lay) (r : Int) (e : BitVec 64) (l : List Acc) (m : Nat) (M : MS) (t : List (BitVec 64)) (B : Nat) (w : World) (i : Value) (wr : World) : Prop :=
  ∃ (k : Nat) (l' : List Acc) (ts : List (BitVec 64)) (M' : MS) (v : Value), i = .int .i64 (k : Int) ∧ RunIn D lo hi L r e l m M t B w k l' ts M' v wr


end Go.Proofs.Ythepcnffadjeaaa
