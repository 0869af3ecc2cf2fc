/-
  What the call of Run comes to. Conditions: those of each theorem.
-/
import Derived.Test.YtpidmbclgfnekaaGreatGae
import Derived.Laws.Tables
namespace Go.Proofs.YtpidmbclgfnekaaGreat
open Go Go.RowKit

instance doOkDec (M : MS) (r : Int) (e : BitVec 64) (op at_ : Int) : Decidable (DoOk M r e op at_) := by
  unfold DoOk Good
  infer_instance
/-- So many accesses, one behind the other, to one that is refused: the memory, what they told, what is left. -/
def runF (r : Int) (e : BitVec 64) : List Acc → Nat → MS → MS × List (BitVec 64) × List Acc
  | [], _, M => (M, [], [])
  | a :: l, 0, M => (M, [], a :: l)
  | a :: l, k + 1, M => if DoOk M r e a.op a.at_ then ((runF r e l k (M.done r a.op a.at_ a.a a.b)).1, M.wd r.toNat a.at_.toNat :: (runF r e l k (M.done r a.op a.at_ a.a a.b)).2.1, (runF r e l k (M.done r a.op a.at_ a.a a.b)).2.2) else (M, [], a :: l)
theorem runF_zero (r : Int) (e : BitVec 64) (l : List Acc) (M : MS) : runF r e l 0 M = (M, [], l) := by
  cases l <;> rfl
theorem runF_no {r : Int} {e : BitVec 64} {a : Acc} {l : List Acc} {M : MS} (h : ¬ DoOk M r e a.op a.at_) (k : Nat) : runF r e (a :: l) k M = (M, [], a :: l) := by
  cases k with
  | zero => rfl
  | succ k => rw [runF, if_neg h]
/-- Behind the words ts, as if from there. -/
def runAs (r : Int) (e : BitVec 64) (l : List Acc) (m : Nat) (M : MS) (ts : List (BitVec 64)) (l' : List Acc) (m' : Nat) (M' : MS) : Prop :=
  (runF r e l m M).1 = (runF r e l' m' M').1 ∧ (runF r e l m M).2.1 = ts ++ (runF r e l' m' M').2.1 ∧ (runF r e l m M).2.2 = (runF r e l' m' M').2.2
theorem runAs.step {r : Int} {e : BitVec 64} {l l' : List Acc} {m m' : Nat} {M M' : MS} {ts : List (BitVec 64)} {a : Acc} (h : runAs r e l m M ts (a :: l') (m' + 1) M') (hd : DoOk M' r e a.op a.at_) :
    runAs r e l m M (ts ++ [M'.wd r.toNat a.at_.toNat]) l' m' (M'.done r a.op a.at_ a.a a.b) := by
  obtain ⟨h1, h2, h3⟩ := h
  rw [runF, if_pos hd] at h1 h2 h3
  exact ⟨h1, by rw [h2, List.append_assoc]; rfl, h3⟩

def RetRun (D : Nat → Prop) (lo hi : Nat) (L : Lay) (x : MS × List (BitVec 64) × List Acc) (t : List (BitVec 64)) (w : World) (en : Ending) (w' : World) : Prop :=
  ∃ rv, en = .returned (.tuple #[rv, .int .i64 (x.2.1.length : Int), .bool x.2.2.isEmpty]) ∧ MemIn lo hi L x.1 w' ∧ Fr lo hi w w' ∧ (x.2.2 = [] → UsB D w' rv (t ++ x.2.1)) ∧ (x.2.2 ≠ [] → rv = .slice none 0 0)
theorem runAs.ends {D : Nat → Prop} {lo hi : Nat} {L : Lay} {r : Int} {e : BitVec 64} {l l' : List Acc} {m m' : Nat} {M M' : MS} {t ts : List (BitVec 64)} {w : World} (h : runAs r e l m M ts l' m' M') (hE : runF r e l' m' M' = (M', [], l')) :
    ∀ en w', RetRun D lo hi L (M', ts, l') t w en w' → RetRun D lo hi L (runF r e l m M) t w en w' := by
  obtain ⟨h1, h2, h3⟩ := h
  rw [hE] at h1 h2 h3
  have : runF r e l m M = (M', ts, l') := Prod.ext h1 (Prod.ext (h2.trans (List.append_nil _)) h3)
  rw [this]
  exact fun _ _ h => h
def RetOverA (D : Nat → Prop) (l : List Acc) (t : List (BitVec 64)) (w : World) (e : Ending) (w' : World) : Prop := ∃ rv, e = .returned (.tuple #[rv, .bool l.isEmpty]) ∧ Ext w w' ∧ (l = [] → UsB D w' rv t) ∧ (l ≠ [] → rv = .slice none 0 0)
theorem over_any (D : Nat → Prop) (l : List Acc) (t : List (BitVec 64)) (v : Value) (w : World) (hP : PH D l t v w) (hl : t.length ≤ 1000) (hb : ∀ k, D k → k < w.heap.size) :
    Calls Tryz.prog 194 #[v] w (RetOverA D l t w) := by
  cases l with
  | nil => exact (over_yes D t v w hP hl hb).mono fun e w' ⟨rv, h1, h2, h3⟩ => ⟨rv, h1, h3, fun _ => h2, fun h => absurd rfl h⟩
  | cons a l => exact (over_no D a l t v w hP).mono fun e w' ⟨h1, h3⟩ => ⟨_, h1, h3, fun h => (by cases h), fun _ => rfl⟩
theorem PH.shape {D : Nat → Prop} {l : List Acc} {t : List (BitVec 64)} {v : Value} {w : World} (h : PH D l t v w) : ∃ sa n c a fn p, v = pV (.slice sa n c) a fn (.pointer p) ∧ (fn = .nilFunc ∨ ∃ g caps, fn = .func (.func g) #[] caps) := by
  cases l with
  | nil => obtain ⟨rv, p, e, hu⟩ := h; obtain ⟨a1, c1, rfl, _⟩ := hu; exact ⟨_, _, _, _, _, _, e, .inl rfl⟩
  | cons a l => obtain ⟨g, caps, p, e, _⟩ := h; exact ⟨_, _, _, _, _, _, e, .inr ⟨_, _, rfl⟩⟩
/-- A program in its box. -/
structure BoxP (B : Nat) (v : Value) (w : World) : Prop where
  blk : ∃ sa n c a fn p, v = pV (.slice sa n c) a fn (.pointer p) ∧ (fn = .nilFunc ∨ ∃ g caps, fn = .func (.func g) #[] caps) ∧ w.heap[B]? = some (.cells #[.slice sa n c, .int .i64 a.op, .int .i64 a.at_, .int .u64 (U a.a), .int .u64 (U a.b), fn, .pointer p] 230)
structure RunIn (D : Nat → Prop) (lo hi : Nat) (L : Lay) (r : Int) (e : BitVec 64) (l : List Acc) (m : Nat) (M : MS) (t : List (BitVec 64)) (B : Nat) (w : World) (k : Nat) (l' : List Acc) (ts : List (BitVec 64)) (M' : MS) (v : Value) (wr : World) : Prop where
  km : k ≤ m
  kt : k = ts.length
  kl : ts.length + l'.length = l.length
  ras : runAs r e l m M ts l' (m - k) M'
  p : PH D l' (t ++ ts) v wr
  mem : MemIn lo hi L M' wr
  fr : Fr lo hi w wr
  box : BoxP B v wr
  cap : wr.heap[B + 1]? = some (.cells #[.int .i64 r, .int .u64 (U e)] 49)
def RunRel (D : Nat → Prop) (lo hi : Nat) (L : Lay) (r : Int) (e : BitVec 64) (l : List Acc) (m : Nat) (M : MS) (t : List (BitVec 64)) (B : Nat) (w : World) (i : Value) (wr : World) : Prop :=
  ∃ (k : Nat) (l' : List Acc) (ts : List (BitVec 64)) (M' : MS) (v : Value), i = .int .i64 (k : Int) ∧ RunIn D lo hi L r e l m M t B w k l' ts M' v wr


end Go.Proofs.YtpidmbclgfnekaaGreat

/-
  What the law's awake comes to; the question whether a value is a list of words. No conditions.
-/
namespace Go.Proofs.YtpidmbclgfnekaaGreat
open Go Go.RowKit


end Go.Proofs.YtpidmbclgfnekaaGreat

/-
  What the laws of prog ask of the memory and of the runs. Conditions: those of each theorem.
-/
namespace Go.Proofs.YtpidmbclgfnekaaGreat
open Go Go.RowKit

theorem ok8 : SizesOk [8] := ⟨by decide, fun i hi => by
  obtain rfl : i = 0 := by simp at hi; omega
  decide⟩
theorem ok1 : SizesOk [1] := ⟨by decide, fun i hi => by
  obtain rfl : i = 0 := by simp at hi; omega
  decide⟩
theorem good_int {lo hi : Nat} {L : Lay} {M : MS} {w : World} (h : MemIn lo hi L M w) (r : Int) (e : BitVec 64) (hg : Good M r e) :
    Calls Tryz.prog 124 #[.pointer (some ⟨L.bm, 0, none⟩), .agg #[.int .i64 r, .int .u64 (U e)]] w (Ret (.bool true) w) := by
  obtain ⟨q, rfl⟩ := Int.eq_ofNat_of_zero_le hg.1
  exact good_yes h q e (by have := hg.2.1; omega) (Lib.hid hg.2.2)
/-- What stays, whatever is run. -/
structure Mem8 (M : MS) : Prop where
  n : M.n = 1
  s : M.sz 0 = 8
  e : M.ep 0 = 1#64
theorem Mem8.zero : Mem8 (M0 [8] 1) := ⟨rfl, rfl, rfl⟩
theorem Mem8.done {M : MS} (h : Mem8 M) (r op at_ : Int) (a b : BitVec 64) : Mem8 (M.done r op at_ a b) := ⟨h.n, h.s, h.e⟩
theorem Mem8.run {r : Int} {e : BitVec 64} : ∀ {l : List Acc} {k : Nat} {M : MS}, Mem8 M → Mem8 (runF r e l k M).1
  | [], _, _, h => by rw [runF]; exact h
  | _ :: _, 0, _, h => h
  | a :: l, k + 1, M, h => by
    rw [runF]
    split
    · exact Mem8.run (h.done _ _ _ _ _)
    · exact h
theorem run_len {r : Int} {e : BitVec 64} : ∀ {l : List Acc} {k : Nat} {M : MS}, (runF r e l k M).2.1.length + (runF r e l k M).2.2.length = l.length ∧ (runF r e l k M).2.1.length ≤ k
  | [], _, _ => by rw [runF]; simp
  | _ :: _, 0, _ => by rw [runF_zero]; simp
  | a :: l, k + 1, M => by
    rw [runF]
    split
    · have h := run_len (r := r) (e := e) (l := l) (k := k) (M := M.done r a.op a.at_ a.a a.b)
      simp only [List.length_cons]
      omega
    · simp
theorem run_ct {r : Int} {e : BitVec 64} : ∀ {l : List Acc} {k : Nat} {M : MS}, 0 ≤ M.ct → M.ct + l.length < 1000000 → (runF r e l k M).1.ct = M.ct + ((runF r e l k M).2.1.length : Int)
  | [], _, _, _, _ => by rw [runF]; simp
  | _ :: _, 0, _, _, _ => by rw [runF_zero]; simp
  | a :: l, k + 1, M, h0, h1 => by
    rw [runF]
    split
    · have hc : (M.done r a.op a.at_ a.a a.b).ct = M.ct + 1 := by
        show wrap64 (M.ct + 1) = _
        unfold wrap64
        simp only [List.length_cons] at h1
        omega
      have h := run_ct (r := r) (e := e) (l := l) (k := k) (M := M.done r a.op a.at_ a.a a.b) (by rw [hc]; omega) (by rw [hc]; simp only [List.length_cons] at h1; omega)
      rw [h, hc]
      simp only [List.length_cons]
      omega
    · simp
theorem run_none {r : Int} {e : BitVec 64} {l : List Acc} {k : Nat} {M : MS} (h : ¬ Good M r e) : runF r e l k M = (M, [], l) := by
  cases l with
  | nil => rw [runF]
  | cons a l => exact runF_no (fun hd => h hd.1) k

theorem store_fn {fn : Value} (h : fn = .nilFunc ∨ ∃ g caps, fn = .func (.func g) #[] caps) : ∀ a m w, (store a fn m).run Tryz.prog w = stored Tryz.prog w a fn m := by
  intro a m w
  rcases h with rfl | ⟨g, caps, rfl⟩
  · exact run_store Tryz.prog w a _ m rfl
  · exact run_store Tryz.prog w a _ m rfl
/-- What a step may come to. -/
def StepSpec (r : Int) (e : BitVec 64) (M : MS) (l : List Acc) (t : List (BitVec 64)) (M' : MS) (l' : List Acc) (t' : List (BitVec 64)) (ok : Bool) : Prop :=
  (ok = true ∧ ∃ a, l = a :: l' ∧ DoOk M r e a.op a.at_ ∧ M' = M.done r a.op a.at_ a.a a.b ∧ t' = t ++ [M.wd r.toNat a.at_.toNat]) ∨ (ok = false ∧ l' = l ∧ t' = t ∧ M' = M ∧ ∀ k, runF r e l k M = (M, [], l))
def RetStepA (D : Nat → Prop) (lo hi : Nat) (L : Lay) (r : Int) (e : BitVec 64) (M : MS) (l : List Acc) (t : List (BitVec 64)) (w : World) (en : Ending) (w' : World) : Prop :=
  ∃ v' ok l' t' M', en = .returned (.tuple #[v', .bool ok]) ∧ PH D l' t' v' w' ∧ MemIn lo hi L M' w' ∧ Fr lo hi w w' ∧ StepSpec r e M l t M' l' t' ok
theorem runF_more {r : Int} {e : BitVec 64} : ∀ {l : List Acc} {k j : Nat} {M : MS}, l.length ≤ k → l.length ≤ j → runF r e l k M = runF r e l j M
  | [], _, _, _, _, _ => by rw [runF, runF]
  | a :: l, 0, _, _, h, _ => by simp at h
  | a :: l, k + 1, 0, _, _, h => by simp at h
  | a :: l, k + 1, j + 1, M, h1, h2 => by
    rw [runF, runF, runF_more (l := l) (k := k) (j := j) (by simpa using h1) (by simpa using h2)]

section
variable {lo hi B : Nat} {v : Value} {wr wr' : World}
theorem BoxP.ext (h : BoxP B v wr) (hx : Ext wr wr') : BoxP B v wr' := by
  obtain ⟨sa, n, c, a, fn, p, e, hf, hb⟩ := h.blk
  exact ⟨sa, n, c, a, fn, p, e, hf, (hx.block _ (heap_lt hb)).trans hb⟩
theorem BoxP.fr (h : BoxP B v wr) (hf : Fr lo hi wr wr') (hB : hi ≤ B) : BoxP B v wr' := by
  obtain ⟨sa, n, c, a, fn, p, e, hfn, hb⟩ := h.blk
  exact ⟨sa, n, c, a, fn, p, e, hfn, (hf.block _ (heap_lt hb) (.inr hB)).trans hb⟩
end
theorem PH.mono {l : List Acc} {D E : Nat → Prop} {t : List (BitVec 64)} {v : Value} {w : World} (hd : ∀ k, D k → E k) (h : PH E l t v w) : PH D l t v w := by
  cases l with
  | nil => obtain ⟨rv, p, e, hu⟩ := h; exact ⟨rv, p, e, hu.mono hd⟩
  | cons a l =>
    obtain ⟨g, caps, p, e, he, hc⟩ := h
    obtain ⟨g', caps', e', he', hc'⟩ := PL.mono (l := a :: l) (t := t) (v := pV (.slice none 0 0) a (.func (.func g) #[] caps) (.pointer none)) hd ⟨g, caps, rfl, he, hc⟩
    unfold pV at e'
    simp at e'
    obtain ⟨rfl, rfl⟩ := e'
    exact ⟨g, caps, p, e, he, hc'⟩

end Go.Proofs.YtpidmbclgfnekaaGreat

/-
  What the calls of own, Done and Over come to, of the programs that come to a word, a bool, None. No conditions but those of each theorem.
-/
namespace Go.Proofs.YtpidmbclgfnekaaGreat
open Go Go.RowKit

/-- Six cells are laid anew. -/
def put6 (b : Nat) (x0 x1 x2 x3 x4 x5 : Value) (w : World) : World :=
  ((((((w.setCell ⟨b, 0, none⟩ x0).setCell ⟨b, 1, none⟩ x1).setCell ⟨b, 2, none⟩ x2).setCell ⟨b, 3, none⟩ x3).setCell ⟨b, 4, none⟩ x4).setCell ⟨b, 5, none⟩ x5)
theorem put6_ext {u w : World} {b : Nat} (x0 x1 x2 x3 x4 x5 : Value) (h : Ext u w) (hb : u.heap.size ≤ b) : Ext u (put6 b x0 x1 x2 x3 x4 x5 w) :=
  ext_set _ hb (ext_set _ hb (ext_set _ hb (ext_set _ hb (ext_set _ hb (ext_set _ hb h)))))
theorem put6_block {w : World} {b : Nat} {c0 c1 c2 c3 c4 c5 : Value} {t : TypeId} {f : Nat × Nat} (x0 x1 x2 x3 x4 x5 : Value) (h : w.heap[b]? = some (.cells #[c0, c1, c2, c3, c4, c5] t f)) :
    (put6 b x0 x1 x2 x3 x4 x5 w).heap[b]? = some (.cells #[x0, x1, x2, x3, x4, x5] t f) := by
  have h0 := set_same (o := 0) x0 h
  have h1 := set_same (o := 1) x1 h0
  have h2 := set_same (o := 2) x2 h1
  have h3 := set_same (o := 3) x3 h2
  have h4 := set_same (o := 4) x4 h3
  have h5 := set_same (o := 5) x5 h4
  unfold put6
  rw [h5]
  simp
theorem put6_other {w : World} {b k : Nat} (x0 x1 x2 x3 x4 x5 : Value) (h : k ≠ b) : (put6 b x0 x1 x2 x3 x4 x5 w).heap[k]? = w.heap[k]? := by
  unfold put6
  rw [set_other _ h, set_other _ h, set_other _ h, set_other _ h, set_other _ h, set_other _ h]
theorem put6_size {w : World} {b : Nat} (x0 x1 x2 x3 x4 x5 : Value) : (put6 b x0 x1 x2 x3 x4 x5 w).heap.size = w.heap.size := by
  unfold put6
  rw [set_size, set_size, set_size, set_size, set_size, set_size]
theorem put6_frNew {lo hi : Nat} {a w : World} {b : Nat} (x0 x1 x2 x3 x4 x5 : Value) (h : Fr lo hi a w) (hb : a.heap.size ≤ b) : Fr lo hi a (put6 b x0 x1 x2 x3 x4 x5 w) :=
  (((((h.setNew (p := ⟨b, 0, none⟩) x0 hb).setNew (p := ⟨b, 1, none⟩) x1 hb).setNew (p := ⟨b, 2, none⟩) x2 hb).setNew (p := ⟨b, 3, none⟩) x3 hb).setNew (p := ⟨b, 4, none⟩) x4 hb).setNew (p := ⟨b, 5, none⟩) x5 hb
theorem put6_mem {lo hi : Nat} {L : Lay} {M : MS} {w : World} {b : Nat} (x0 x1 x2 x3 x4 x5 : Value) (h : MemIn lo hi L M w) (hb : hi ≤ b) : MemIn lo hi L M (put6 b x0 x1 x2 x3 x4 x5 w) :=
  (((((h.setFar (p := ⟨b, 0, none⟩) x0 (.inr hb)).setFar (p := ⟨b, 1, none⟩) x1 (.inr hb)).setFar (p := ⟨b, 2, none⟩) x2 (.inr hb)).setFar (p := ⟨b, 3, none⟩) x3 (.inr hb)).setFar (p := ⟨b, 4, none⟩) x4 (.inr hb)).setFar (p := ⟨b, 5, none⟩) x5 (.inr hb)
/-- A function that comes, by the word that is told, to a program that is over. -/
def FnX (D : Nat → Prop) (fn : Value) (G : BitVec 64 → Value) (w : World) : Prop := ∃ g caps, fn = .func (.func g) #[] caps ∧ (∀ args w, (callFunc g args).run Tryz.prog w = .ok (.enter g args) w) ∧ ∀ (x : BitVec 64) (w' : World), FD D w w' → Calls Tryz.prog g (#[.int .u64 (U x)] ++ caps) w' (Ret (G x) w')
structure Six (b : Nat) (x0 x1 x2 x3 x4 x5 : Value) (w : World) : Prop where
  c0 : w.cell? ⟨b, 0, none⟩ = some x0
  c1 : w.cell? ⟨b, 1, none⟩ = some x1
  c2 : w.cell? ⟨b, 2, none⟩ = some x2
  c3 : w.cell? ⟨b, 3, none⟩ = some x3
  c4 : w.cell? ⟨b, 4, none⟩ = some x4
  c5 : w.cell? ⟨b, 5, none⟩ = some x5
  cz : ∀ o, w.frozen? ⟨b, o, none⟩ = false
  lt : b < w.heap.size
theorem shape00 {w : World} {b : Nat} {c : Array Value} {t : TypeId} {f : Nat × Nat} (h : w.heap[b]? = some (.cells c t f)) : w.shape? b = some (t, c.size) := by
  simp [World.shape?, h]
theorem part00 {w : World} {b : Nat} {c : Array Value} {f : Nat × Nat} (h : w.heap[b]? = some (.cells c 87 f)) : (partAt ⟨b, 0, none⟩ 0 0).run Tryz.prog w = .ok ⟨b, 0, none⟩ w := by
  have h0 := shape00 h
  have h1 : (Tryz.prog.cellsOf 87) = 6 := by kernel_rfl
  have h2 : byteOfCell Tryz.prog Tryz.prog.depth 87 0 = some 0 := by kernel_rfl
  simp [partAt, byteOf, noView, viewAt, h0, h1, h2, run_program]
theorem six_of {w : World} {b : Nat} {x0 x1 x2 x3 x4 x5 : Value} {t : TypeId} (h : w.heap[b]? = some (.cells #[x0, x1, x2, x3, x4, x5] t (0, 0))) : Six b x0 x1 x2 x3 x4 x5 w :=
  ⟨cell_at h rfl, cell_at h rfl, cell_at h rfl, cell_at h rfl, cell_at h rfl, cell_at h rfl, fun _ => free_at h, (Array.getElem?_eq_some_iff.1 h).1⟩


theorem fnU : Tryz.prog.underlying 168 = some (.func #[40] #[170] false) := by kernel_rfl
set_option maxRecDepth 8000 in
set_option maxHeartbeats 1000000 in
theorem ownU (x : Int) (w : World) : Calls Tryz.prog 161 #[.int .u64 x] w (Ret (.int .u64 x) w) := by
  have ta : ∀ v w, (Instr.typeAssert (.iface 223 v) 20 196 true).run Tryz.prog w = .ok (.tuple #[.pointer none, .bool false]) w := fun v w => assert_no _ v w (by decide)
  go_enter Tryz.func161, Tryz.ntmps161
  go_wp2
  go_ret
  exact Ret.mk (by repeat (first | exact ext_refl _ | apply ext_alloc))

set_option maxRecDepth 8000 in
set_option maxHeartbeats 1000000 in
theorem doneU (x : Int) (w : World) : Calls Tryz.prog 162 #[.int .u64 x] w (Ret (.agg #[.int .u64 x, .int .i64 0, .int .i64 0, .int .u64 0, .int .u64 0, .nilFunc, .pointer none]) w) := by
  go_enter Tryz.func162, Tryz.ntmps162
  go_wp2_with (go_at_call 161; refine (ownU x _).mono ?_; rintro e w' ⟨rfl, hx⟩; refine Hid.out ?_)
  refine Lib.hid ?_
  have hblk := (hx.block (w.heap.size) (by simp)).trans (heap_at w _ _ (by simp))
  have hE : Ext w w' := by
    refine ext_trans ?_ hx
    repeat (first | exact ext_refl _ | apply ext_alloc)
  have hX := put7_ext (b := w.heap.size) (.int .u64 x) (.int .i64 0) (.int .i64 0) (.int .u64 0) (.int .u64 0) (.nilFunc) (.pointer none) hE (by omega)
  have hB := put7_block (.int .u64 x) (.int .i64 0) (.int .i64 0) (.int .u64 0) (.int .u64 0) (.nilFunc) (.pointer none) hblk
  obtain ⟨c0, c1, c2, c3, c4, c5, c6, cz, ll⟩ := sev_of hblk
  rw [put7] at hX hB
  have HX := Lib.hid hX
  have HB := Lib.hid hB
  clear hX hB hx hE hblk
  go_wp2
  replace HX := HX.out
  replace HB := HB.out
  clear c0 c1 c2 c3 c4 c5 c6 cz ll
  generalize (World.setCell _ (⟨w.heap.size, 6, none⟩ : Addr) _) = Z at HB HX ⊢
  obtain ⟨c0, c1, c2, c3, c4, c5, c6, cz, ll⟩ := sev_of HB
  exact bodyPost_ret (by simp only [results, Tryz.results162, go_sem]; simp [go_sem, c0, c1, c2, c3, c4, c5, c6]) rfl (Ret.mk HX)

set_option maxRecDepth 8000 in
set_option maxHeartbeats 1000000 in
theorem overYU (x : Int) (a1 a2 a3 a4 : Int) (w : World) : Calls Tryz.prog 143 #[.agg #[.int .u64 x, .int .i64 a1, .int .i64 a2, .int .u64 a3, .int .u64 a4, .nilFunc, .pointer none]] w (Ret (.tuple #[.int .u64 x, .bool true]) w) := by
  have n0 : ∀ w, (binOp .neq 168 .nilFunc .nilFunc).run Tryz.prog w = .ok (.bool false) w := fun w => neq_nil w fnU
  go_enter Tryz.func143, Tryz.ntmps143
  go_wp2_with (go_at_call 161; refine (ownU x _).mono ?_; rintro e w' ⟨rfl, hx⟩; have HX := Lib.hid hx; clear hx)
  exact bodyPost_ret (v := .tuple #[.int .u64 x, .bool true]) (by simp [results, Tryz.results143, go_sem]) rfl (Ret.mk (by first | exact ext_trans (ext_alloc _ (ext_refl w)) HX.out | exact ext_trans (ext_alloc _ (ext_alloc _ (ext_refl w))) HX.out))

theorem fnB : Tryz.prog.underlying 203 = some (.func #[40] #[205] false) := by kernel_rfl
set_option maxRecDepth 8000 in
set_option maxHeartbeats 1000000 in
theorem ownB (x : Bool) (w : World) : Calls Tryz.prog 176 #[.bool x] w (Ret (.bool x) w) := by
  have ta : ∀ v w, (Instr.typeAssert (.iface 225 v) 20 196 true).run Tryz.prog w = .ok (.tuple #[.pointer none, .bool false]) w := fun v w => assert_no _ v w (by decide)
  go_enter Tryz.func176, Tryz.ntmps176
  go_wp2
  go_ret
  exact Ret.mk (by repeat (first | exact ext_refl _ | apply ext_alloc))

set_option maxRecDepth 8000 in
set_option maxHeartbeats 1000000 in
theorem doneB (x : Bool) (w : World) : Calls Tryz.prog 167 #[.bool x] w (Ret (.agg #[.bool x, .int .i64 0, .int .i64 0, .int .u64 0, .int .u64 0, .nilFunc, .pointer none]) w) := by
  go_enter Tryz.func167, Tryz.ntmps167
  go_wp2_with (go_at_call 176; refine (ownB x _).mono ?_; rintro e w' ⟨rfl, hx⟩; refine Hid.out ?_)
  refine Lib.hid ?_
  have hblk := (hx.block (w.heap.size) (by simp)).trans (heap_at w _ _ (by simp))
  have hE : Ext w w' := by
    refine ext_trans ?_ hx
    repeat (first | exact ext_refl _ | apply ext_alloc)
  have hX := put7_ext (b := w.heap.size) (.bool x) (.int .i64 0) (.int .i64 0) (.int .u64 0) (.int .u64 0) (.nilFunc) (.pointer none) hE (by omega)
  have hB := put7_block (.bool x) (.int .i64 0) (.int .i64 0) (.int .u64 0) (.int .u64 0) (.nilFunc) (.pointer none) hblk
  obtain ⟨c0, c1, c2, c3, c4, c5, c6, cz, ll⟩ := sev_of hblk
  rw [put7] at hX hB
  have HX := Lib.hid hX
  have HB := Lib.hid hB
  clear hX hB hx hE hblk
  go_wp2
  replace HX := HX.out
  replace HB := HB.out
  clear c0 c1 c2 c3 c4 c5 c6 cz ll
  generalize (World.setCell _ (⟨w.heap.size, 6, none⟩ : Addr) _) = Z at HB HX ⊢
  obtain ⟨c0, c1, c2, c3, c4, c5, c6, cz, ll⟩ := sev_of HB
  exact bodyPost_ret (by simp only [results, Tryz.results167, go_sem]; simp [go_sem, c0, c1, c2, c3, c4, c5, c6]) rfl (Ret.mk HX)

set_option maxRecDepth 8000 in
set_option maxHeartbeats 1000000 in
theorem overYB (x : Bool) (a1 a2 a3 a4 : Int) (w : World) : Calls Tryz.prog 163 #[.agg #[.bool x, .int .i64 a1, .int .i64 a2, .int .u64 a3, .int .u64 a4, .nilFunc, .pointer none]] w (Ret (.tuple #[.bool x, .bool true]) w) := by
  have n0 : ∀ w, (binOp .neq 203 .nilFunc .nilFunc).run Tryz.prog w = .ok (.bool false) w := fun w => neq_nil w fnB
  go_enter Tryz.func163, Tryz.ntmps163
  go_wp2_with (go_at_call 176; refine (ownB x _).mono ?_; rintro e w' ⟨rfl, hx⟩; have HX := Lib.hid hx; clear hx)
  exact bodyPost_ret (v := .tuple #[.bool x, .bool true]) (by simp [results, Tryz.results163, go_sem]) rfl (Ret.mk (by first | exact ext_trans (ext_alloc _ (ext_refl w)) HX.out | exact ext_trans (ext_alloc _ (ext_alloc _ (ext_refl w))) HX.out))

theorem fnN : Tryz.prog.underlying 85 = some (.func #[40] #[87] false) := by kernel_rfl
set_option maxRecDepth 8000 in
set_option maxHeartbeats 1000000 in
theorem ownN  (w : World) : Calls Tryz.prog 127 #[.agg #[]] w (Ret (.agg #[]) w) := by
  have ta : ∀ v w, (Instr.typeAssert (.iface 214 v) 20 196 true).run Tryz.prog w = .ok (.tuple #[.pointer none, .bool false]) w := fun v w => assert_no _ v w (by decide)
  go_enter Tryz.func127, Tryz.ntmps127
  go_wp2
  exact bodyPost_ret (v := .agg #[]) (by simp [results, Tryz.results127, go_sem]) rfl (Ret.mk (by repeat (first | exact ext_refl _ | apply ext_alloc)))

set_option maxRecDepth 8000 in
set_option maxHeartbeats 1000000 in
theorem doneN  (w : World) : Calls Tryz.prog 129 #[.agg #[]] w (Ret (.agg #[.int .i64 0, .int .i64 0, .int .u64 0, .int .u64 0, .nilFunc, .pointer none]) w) := by
  have hbd : ∀ v w, v = .agg #[] → (Instr.build 87 #[(0, v)]).run Tryz.prog w = .ok (.agg #[.int .i64 0, .int .i64 0, .int .u64 0, .int .u64 0, .nilFunc, .pointer none]) w := fun v w hv => by subst hv; exact run_build w _ _ #[.int .i64 0, .int .i64 0, .int .u64 0, .int .u64 0, .nilFunc, .pointer none] (by kernel_rfl)
  go_enter Tryz.func129, Tryz.ntmps129
  go_wp2_with (go_at_call 127; refine (ownN  _).mono ?_; rintro e w' ⟨rfl, hx⟩; refine Hid.out ?_)
  refine Lib.hid ?_
  have hblk := (hx.block (w.heap.size + 1) (by simp)).trans (heap_at (w.alloc (.cells #[] 82)) _ _ (by simp))
  have hE : Ext w w' := by
    refine ext_trans ?_ hx
    repeat (first | exact ext_refl _ | apply ext_alloc)
  have hX := put6_ext (b := w.heap.size + 1) (.int .i64 0) (.int .i64 0) (.int .u64 0) (.int .u64 0) (.nilFunc) (.pointer none) hE (by omega)
  have hB := put6_block (.int .i64 0) (.int .i64 0) (.int .u64 0) (.int .u64 0) (.nilFunc) (.pointer none) hblk
  obtain ⟨c0, c1, c2, c3, c4, c5, cz, ll⟩ := six_of hblk
  rw [put6] at hX hB
  have HX := Lib.hid hX
  have HB := Lib.hid hB
  clear hX hB hx hE hblk
  rename_i K hK
  refine hK _ _ ?_
  refine wpList_plain rfl fun K' hK' => ?_
  unfold Oper.wp execOp
  simp only [Sem.run_bind, Sem.run_pure, List.map_toArray, List.map_cons, List.map_nil]
  rw [hbd]
  rotate_left
  · rfl
  clear hbd
  go_wp2
  replace HX := HX.out
  replace HB := HB.out
  clear c0 c1 c2 c3 c4 c5 cz ll
  generalize (World.setCell _ (⟨w.heap.size + 1, 5, none⟩ : Addr) _) = Z at HB HX ⊢
  obtain ⟨c0, c1, c2, c3, c4, c5, cz, ll⟩ := six_of HB
  exact bodyPost_ret (by simp only [results, Tryz.results129, go_sem]; simp [go_sem, c0, c1, c2, c3, c4, c5]) rfl (Ret.mk HX)

set_option maxRecDepth 8000 in
set_option maxHeartbeats 1000000 in
theorem overYN  (a1 a2 a3 a4 : Int) (w : World) : Calls Tryz.prog 81 #[.agg #[.int .i64 a1, .int .i64 a2, .int .u64 a3, .int .u64 a4, .nilFunc, .pointer none]] w (Ret (.tuple #[.agg #[], .bool true]) w) := by
  have n0 : ∀ w, (binOp .neq 85 .nilFunc .nilFunc).run Tryz.prog w = .ok (.bool false) w := fun w => neq_nil w fnN
  have hp : ∀ o2, (partAt ⟨w.heap.size, 0, none⟩ 0 0).run Tryz.prog ((w.alloc (.cells #[.int .i64 a1, .int .i64 a2, .int .u64 a3, .int .u64 a4, .nilFunc, .pointer none] 87)).alloc o2) = .ok ⟨w.heap.size, 0, none⟩ ((w.alloc (.cells #[.int .i64 a1, .int .i64 a2, .int .u64 a3, .int .u64 a4, .nilFunc, .pointer none] 87)).alloc o2) := fun o2 => part00 ((Below.heap_alloc _ _ _ (by simp)).trans (heap_at w _ _ rfl))
  go_enter Tryz.func81, Tryz.ntmps81
  go_wp2_with (go_at_call 127; refine (ownN  _).mono ?_; rintro e w' ⟨rfl, hx⟩; have HX := Lib.hid hx; clear hx)
  exact bodyPost_ret (v := .tuple #[.agg #[], .bool true]) (by simp [results, Tryz.results81, go_sem]) rfl (Ret.mk (by first | exact ext_trans (ext_alloc _ (ext_refl w)) HX.out | exact ext_trans (ext_alloc _ (ext_alloc _ (ext_refl w))) HX.out))

set_option maxRecDepth 8000 in
set_option maxHeartbeats 2000000 in
theorem stepYN (D : Nat → Prop) {lo hi : Nat} {L : Lay} {M : MS}  (a : Acc) (fn : Value)  (r : Int) (e : BitVec 64) (w : World) (x : BitVec 64) (hx0 : Hid (M.wd r.toNat a.at_.toNat = x)) (hF : FnX D fn (fun _ => .agg #[.int .i64 0, .int .i64 0, .int .u64 0, .int .u64 0, .nilFunc, .pointer none]) w) (hM : MemIn lo hi L M w) (hd : DoOk M r e a.op a.at_) (hD : ∀ k, lo ≤ k → k < hi → D k) :
    Calls Tryz.prog 80 #[.agg #[.int .i64 a.op, .int .i64 a.at_, .int .u64 (U a.a), .int .u64 (U a.b), fn, .pointer none], .pointer (some ⟨L.bm, 0, none⟩), .agg #[.int .i64 r, .int .u64 (U e)]] w (RetM lo hi L (M.done r a.op a.at_ a.a a.b) (.tuple #[.agg #[.int .i64 0, .int .i64 0, .int .u64 0, .int .u64 0, .nilFunc, .pointer none], .bool true]) w) := by
  obtain ⟨g, caps, rfl, hg, hc⟩ := hF
  have HC := Lib.hid hc
  have HM := Lib.hid hM
  have HDO := Lib.hid hd
  have hhi := hM.top
  clear hc hM hd
  have n0 : ∀ f x y w, (binOp .eql 85 (.func f x y) .nilFunc).run Tryz.prog w = .ok (.bool false) w := fun f x y w => eql_fn w fnN f x y
  go_enter Tryz.func80, Tryz.ntmps80
  go_wp2_with (go_at_call 77; refine Hid.out ?_)
  refine Lib.hid ?_
  have hb3 := heap_at ((w.alloc (.cells #[.int .i64 a.op, .int .i64 a.at_, .int .u64 (U a.a), .int .u64 (U a.b), .func (.func g) #[] caps, .pointer none] 87)).alloc (.cells #[.int .i64 r, .int .u64 (U e)] 49)) (.cells #[.int .i64 0, .int .i64 0, .int .u64 0, .int .u64 0, .nilFunc, .pointer none] 87) (w.heap.size + 1 + 1) (by simp)
  have hb1 := cell_at (o := 4) (heap_at w (.cells #[.int .i64 a.op, .int .i64 a.at_, .int .u64 (U a.a), .int .u64 (U a.b), .func (.func g) #[] caps, .pointer none] 87) w.heap.size rfl) rfl
  have hb1' := ext_cell (ext_alloc (.cells #[.int .i64 0, .int .i64 0, .int .u64 0, .int .u64 0, .nilFunc, .pointer none] 87) (ext_alloc (.cells #[.int .i64 r, .int .u64 (U e)] 49) (ext_refl _))) hb1
  have hEW : Ext w (((w.alloc (.cells #[.int .i64 a.op, .int .i64 a.at_, .int .u64 (U a.a), .int .u64 (U a.b), .func (.func g) #[] caps, .pointer none] 87)).alloc (.cells #[.int .i64 r, .int .u64 (U e)] 49)).alloc (.cells #[.int .i64 0, .int .i64 0, .int .u64 0, .int .u64 0, .nilFunc, .pointer none] 87)) := ext_alloc _ (ext_alloc _ (ext_alloc _ (ext_refl w)))
  have hz : (((w.alloc (.cells #[.int .i64 a.op, .int .i64 a.at_, .int .u64 (U a.a), .int .u64 (U a.b), .func (.func g) #[] caps, .pointer none] 87)).alloc (.cells #[.int .i64 r, .int .u64 (U e)] 49)).alloc (.cells #[.int .i64 0, .int .i64 0, .int .u64 0, .int .u64 0, .nilFunc, .pointer none] 87)).heap.size = w.heap.size + 1 + 1 + 1 := by simp
  clear hb1
  generalize (((w.alloc (.cells #[.int .i64 a.op, .int .i64 a.at_, .int .u64 (U a.a), .int .u64 (U a.b), .func (.func g) #[] caps, .pointer none] 87)).alloc (.cells #[.int .i64 r, .int .u64 (U e)] 49)).alloc (.cells #[.int .i64 0, .int .i64 0, .int .u64 0, .int .u64 0, .nilFunc, .pointer none] 87)) = W at hb3 hb1' hEW hz ⊢
  refine (do_yes (HM.out.ext hEW) r a.op a.at_ e a.a a.b HDO.out).mono ?_
  rintro e1 w1 ⟨rfl, hm1, hf1⟩
  rw [hx0.out]
  have hs1 := hf1.size
  have k5 : w1.cell? ⟨w.heap.size, 4, none⟩ = some (.func (.func g) #[] caps) := by
    rw [hf1.cell (by omega) (.inr hhi)]; exact hb1'
  have hb31 := (hf1.block (w.heap.size + 1 + 1) (by omega) (.inr (by omega))).trans hb3
  have HM1 := Lib.hid hm1
  have HF1 := Lib.hid ((Fr.of_ext hEW).trans hf1)
  have HB1 := Lib.hid hb31
  have HCX := Lib.hid (HC.out x w1 (FD.of_fr HF1.out hD))
  have lw1 : w.heap.size < w1.heap.size := by omega
  clear hm1 hf1 hb3 hb1' hb31 hEW HC HM HDO
  go_wp2_with (refine HCX.out.mono ?_; rintro e2 w2 ⟨rfl, hx⟩; refine Hid.out ?_)
  refine Lib.hid ?_
  have hbx := (hx.block _ (heap_lt HB1.out)).trans HB1.out
  have hX := put6_frNew (b := w.heap.size + 1 + 1) (.int .i64 0) (.int .i64 0) (.int .u64 0) (.int .u64 0) (.nilFunc) (.pointer none) (HF1.out.ext hx) (by omega)
  have hMM := put6_mem (b := w.heap.size + 1 + 1) (.int .i64 0) (.int .i64 0) (.int .u64 0) (.int .u64 0) (.nilFunc) (.pointer none) (HM1.out.ext hx) (by omega)
  have hB := put6_block (.int .i64 0) (.int .i64 0) (.int .u64 0) (.int .u64 0) (.nilFunc) (.pointer none) hbx
  obtain ⟨c0, c1, c2, c3, c4, c5, cz, ll⟩ := six_of hbx
  rw [put6] at hB hX hMM
  have HB2 := Lib.hid hB
  have HX3 := Lib.hid hX
  have HMM := Lib.hid hMM
  clear hB hX hMM hx hbx
  go_wp2
  clear c0 c1 c2 c3 c4 c5 cz ll
  replace HB2 := HB2.out
  replace HX3 := HX3.out
  replace HMM := HMM.out
  generalize (World.setCell _ (⟨w.heap.size + 1 + 1, 5, none⟩ : Addr) _) = Z at HB2 HX3 HMM ⊢
  obtain ⟨c0, c1, c2, c3, c4, c5, cz, ll⟩ := six_of HB2
  exact bodyPost_ret (by simp only [results, Tryz.results80, go_sem]; simp [go_sem, c0, c1, c2, c3, c4, c5]) rfl ⟨rfl, HMM, HX3⟩
set_option maxRecDepth 8000 in
set_option maxHeartbeats 2000000 in
theorem stepON  (a1 a2 a3 a4 : Int) (mv : Value) (r : Int) (e : BitVec 64) (w : World) :
    Calls Tryz.prog 80 #[.agg #[.int .i64 a1, .int .i64 a2, .int .u64 a3, .int .u64 a4, .nilFunc, .pointer none], mv, .agg #[.int .i64 r, .int .u64 (U e)]] w (Ret (.tuple #[.agg #[.int .i64 a1, .int .i64 a2, .int .u64 a3, .int .u64 a4, .nilFunc, .pointer none], .bool false]) w) := by
  have n0 : ∀ w, (binOp .eql 85 .nilFunc .nilFunc).run Tryz.prog w = .ok (.bool true) w := fun w => eql_nil w fnN
  go_enter Tryz.func80, Tryz.ntmps80
  go_wp2
  exact bodyPost_ret (by simp only [results, Tryz.results80, go_sem]; simp [go_sem]) rfl (Ret.mk (ext_alloc _ (ext_alloc _ (ext_alloc _ (ext_refl w)))))

set_option maxRecDepth 8000 in
set_option maxHeartbeats 2000000 in
theorem run1N (D : Nat → Prop) {lo hi : Nat} {L : Lay} {M : MS}  (a : Acc) (fn : Value)  (r : Int) (e : BitVec 64) (w : World) (x : BitVec 64) (hx0 : Hid (M.wd r.toNat a.at_.toNat = x)) (hF : FnX D fn (fun _ => .agg #[.int .i64 0, .int .i64 0, .int .u64 0, .int .u64 0, .nilFunc, .pointer none]) w) (hM : MemIn lo hi L M w) (hd : DoOk M r e a.op a.at_) (hD : ∀ k, lo ≤ k → k < hi → D k) :
    Calls Tryz.prog 29 #[.agg #[.int .i64 a.op, .int .i64 a.at_, .int .u64 (U a.a), .int .u64 (U a.b), fn, .pointer none], .pointer (some ⟨L.bm, 0, none⟩), .agg #[.int .i64 r, .int .u64 (U e)], .int .i64 9] w (RetM lo hi L (M.done r a.op a.at_ a.a a.b) (.tuple #[.agg #[], .int .i64 1, .bool true]) w) := by
  have HF := Lib.hid hF
  have HM := Lib.hid hM
  have HDO := Lib.hid hd
  have hhi := hM.top
  obtain ⟨g, caps, rfl, _⟩ := id hF
  clear hF hM hd
  go_enter Tryz.func29, Tryz.ntmps29
  go_wp2
  have hEW : Ext w (((w.alloc (.cells #[.int .i64 a.op, .int .i64 a.at_, .int .u64 (U a.a), .int .u64 (U a.b), .func (.func g) #[] caps, .pointer none] 87)).alloc (.cells #[.int .i64 r, .int .u64 (U e)] 49)).alloc (.cells #[] 82)) := by repeat (first | exact ext_refl _ | apply ext_alloc)
  have hb1 : (((w.alloc (.cells #[.int .i64 a.op, .int .i64 a.at_, .int .u64 (U a.a), .int .u64 (U a.b), .func (.func g) #[] caps, .pointer none] 87)).alloc (.cells #[.int .i64 r, .int .u64 (U e)] 49)).alloc (.cells #[] 82)).heap[w.heap.size]? = some (.cells #[.int .i64 a.op, .int .i64 a.at_, .int .u64 (U a.a), .int .u64 (U a.b), .func (.func g) #[] caps, .pointer none] 87) := ((Below.heap_alloc _ _ _ (by simp; omega)).trans (Below.heap_alloc _ _ _ (by simp))).trans (heap_at w _ _ rfl)
  have hb2 : (((w.alloc (.cells #[.int .i64 a.op, .int .i64 a.at_, .int .u64 (U a.a), .int .u64 (U a.b), .func (.func g) #[] caps, .pointer none] 87)).alloc (.cells #[.int .i64 r, .int .u64 (U e)] 49)).alloc (.cells #[] 82)).heap[w.heap.size + 1]? = some (.cells #[.int .i64 r, .int .u64 (U e)] 49) := (Below.heap_alloc _ _ _ (by simp)).trans (heap_at _ _ _ (by simp))
  generalize (((w.alloc (.cells #[.int .i64 a.op, .int .i64 a.at_, .int .u64 (U a.a), .int .u64 (U a.b), .func (.func g) #[] caps, .pointer none] 87)).alloc (.cells #[.int .i64 r, .int .u64 (U e)] 49)).alloc (.cells #[] 82)) = W at hEW hb1 hb2 ⊢
  have p0 := cell_at (o := 0) hb2 rfl
  have p1 := cell_at (o := 1) hb2 rfl
  have lp := heap_lt hb2
  obtain ⟨c0, c1, c2, c3, c4, c5, cz, ll⟩ := six_of hb1
  have HEW := Lib.hid hEW
  have HB1 := Lib.hid hb1
  have HB2 := Lib.hid hb2
  have HFW : Hid (FnX D (.func (.func g) #[] caps) (fun _ => .agg #[.int .i64 0, .int .i64 0, .int .u64 0, .int .u64 0, .nilFunc, .pointer none]) W) := by
    obtain ⟨g', caps', e1, e2, e3⟩ := HF.out
    exact Lib.hid ⟨g', caps', e1, e2, fun x u hu => e3 x u ((FD.of_ext hEW).trans hu)⟩
  clear hEW hb1 hb2 HF
  refine wp_loop_rounds 3 ?_
  rw [rounds_succ]
  go_wp2_with (go_at_call 80; refine (stepYN D  a _  r e W x hx0 HFW.out (HM.out.ext HEW.out) HDO.out hD).mono ?_; rintro e1 w1 ⟨rfl, hm, hf⟩; refine Hid.out ?_)
  refine Lib.hid ?_
  have hs1 := hf.size
  have hB1 := (hf.block _ ll (.inr hhi)).trans HB1.out
  have hC1 := (hf.block _ lp (.inr (by omega))).trans HB2.out
  clear c0 c1 c2 c3 c4 c5 cz ll p0 p1
  obtain ⟨c0, c1, c2, c3, c4, c5, cz, ll⟩ := six_of hB1
  have hZF := put6_frNew (b := w.heap.size) (.int .i64 0) (.int .i64 0) (.int .u64 0) (.int .u64 0) (.nilFunc) (.pointer none) ((Fr.of_ext HEW.out).trans hf) (Nat.le_refl _)
  have hZM := put6_mem (b := w.heap.size) (.int .i64 0) (.int .i64 0) (.int .u64 0) (.int .u64 0) (.nilFunc) (.pointer none) hm hhi
  have hZB := put6_block (.int .i64 0) (.int .i64 0) (.int .u64 0) (.int .u64 0) (.nilFunc) (.pointer none) hB1
  have hZC := (put6_other (b := w.heap.size) (k := w.heap.size + 1) (w := w1) (.int .i64 0) (.int .i64 0) (.int .u64 0) (.int .u64 0) (.nilFunc) (.pointer none) (by omega)).trans hC1
  have hZS : (put6 w.heap.size (.int .i64 0) (.int .i64 0) (.int .u64 0) (.int .u64 0) (.nilFunc) (.pointer none) w1).heap.size = w1.heap.size := put6_size (.int .i64 0) (.int .i64 0) (.int .u64 0) (.int .u64 0) (.nilFunc) (.pointer none)
  rw [put6] at hZF hZM hZB hZC hZS
  have HZ := Lib.hid (And.intro hZF (And.intro hZM (And.intro hZB (And.intro hZC hZS))))
  clear hZF hZM hZB hZC hZS hm hf hB1 hC1 HFW HM HDO HEW HB1 HB2
  go_wp2
  obtain ⟨hZF, hZM, hZB, hZC, hZS⟩ := HZ.out
  clear HZ c0 c1 c2 c3 c4 c5 cz ll
  generalize (World.setCell _ (⟨w.heap.size, 5, none⟩ : Addr) _) = Z at hZF hZM hZB hZC hZS ⊢
  have hQ := ext_alloc (.cells #[.int .i64 0, .int .i64 0, .int .u64 0, .int .u64 0, .nilFunc, .pointer none] 87) (ext_refl Z)
  have HF2 := Lib.hid (hZF.ext hQ)
  have HM2 := Lib.hid (hZM.ext hQ)
  have hB2 := (hQ.block _ (heap_lt hZB)).trans hZB
  have hC2 := (hQ.block _ (heap_lt hZC)).trans hZC
  clear hZF hZM hZB hZC hZS hQ
  generalize Z.alloc (.cells #[.int .i64 0, .int .i64 0, .int .u64 0, .int .u64 0, .nilFunc, .pointer none] 87) = Y at HF2 HM2 hB2 hC2 ⊢
  obtain ⟨c0, c1, c2, c3, c4, c5, cz, ll⟩ := six_of hB2
  have p0 := cell_at (o := 0) hC2 rfl
  have p1 := cell_at (o := 1) hC2 rfl
  have lp2 := heap_lt hC2
  clear hB2 hC2
  rw [rounds_succ]
  go_wp2_with (first
    | (go_at_call 80; refine (stepON  0 0 0 0 _ r e Y).mono ?_; rintro e1 w3 ⟨rfl, hx⟩; have HX3 := Lib.hid hx; have c0 := ext_cell hx c0; have c1 := ext_cell hx c1; have c2 := ext_cell hx c2; have c3 := ext_cell hx c3; have c4 := ext_cell hx c4; have c5 := ext_cell hx c5; have ll3 := Nat.lt_of_lt_of_le ll hx.size; clear hx)
    | (go_at_call 81; refine (overYN  0 0 0 0 _).mono ?_; rintro e1 w4 ⟨rfl, hx⟩; have HX4 := Lib.hid (ext_trans (ext_alloc _ HX3.out) hx); clear hx))
  exact bodyPost_ret (v := .tuple #[.agg #[], .int .i64 1, .bool true]) (by simp [results, Tryz.results29, go_sem]) rfl ⟨rfl, by first | exact HM2.out.ext HX4.out | exact HM2.out.ext (ext_alloc _ HX4.out), by first | exact HF2.out.ext HX4.out | exact HF2.out.ext (ext_alloc _ HX4.out)⟩


end Go.Proofs.YtpidmbclgfnekaaGreat

/-
  Programs as trees: what a program may ask, and how it goes on by what it is told; what stands in memory for one. Conditions: those of each theorem.
-/
namespace Go.Proofs.YtpidmbclgfnekaaGreat
open Go Go.RowKit

/-- A program: it is over; it asks, and goes on by the word that it is told; it goes on, nobody says how. -/
inductive Tr (α : Type) : Type
  | done (r : α) : Tr α
  | ask (a : Acc) (k : BitVec 64 → Tr α) : Tr α
  | more : Tr α
def Tr.bind {α β : Type} : Tr α → (α → Tr β) → Tr β
  | .done r, f => f r
  | .ask a k, f => .ask a fun x => (k x).bind f
  | .more, _ => .more
/-- What programs of a type look like: the value of one that comes to r; of an answer that isn't there; an answer's value. -/
structure Kd (α : Type) where
  S : Value → Acc → Value → Value
  z : Value
  enc : α → Value
def vS (r : Value) (a : Acc) (fn : Value) : Value := .agg #[r, .int .i64 a.op, .int .i64 a.at_, .int .u64 (U a.a), .int .u64 (U a.b), fn, .pointer none]
def vS0 (_ : Value) (a : Acc) (fn : Value) : Value := .agg #[.int .i64 a.op, .int .i64 a.at_, .int .u64 (U a.a), .int .u64 (U a.b), fn, .pointer none]
def kU : Kd (BitVec 64) := ⟨vS, .int .u64 0, fun x => .int .u64 (U x)⟩
def kB : Kd Bool := ⟨vS, .bool false, fun x => .bool x⟩
def kI : Kd Int := ⟨vS, .int .i64 0, fun x => .int .i64 x⟩
def kN : Kd Unit := ⟨vS0, .agg #[], fun _ => .agg #[]⟩

/-- The blocks of F are as before. -/
def Agr (F : Nat → Prop) (w w' : World) : Prop := ∀ j, F j → w'.heap[j]? = w.heap[j]?
theorem Agr.refl (F : Nat → Prop) (w : World) : Agr F w w := fun _ _ => rfl
theorem Agr.trans {F : Nat → Prop} {a b c : World} (h : Agr F a b) (k : Agr F b c) : Agr F a c := fun j hj => (k j hj).trans (h j hj)
theorem Agr.sub {F G : Nat → Prop} {a b : World} (h : Agr F a b) (hs : ∀ j, G j → F j) : Agr G a b := fun j hj => h j (hs j hj)
/-- All blocks of F are there. -/
def Bnd (F : Nat → Prop) (w : World) : Prop := ∀ j, F j → j < w.heap.size
theorem Bnd.ext {F : Nat → Prop} {w w' : World} (h : Bnd F w) (hs : w.heap.size ≤ w'.heap.size) : Bnd F w' := fun j hj => Nat.lt_of_lt_of_le (h j hj) hs
theorem Agr.of_ext {F : Nat → Prop} {w w' : World} (h : Ext w w') (hF : Bnd F w) : Agr F w w' := fun j hj => h.block j (hF j hj)
theorem Agr.of_fr {F : Nat → Prop} {lo hi : Nat} {w w' : World} (h : Fr lo hi w w') (hF : Bnd F w) (hn : ∀ j, F j → j < lo ∨ hi ≤ j) : Agr F w w' := fun j hj => h.block j (hF j hj) (hn j hj)
theorem Agr.of_put7 {F : Nat → Prop} {w : World} {b : Nat} (x0 x1 x2 x3 x4 x5 x6 : Value) (hn : ¬ F b) : Agr F w (put7 b x0 x1 x2 x3 x4 x5 x6 w) := fun _ hj => put7_other _ _ _ _ _ _ _ fun e => hn (e ▸ hj)
theorem Agr.of_put6 {F : Nat → Prop} {w : World} {b : Nat} (x0 x1 x2 x3 x4 x5 : Value) (hn : ¬ F b) : Agr F w (put6 b x0 x1 x2 x3 x4 x5 w) := fun _ hj => put6_other _ _ _ _ _ _ fun e => hn (e ▸ hj)

/-- By no block at all. -/
def noF : Nat → Prop := fun _ => False
theorem bnd_no (w : World) : Bnd noF w := fun _ h => h.elim
/-- What a call comes to that makes such a program out of the blocks F0 and of new ones. -/
def RetP (Q : (Nat → Prop) → Value → World → Prop) (F0 : Nat → Prop) (w : World) (e : Ending) (w' : World) : Prop :=
  ∃ v F, e = .returned v ∧ Ext w w' ∧ Q F v w' ∧ Bnd F w' ∧ ∀ j, F j → F0 j ∨ w.heap.size ≤ j
def Enters (g : FuncId) : Prop := ∀ args w, (callFunc g args).run Tryz.prog w = .ok (.enter g args) w
/-- v stands in w for the program t, by the blocks of F alone. -/
def PT {α : Type} (k : Kd α) : Tr α → (Nat → Prop) → Value → World → Prop
  | .done r => fun _ v _ => v = k.S (k.enc r) accZ .nilFunc
  | .ask a f => fun F v w => ∃ g caps, v = k.S k.z a (.func (.func g) #[] caps) ∧ Enters g ∧ ∀ (x : BitVec 64) (w' : World), Agr F w w' → Calls Tryz.prog g (#[.int .u64 (U x)] ++ caps) w' (RetP (PT k (f x)) F w')
  | .more => fun _ v _ => ∃ a g caps, v = k.S k.z a (.func (.func g) #[] caps) ∧ Enters g
theorem PT.agr {α : Type} {k : Kd α} {t : Tr α} {F : Nat → Prop} {v : Value} {w w' : World} (h : PT k t F v w) (ha : Agr F w w') : PT k t F v w' := by
  cases t with
  | done r => exact h
  | ask a f => obtain ⟨g, caps, e, he, hc⟩ := h; exact ⟨g, caps, e, he, fun x u hu => hc x u (ha.trans hu)⟩
  | more => exact h
/-- Whatever isn't over may be said to go on. -/
theorem PT.more {α : Type} {k : Kd α} {a : Acc} {f : BitVec 64 → Tr α} {F : Nat → Prop} {v : Value} {w : World} (h : PT k (.ask a f) F v w) : PT k .more F v w := by
  obtain ⟨g, caps, e, he, _⟩ := h
  exact ⟨a, g, caps, e, he⟩
theorem RetP.mono {Q : (Nat → Prop) → Value → World → Prop} {F G : Nat → Prop} {w : World} {e : Ending} {w' : World} (h : RetP Q F w e w') (hs : ∀ j, F j → G j) : RetP Q G w e w' := by
  obtain ⟨v, F', e1, h1, h2, h3, h4⟩ := h
  exact ⟨v, F', e1, h1, h2, h3, fun j hj => (h4 j hj).imp_left (hs j)⟩
/-- The same, seen from an earlier world. -/
theorem RetP.back {Q : (Nat → Prop) → Value → World → Prop} {F G : Nat → Prop} {u w : World} {e : Ending} {w' : World} (h : RetP Q F w e w') (hu : Ext u w) (hs : ∀ j, F j → G j ∨ u.heap.size ≤ j) : RetP Q G u e w' := by
  obtain ⟨v, F', e1, h1, h2, h3, h4⟩ := h
  refine ⟨v, F', e1, ext_trans hu h1, h2, h3, fun j hj => ?_⟩
  rcases h4 j hj with h | h
  · exact hs j h
  · exact .inr (Nat.le_trans hu.size h)
/-- The last call of a function: what it comes to, seen from the function's begin; RB is the block of the function's own result. -/
theorem RetP.tail {Q : (Nat → Prop) → Value → World → Prop} {F G : Nat → Prop} {u w : World} {e : Ending} {w' : World} (h : RetP Q F w e w') (RB : Nat) (hu : Ext u w) (hb : RB < w.heap.size) (hn : ¬ F RB) (hs : ∀ j, F j → G j ∨ u.heap.size ≤ j) :
    ∃ v F', e = .returned v ∧ Ext u w' ∧ Q F' v w' ∧ Bnd F' w' ∧ (∀ j, F' j → G j ∨ u.heap.size ≤ j) ∧ ¬ F' RB ∧ w'.heap[RB]? = w.heap[RB]? := by
  obtain ⟨v, F', e1, h1, h2, h3, h4⟩ := h
  refine ⟨v, F', e1, ext_trans hu h1, h2, h3, fun j hj => ?_, fun hj => ?_, h1.block RB hb⟩
  · rcases h4 j hj with h | h
    · exact hs j h
    · exact .inr (Nat.le_trans hu.size h)
  · rcases h4 RB hj with h | h
    · exact hn h
    · omega
/-- A function value that makes of an answer the program f of it. -/
def CT {α β : Type} (ka : Kd α) (kb : Kd β) (f : α → Tr β) (F : Nat → Prop) (fn : Value) (w : World) : Prop :=
  ∃ g caps, fn = .func (.func g) #[] caps ∧ Enters g ∧ ∀ (r : α) (w' : World), Agr F w w' → Calls Tryz.prog g (#[ka.enc r] ++ caps) w' (RetP (PT kb (f r)) F w')
theorem CT.agr {α β : Type} {ka : Kd α} {kb : Kd β} {f : α → Tr β} {F : Nat → Prop} {fn : Value} {w w' : World} (h : CT ka kb f F fn w) (ha : Agr F w w') : CT ka kb f F fn w' := by
  obtain ⟨g, caps, e, he, hc⟩ := h
  exact ⟨g, caps, e, he, fun r u hu => hc r u (ha.trans hu)⟩
/-- What a program's value looks like. -/
theorem PT.shape {α : Type} {k : Kd α} {t : Tr α} {F : Nat → Prop} {v : Value} {w : World} (h : PT k t F v w) : ∃ r a fn, v = k.S r a fn ∧ ((fn = .nilFunc ∧ ∃ r', r = k.enc r') ∨ (r = k.z ∧ ∃ g caps, fn = .func (.func g) #[] caps)) := by
  cases t with
  | done r => exact ⟨_, _, _, h, .inl ⟨rfl, r, rfl⟩⟩
  | ask a f => obtain ⟨g, caps, e, _⟩ := h; exact ⟨_, _, _, e, .inr ⟨rfl, g, caps, rfl⟩⟩
  | more => obtain ⟨a, g, caps, e, _⟩ := h; exact ⟨_, _, _, e, .inr ⟨rfl, g, caps, rfl⟩⟩

/-- So many steps of a program: the memory, how many were done, what is left; nothing is said where nobody says how it goes on. -/
def runT {α : Type} (r : Int) (e : BitVec 64) : Nat → Tr α → MS → Option (MS × Nat × Tr α)
  | 0, t, M => some (M, 0, t)
  | _ + 1, .done x, M => some (M, 0, .done x)
  | _ + 1, .more, _ => none
  | n + 1, .ask a f, M => if DoOk M r e a.op a.at_ then (runT r e n (f (M.wd r.toNat a.at_.toNat)) (M.done r a.op a.at_ a.a a.b)).map (fun x => (x.1, x.2.1 + 1, x.2.2)) else some (M, 0, .ask a f)
theorem accZ_op : accZ.op = 0 := rfl
end Go.Proofs.YtpidmbclgfnekaaGreat
