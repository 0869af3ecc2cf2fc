/-
  Arguments that are slices of structs of integers, however deep, read cell by cell. No conditions.
-/
import Derived.Test.YtpidmbclgfnekaaGac
import Derived.Laws.EntriesVeiled
import Derived.Laws.AppendOwn
namespace Go.Proofs.Ytpidmbclgfnekaa
open Go Go.ChangeShapes Go.WideShapes Go.RowKit

/-- The kind of the j-th cell of a type that is made of integers. -/
def kindAt (P : Program) : Nat → TypeId → Nat → Option IntKind
  | 0, _, _ => none
  | f + 1, t, j => match P.underlying t with
    | some (.int k) => if j = 0 then some k else none
    | some (.struct fs) => match fs.toList.find? fun x => decide (x.offset ≤ j) && decide (j < x.offset + P.cellsOf x.type) with
      | some x => kindAt P f x.type (j - x.offset)
      | none => none
    | _ => none

section
variable {H : Type} {enc : TypeId × Value → H} {P : Program} {w : World} {base : Nat} {spare : Nat → Bool} {held : Bool}
theorem cell_kind : ∀ (f : Nat) {t : TypeId} {j : Nat} {k : IntKind} {fuel : Nat} {cs : List Value} {x : DataW H × List MemPlace}, kindAt P f t j = some k → DataW.trod enc P w base spare held fuel t cs = some x →
    ∃ n, cs[j]? = some (.int k n) ∧ (Lit.int k n).wf = true
  | 0, t, j, k, fuel, cs, x, hk, h => by cases hk
  | f + 1, t, j, k, fuel, cs, x, hk, h => by
    unfold kindAt at hk
    split at hk
    · rename_i k' hu
      split at hk
      · rename_i hj
        obtain rfl : k' = k := by simpa using hk
        subst hj
        obtain ⟨n, rfl, _, hw⟩ := DataW.trod_int hu h
        exact ⟨n, rfl, hw⟩
      · cases hk
    · rename_i fs hu
      split at hk
      · rename_i y hy
        have hp := List.find?_some hy
        simp only [Bool.and_eq_true, decide_eq_true_eq] at hp
        obtain ⟨i, hi, hie⟩ := List.getElem_of_mem (List.mem_of_find?_eq_some hy)
        obtain ⟨xs, n', _, _, _, hxl, hfs⟩ := DataW.trod_struct hu h
        have hi' : i < fs.size := by simpa using hi
        have hf := hfs i y (by rw [← Array.getElem?_toList, List.getElem?_eq_getElem hi, hie])
        rw [List.getElem?_eq_getElem (by omega)] at hf
        obtain ⟨n, hn, hw⟩ := cell_kind f hk hf
        refine ⟨n, ?_, hw⟩
        rw [List.getElem?_take] at hn
        split at hn
        · rw [List.getElem?_drop, show y.offset + (j - y.offset) = j by omega] at hn
          exact hn
        · cases hn
      · cases hk
    · cases hk
end

/-- The value v is a slice of n records of c integers, of these kinds; x i j: the j-th of the i-th. -/
def Rs (c : Nat) (kd : Nat → IntKind) (w : World) (v : Value) (n : Nat) (x : Nat → Nat → Int) : Prop :=
  ∃ a0 cap, v = .slice a0 n cap ∧ n ≤ cap ∧ (0 < n → ∃ b off, a0 = some ⟨b, off, none⟩ ∧ b < w.heap.size ∧
    ∀ i, i < n → ∀ j, j < c → w.cell? ⟨b, off + i * c + j, none⟩ = some (.int (kd j) (x i j)) ∧ (Lit.int (kd j) (x i j)).wf = true)
theorem Rs.ext {c : Nat} {kd : Nat → IntKind} {w w' : World} {v : Value} {n : Nat} {x : Nat → Nat → Int} (h : Rs c kd w v n x) (hb : Below w.heap.size w w') : Rs c kd w' v n x := by
  obtain ⟨a0, cap, e, hc, hr⟩ := h
  refine ⟨a0, cap, e, hc, fun hl => ?_⟩
  obtain ⟨b, off, ea, hlt, hcell⟩ := hr hl
  refine ⟨b, off, ea, Nat.lt_of_lt_of_le hlt hb.size, fun i hi j hj => ?_⟩
  rw [hb.cell (p := ⟨b, off + i * c + j, none⟩) hlt]
  exact hcell i hi j hj
theorem Rs.at {c : Nat} {kd : Nat → IntKind} {w : World} {a0 : Option Addr} {m cap n : Nat} {x : Nat → Nat → Int} (h : Rs c kd w (.slice a0 m cap) n x) (hl : 0 < n) : ∃ b off, a0 = some ⟨b, off, none⟩ ∧ b < w.heap.size ∧
    ∀ i, i < n → ∀ j, j < c → w.cell? ⟨b, off + i * c + j, none⟩ = some (.int (kd j) (x i j)) ∧ (Lit.int (kd j) (x i j)).wf = true := by
  obtain ⟨a, c', e, _, hr⟩ := h
  simp at e
  obtain ⟨rfl, rfl, rfl⟩ := e
  exact hr hl

section
variable {H : Type} {enc : TypeId × Value → H} {P : Program} {w : World} {base : Nat} {held : Bool}
theorem rs_of_trod {r : Reach} {b0 : Nat} {t e : TypeId} {v : Value} {d : DataW H} {p : List MemPlace} (c : Nat) (kd : Nat → IntKind) (ht : P.underlying t = some (.slice e)) (hc : P.cellsOf e = c) (hpos : 0 < c)
    (hk : ((List.range c).all fun j => decide (kindAt P 6 e j = some (kd j))) = true)
    (hv : Value.okWide P w r b0 t v) (h : DataW.Trod enc P w base (fun _ => true) held t v d p) : ∃ n x, Rs c kd w v n x := by
  obtain ⟨a0, len, cap, rfl⟩ := okWide_slice ht hv
  obtain ⟨fuel, hf⟩ := h
  have hk' : ∀ j, j < c → kindAt P 6 e j = some (kd j) := fun j hj => of_decide_eq_true (List.all_eq_true.1 hk j (List.mem_range.2 hj))
  rcases Deep.open_slice ht hf with ⟨hcs, _⟩ | ⟨a, len', cap', m, n, D, Pl, hcs, _, hl, _, hmm, _, hi⟩
  · simp [Value.cells] at hcs
    obtain ⟨rfl, rfl, rfl⟩ := hcs
    exact ⟨0, fun _ _ => 0, none, 0, rfl, Nat.le_refl _, fun h => absurd h (Nat.not_lt_zero _)⟩
  · simp [Value.cells] at hcs
    obtain ⟨rfl, rfl, rfl⟩ := hcs
    simp at hmm
    have each : ∀ i j, ∃ y : Int, i < len → j < c → w.cell? ((a.add (i * c)).add j) = some (.int (kd j) y) ∧ (Lit.int (kd j) y).wf = true := fun i j => by
      by_cases hlt : i < len ∧ j < c
      · obtain ⟨cs', hcc, htr⟩ := hi i (by omega)
        rw [hc] at hcc
        obtain ⟨_, hcl, hat⟩ := World.cells?_some hcc
        obtain ⟨y, hy, hw⟩ := cell_kind 6 (hk' j hlt.2) htr
        refine ⟨y, fun _ _ => ⟨?_, hw⟩⟩
        have h1 := hat j (by omega)
        rw [h1, hy]
      · exact ⟨0, fun h1 h2 => absurd ⟨h1, h2⟩ hlt⟩
    obtain ⟨x, hg⟩ := Classical.axiomOfChoice fun i => Classical.axiomOfChoice (each i)
    by_cases hp : 0 < len
    · have h0 := (hg 0 0 hp hpos).1
      have ha : (a.add (0 * c)).add 0 = a := by unfold Addr.add; simp
      rw [ha] at h0
      have hsp := spot_none' h0
      refine ⟨len, x, some a, cap, rfl, hl, fun _ => ⟨a.block, a.off, by rw [← hsp], World.block_lt_of_cell? w a h0, fun i hi' j hj => ?_⟩⟩
      have h1 := hg i j hi' hj
      rw [hsp, add_at', add_at'] at h1
      exact h1
    · obtain rfl : len = 0 := by omega
      exact ⟨0, fun _ _ => 0, some a, cap, rfl, hl, fun h => absurd h (Nat.not_lt_zero _)⟩
/-- A struct of integers, by value. -/
theorem agg_of_trod {r : Reach} {b0 : Nat} {t : TypeId} {fs : Array Field} {v : Value} {d : DataW H} {p : List MemPlace} (c : Nat) (kd : Nat → IntKind) (ht : P.underlying t = some (.struct fs)) (hc : P.cellsOf t = c)
    (hk : ((List.range c).all fun j => decide (kindAt P 6 t j = some (kd j))) = true)
    (hv : Value.okWide P w r b0 t v) (h : DataW.Trod enc P w base (fun _ => true) held t v d p) : ∃ x : Nat → Int, v = .agg ((List.range c).map fun j => Value.int (kd j) (x j)).toArray ∧ ∀ j, j < c → (Lit.int (kd j) (x j)).wf = true := by
  obtain ⟨cs, rfl, hsz⟩ := okWide_struct ht hv
  obtain ⟨fuel, hf⟩ := h
  rw [hc] at hsz
  have hk' : ∀ j, j < c → kindAt P 6 t j = some (kd j) := fun j hj => of_decide_eq_true (List.all_eq_true.1 hk j (List.mem_range.2 hj))
  have each : ∀ j, ∃ y : Int, j < c → cs[j]? = some (.int (kd j) y) ∧ (Lit.int (kd j) y).wf = true := fun j => by
    by_cases hj : j < c
    · obtain ⟨y, hy, hw⟩ := cell_kind 6 (hk' j hj) hf
      exact ⟨y, fun _ => ⟨by simpa [Value.cells] using hy, hw⟩⟩
    · exact ⟨0, fun h => absurd h hj⟩
  obtain ⟨x, hx⟩ := Classical.axiomOfChoice each
  refine ⟨x, ?_, fun j hj => (hx j hj).2⟩
  congr 1
  apply Array.ext
  · simp [hsz]
  · intro i h1 h2
    have h3 := (hx i (by omega)).1
    rw [Array.getElem?_eq_getElem h1] at h3
    simpa using h3
end
end Go.Proofs.Ytpidmbclgfnekaa

/-
  A slice of accesses as an argument. No conditions.
-/
namespace Go.Proofs.Ytpidmbclgfnekaa
open Go Go.ChangeShapes Go.WideShapes Go.RowKit

/-- An access. -/
structure Acc where
  op : Int
  at_ : Int
  a : BitVec 64
  b : BitVec 64
/-- The value v is a slice of n accesses, f i the i-th. -/
def As (w : World) (v : Value) (n : Nat) (f : Nat → Acc) : Prop :=
  ∃ a0 cap, v = .slice a0 n cap ∧ n ≤ cap ∧ (0 < n → ∃ b o, a0 = some ⟨b, o, none⟩ ∧ b < w.heap.size ∧ ∀ i, i < n →
    w.cell? ⟨b, o + i * 4, none⟩ = some (.int .i64 (f i).op) ∧ w.cell? ⟨b, o + i * 4 + 1, none⟩ = some (.int .i64 (f i).at_) ∧
    w.cell? ⟨b, o + i * 4 + 2, none⟩ = some (.int .u64 (U (f i).a)) ∧ w.cell? ⟨b, o + i * 4 + 3, none⟩ = some (.int .u64 (U (f i).b)))
theorem As.at {w : World} {a0 : Option Addr} {m cap n : Nat} {f : Nat → Acc} (h : As w (.slice a0 m cap) n f) (hl : 0 < n) : ∃ b o, a0 = some ⟨b, o, none⟩ ∧ b < w.heap.size ∧ ∀ i, i < n →
    w.cell? ⟨b, o + i * 4, none⟩ = some (.int .i64 (f i).op) ∧ w.cell? ⟨b, o + i * 4 + 1, none⟩ = some (.int .i64 (f i).at_) ∧
    w.cell? ⟨b, o + i * 4 + 2, none⟩ = some (.int .u64 (U (f i).a)) ∧ w.cell? ⟨b, o + i * 4 + 3, none⟩ = some (.int .u64 (U (f i).b)) := by
  obtain ⟨a, c', e, _, hr⟩ := h
  simp at e
  obtain ⟨rfl, rfl, rfl⟩ := e
  exact hr hl
def accKd (j : Nat) : IntKind := if j < 2 then .i64 else .u64
/-- A number of 64 bits, as a word. -/
def toW (x : Int) : BitVec 64 := BitVec.ofNat 64 x.toNat
theorem U_toW {x : Int} (h : (Lit.int .u64 x).wf = true) : U (toW x) = x := by
  have hb := bounds_u64 h
  unfold toW
  rw [U_toNat, BitVec.toNat_ofNat]
  omega
theorem as_of_rs {w : World} {v : Value} {n : Nat} {x : Nat → Nat → Int} (h : Rs 4 accKd w v n x) : As w v n (fun i => ⟨x i 0, x i 1, toW (x i 2), toW (x i 3)⟩) := by
  obtain ⟨a0, cap, e, hc, hr⟩ := h
  refine ⟨a0, cap, e, hc, fun hl => ?_⟩
  obtain ⟨b, o, ea, hlt, hcell⟩ := hr hl
  refine ⟨b, o, ea, hlt, fun i hi => ?_⟩
  have c0 := hcell i hi 0 (by omega)
  have c1 := hcell i hi 1 (by omega)
  have c2 := hcell i hi 2 (by omega)
  have c3 := hcell i hi 3 (by omega)
  exact ⟨c0.1, c1.1, by simp only [U_toW c2.2]; exact c2.1, by simp only [U_toW c3.2]; exact c3.1⟩
/-- An access, by value. -/
theorem acc_of_trod {H : Type} {enc : TypeId × Value → H} {P : Program} {w : World} {base : Nat} {held : Bool} {r : Reach} {b0 : Nat} {t : TypeId} {fs : Array Field} {v : Value} {d : DataW H} {p : List MemPlace}
    (ht : P.underlying t = some (.struct fs)) (hc : P.cellsOf t = 4) (hk : ((List.range 4).all fun j => decide (kindAt P 6 t j = some (accKd j))) = true)
    (hv : Value.okWide P w r b0 t v) (h : DataW.Trod enc P w base (fun _ => true) held t v d p) : ∃ (op at_ : Int) (a b : BitVec 64), v = .agg #[.int .i64 op, .int .i64 at_, .int .u64 (U a), .int .u64 (U b)] := by
  obtain ⟨x, rfl, hw⟩ := agg_of_trod 4 accKd ht hc hk hv h
  refine ⟨x 0, x 1, toW (x 2), toW (x 3), ?_⟩
  rw [U_toW (hw 2 (by omega)), U_toW (hw 3 (by omega))]
  rfl
end Go.Proofs.Ytpidmbclgfnekaa

/-
  What Do of package mem comes to, whatever the access. Conditions: those of each theorem.
-/
namespace Go.Proofs.Ytpidmbclgfnekaa
open Go Go.RowKit

/-- What Do may come to, whatever the access. -/
def DoSpec (M : MS) (r : Int) (e : BitVec 64) (c : Acc) (M' : MS) (v : BitVec 64) (ok : Bool) : Prop :=
  (DoOk M r e c.op c.at_ ∧ M' = M.done r c.op c.at_ c.a c.b ∧ v = M.wd r.toNat c.at_.toNat ∧ ok = true) ∨ (¬ DoOk M r e c.op c.at_ ∧ M' = M ∧ v = 0#64 ∧ ok = false)
def RetDo (lo hi : Nat) (L : Lay) (M : MS) (r : Int) (e : BitVec 64) (c : Acc) (w : World) (en : Ending) (w' : World) : Prop :=
  ∃ M' v ok, en = .returned (.tuple #[.int .u64 (U v), .bool ok]) ∧ DoSpec M r e c M' v ok ∧ MemIn lo hi L M' w' ∧ Fr lo hi w w'
theorem do_any {lo hi : Nat} {L : Lay} {M : MS} {w : World} (h : MemIn lo hi L M w) (r : Int) (e : BitVec 64) (c : Acc) :
    Calls Try.prog 48 #[.pointer (some ⟨L.bm, 0, none⟩), .agg #[.int .i64 r, .int .u64 (U e)], .agg #[.int .i64 c.op, .int .i64 c.at_, .int .u64 (U c.a), .int .u64 (U c.b)]] w (RetDo lo hi L M r e c w) := by
  by_cases hd : DoOk M r e c.op c.at_
  · exact (do_yes h r c.op c.at_ e c.a c.b hd).mono fun en w' ⟨h1, h2, h3⟩ => ⟨_, _, true, h1, .inl ⟨hd, rfl, rfl, rfl⟩, h2, h3⟩
  · refine (do_no h r c.op c.at_ e c.a c.b hd).mono fun en w' ⟨h1, h2⟩ => ⟨M, 0#64, false, ?_, .inr ⟨hd, rfl, rfl, rfl⟩, h.ext h2, .of_ext h2⟩
    rw [U_0]; exact h1

end Go.Proofs.Ytpidmbclgfnekaa

/-
  Function values against nil; whether a value is a list of words. Conditions: those of each theorem.
-/
namespace Go.Proofs.Ytpidmbclgfnekaa
open Go Go.RowKit

section
variable {P : Program} {t : TypeId} {a b : Array TypeId} {c : Bool} (w : World) (h : P.underlying t = some (.func a b c))
include h
theorem equalIn_nil (d : Nat) : (Op.equalIn (d + 1) t .nilFunc .nilFunc).run P w = .ok true w := by
  simp [Op.equalIn, run_underlying h]
theorem equalIn_fn (d : Nat) (f : Fn) (x y : Array Value) : (Op.equalIn (d + 1) t (.func f x y) .nilFunc).run P w = .ok false w := by
  simp [Op.equalIn, run_underlying h]
theorem eql_nil : (binOp .eql t .nilFunc .nilFunc).run P w = .ok (.bool true) w := by
  simp only [binOp]
  simp [show Op.equal t .nilFunc .nilFunc = Op.equalIn (9999 + 1) t .nilFunc .nilFunc from rfl, equalIn_nil w h 9999]
theorem neq_nil : (binOp .neq t .nilFunc .nilFunc).run P w = .ok (.bool false) w := by
  simp only [binOp]
  simp [show Op.equal t .nilFunc .nilFunc = Op.equalIn (9999 + 1) t .nilFunc .nilFunc from rfl, equalIn_nil w h 9999]
theorem eql_fn (f : Fn) (x y : Array Value) : (binOp .eql t (.func f x y) .nilFunc).run P w = .ok (.bool false) w := by
  simp only [binOp]
  simp [show Op.equal t (.func f x y) .nilFunc = Op.equalIn (9999 + 1) t (.func f x y) .nilFunc from rfl, equalIn_fn w h 9999]
theorem neq_fn (f : Fn) (x y : Array Value) : (binOp .neq t (.func f x y) .nilFunc).run P w = .ok (.bool true) w := by
  simp only [binOp]
  simp [show Op.equal t (.func f x y) .nilFunc = Op.equalIn (9999 + 1) t (.func f x y) .nilFunc from rfl, equalIn_fn w h 9999]
end

theorem assert_yes (v : Value) (w : World) : (Instr.typeAssert (.iface 128 v) 20 128 true).run Try.prog w = .ok (.tuple #[v, .bool true]) w := by
  have h : Try.prog.underlying 128 = some (.pointer 82) := by kernel_rfl
  simp [Instr.typeAssert, run_underlying h, go_sem, Result.andThen]
theorem assert_no (t : TypeId) (v : Value) (w : World) (ht : (t == 128) = false) : (Instr.typeAssert (.iface t v) 20 128 true).run Try.prog w = .ok (.tuple #[.pointer none, .bool false]) w := by
  have h : Try.prog.underlying 128 = some (.pointer 82) := by kernel_rfl
  have h' : t ≠ 128 := by simpa using ht
  simp [Instr.typeAssert, run_underlying h, go_sem, Result.andThen, h']

theorem fnInt : Try.prog.underlying 36 = some (.func #[33] #[39] false) := by kernel_rfl
theorem fnUs : Try.prog.underlying 156 = some (.func #[33] #[158] false) := by kernel_rfl

/-- Seven cells are laid anew. -/
def put7 (b : Nat) (x0 x1 x2 x3 x4 x5 x6 : Value) (w : World) : World :=
  (((((((w.setCell ⟨b, 0, none⟩ x0).setCell ⟨b, 1, none⟩ x1).setCell ⟨b, 2, none⟩ x2).setCell ⟨b, 3, none⟩ x3).setCell ⟨b, 4, none⟩ x4).setCell ⟨b, 5, none⟩ x5).setCell ⟨b, 6, none⟩ x6)
theorem put7_ext {u w : World} {b : Nat} (x0 x1 x2 x3 x4 x5 x6 : Value) (h : Ext u w) (hb : u.heap.size ≤ b) : Ext u (put7 b x0 x1 x2 x3 x4 x5 x6 w) :=
  ext_set _ hb (ext_set _ hb (ext_set _ hb (ext_set _ hb (ext_set _ hb (ext_set _ hb (ext_set _ hb h))))))
theorem put7_block {w : World} {b : Nat} {c0 c1 c2 c3 c4 c5 c6 : Value} {t : TypeId} {f : Nat × Nat} (x0 x1 x2 x3 x4 x5 x6 : Value) (h : w.heap[b]? = some (.cells #[c0, c1, c2, c3, c4, c5, c6] t f)) :
    (put7 b x0 x1 x2 x3 x4 x5 x6 w).heap[b]? = some (.cells #[x0, x1, x2, x3, x4, x5, x6] t f) := by
  have h0 := set_same (o := 0) x0 h
  have h1 := set_same (o := 1) x1 h0
  have h2 := set_same (o := 2) x2 h1
  have h3 := set_same (o := 3) x3 h2
  have h4 := set_same (o := 4) x4 h3
  have h5 := set_same (o := 5) x5 h4
  have h6 := set_same (o := 6) x6 h5
  unfold put7
  rw [h6]
  simp
theorem put7_other {w : World} {b k : Nat} (x0 x1 x2 x3 x4 x5 x6 : Value) (h : k ≠ b) : (put7 b x0 x1 x2 x3 x4 x5 x6 w).heap[k]? = w.heap[k]? := by
  unfold put7
  rw [set_other _ h, set_other _ h, set_other _ h, set_other _ h, set_other _ h, set_other _ h, set_other _ h]
theorem put7_size {w : World} {b : Nat} (x0 x1 x2 x3 x4 x5 x6 : Value) : (put7 b x0 x1 x2 x3 x4 x5 x6 w).heap.size = w.heap.size := by
  unfold put7
  rw [set_size, set_size, set_size, set_size, set_size, set_size, set_size]

theorem put7_fr {w : World} {b : Nat} (x0 x1 x2 x3 x4 x5 x6 : Value) : Fr 0 (b + 1) w (put7 b x0 x1 x2 x3 x4 x5 x6 w) := by
  have h := Nat.lt_succ_self b
  have z := Nat.zero_le b
  exact (((((((Fr.refl 0 (b + 1) w).set (p := ⟨b, 0, none⟩) x0 z h).set (p := ⟨b, 1, none⟩) x1 z h).set (p := ⟨b, 2, none⟩) x2 z h).set (p := ⟨b, 3, none⟩) x3 z h).set (p := ⟨b, 4, none⟩) x4 z h).set (p := ⟨b, 5, none⟩) x5 z h).set (p := ⟨b, 6, none⟩) x6 z h
theorem heap_at (w : World) (o : Obj) (b : Nat) (hb : b = w.heap.size) : (w.alloc o).heap[b]? = some o := by
  subst hb
  exact heap_alloc_new w o
/-- Seven cells, one by one. -/
structure Sev (b : Nat) (x0 x1 x2 x3 x4 x5 x6 : Value) (w : World) : Prop where
  c0 : w.cell? ⟨b, 0, none⟩ = some x0
  c1 : w.cell? ⟨b, 1, none⟩ = some x1
  c2 : w.cell? ⟨b, 2, none⟩ = some x2
  c3 : w.cell? ⟨b, 3, none⟩ = some x3
  c4 : w.cell? ⟨b, 4, none⟩ = some x4
  c5 : w.cell? ⟨b, 5, none⟩ = some x5
  c6 : w.cell? ⟨b, 6, none⟩ = some x6
  cz : ∀ o, w.frozen? ⟨b, o, none⟩ = false
  lt : b < w.heap.size
theorem sev_of {w : World} {b : Nat} {x0 x1 x2 x3 x4 x5 x6 : Value} {t : TypeId} (h : w.heap[b]? = some (.cells #[x0, x1, x2, x3, x4, x5, x6] t (0, 0))) : Sev b x0 x1 x2 x3 x4 x5 x6 w :=
  ⟨cell_at h rfl, cell_at h rfl, cell_at h rfl, cell_at h rfl, cell_at h rfl, cell_at h rfl, cell_at h rfl, fun _ => free_at h, (Array.getElem?_eq_some_iff.1 h).1⟩

end Go.Proofs.Ytpidmbclgfnekaa

/-
  What a program is, as a value in memory: the accesses that are left, and the words that were told. Conditions: those of each theorem.
-/
namespace Go.Proofs.Ytpidmbclgfnekaa
open Go Go.RowKit

/-- All but the blocks of D are as before. -/
structure FD (D : Nat → Prop) (w w' : World) : Prop where
  os : w'.os = w.os
  tape : w'.tape = w.tape
  output : w'.output = w.output
  size : w.heap.size ≤ w'.heap.size
  block : ∀ k, k < w.heap.size → ¬ D k → w'.heap[k]? = w.heap[k]?
theorem FD.cell {D : Nat → Prop} {w w' : World} (h : FD D w w') {b o : Nat} (hb : b < w.heap.size) (hn : ¬ D b) : w'.cell? ⟨b, o, none⟩ = w.cell? ⟨b, o, none⟩ := by
  simp [World.cell?, h.block b hb hn]
theorem FD.trans {D : Nat → Prop} {a b c : World} (h : FD D a b) (k : FD D b c) : FD D a c :=
  ⟨k.os.trans h.os, k.tape.trans h.tape, k.output.trans h.output, Nat.le_trans h.size k.size, fun i hi hn => (k.block i (Nat.lt_of_lt_of_le hi h.size) hn).trans (h.block i hi hn)⟩
theorem FD.of_ext {D : Nat → Prop} {w w' : World} (h : Ext w w') : FD D w w' := ⟨h.os, h.tape, h.output, h.size, fun k hk _ => h.block k hk⟩
theorem FD.of_fr {D : Nat → Prop} {lo hi : Nat} {w w' : World} (h : Fr lo hi w w') (hd : ∀ k, lo ≤ k → k < hi → D k) : FD D w w' :=
  ⟨h.os, h.tape, h.output, h.size, fun k hk hn => h.block k hk (by
    by_cases h1 : lo ≤ k
    · by_cases h2 : k < hi
      · exact absurd (hd k h1 h2) hn
      · exact .inr (Nat.le_of_not_lt h2)
    · exact .inl (Nat.lt_of_not_le h1))⟩
theorem FD.wide {D E : Nat → Prop} {w w' : World} (h : FD D w w') (hd : ∀ k, D k → E k) : FD E w w' := ⟨h.os, h.tape, h.output, h.size, fun k hk hn => h.block k hk fun x => hn (hd k x)⟩

/-- A slice of words whose block is none of D. -/
def UsB (D : Nat → Prop) (w : World) (v : Value) (l : List (BitVec 64)) : Prop :=
  ∃ a0 cap, v = .slice a0 l.length cap ∧ l.length ≤ cap ∧ (0 < l.length → ∃ b off, a0 = some ⟨b, off, none⟩ ∧ ¬ D b ∧ b < w.heap.size ∧
    ∀ i, i < l.length → w.cell? ⟨b, off + i, none⟩ = some (.int .u64 (U (uN l i))))
theorem UsB.us {D : Nat → Prop} {w : World} {v : Value} {l : List (BitVec 64)} (h : UsB D w v l) : Us w v l := by
  obtain ⟨a0, cap, e, hc, hr⟩ := h
  refine ⟨a0, cap, e, hc, fun hl => ?_⟩
  obtain ⟨b, off, ea, _, hlt, hcell⟩ := hr hl
  exact ⟨b, off, ea, hlt, hcell⟩
theorem UsB.fr {D : Nat → Prop} {w w' : World} {v : Value} {l : List (BitVec 64)} (h : UsB D w v l) (hf : FD D w w') : UsB D w' v l := by
  obtain ⟨a0, cap, e, hc, hr⟩ := h
  refine ⟨a0, cap, e, hc, fun hl => ?_⟩
  obtain ⟨b, off, ea, h0, hlt, hcell⟩ := hr hl
  refine ⟨b, off, ea, h0, Nat.lt_of_lt_of_le hlt hf.size, fun i hi => ?_⟩
  rw [hf.cell hlt h0]
  exact hcell i hi
theorem UsB.nil (D : Nat → Prop) (w : World) : UsB D w (.slice none 0 0) [] := ⟨none, 0, rfl, Nat.le_refl _, fun h => absurd h (Nat.not_lt_zero _)⟩

/-- A slice of accesses whose block is none of D. -/
def aN (l : List Acc) (i : Nat) : Acc := l.getD i ⟨0, 0, 0#64, 0#64⟩
def AsB (D : Nat → Prop) (w : World) (v : Value) (l : List Acc) : Prop :=
  ∃ a0 cap, v = .slice a0 l.length cap ∧ l.length ≤ cap ∧ (0 < l.length → ∃ b o, a0 = some ⟨b, o, none⟩ ∧ ¬ D b ∧ b < w.heap.size ∧ ∀ i, i < l.length →
    w.cell? ⟨b, o + i * 4, none⟩ = some (.int .i64 (aN l i).op) ∧ w.cell? ⟨b, o + i * 4 + 1, none⟩ = some (.int .i64 (aN l i).at_) ∧
    w.cell? ⟨b, o + i * 4 + 2, none⟩ = some (.int .u64 (U (aN l i).a)) ∧ w.cell? ⟨b, o + i * 4 + 3, none⟩ = some (.int .u64 (U (aN l i).b)))
theorem AsB.fr {D : Nat → Prop} {w w' : World} {v : Value} {l : List Acc} (h : AsB D w v l) (hf : FD D w w') : AsB D w' v l := by
  obtain ⟨a0, cap, e, hc, hr⟩ := h
  refine ⟨a0, cap, e, hc, fun hl => ?_⟩
  obtain ⟨b, o, ea, h0, hlt, hcell⟩ := hr hl
  refine ⟨b, o, ea, h0, Nat.lt_of_lt_of_le hlt hf.size, fun i hi => ?_⟩
  rw [hf.cell hlt h0, hf.cell hlt h0, hf.cell hlt h0, hf.cell hlt h0]
  exact hcell i hi
theorem AsB.ext {D : Nat → Prop} {w w' : World} {v : Value} {l : List Acc} (h : AsB D w v l) (hf : Ext w w') : AsB D w' v l := h.fr (.of_ext hf)
theorem asB_of {w : World} {v : Value} {n : Nat} {f : Nat → Acc} (h : As w v n f) : AsB (fun _ => False) w v ((List.range n).map f) := by
  obtain ⟨a0, cap, e, hc, hr⟩ := h
  refine ⟨a0, cap, by simpa using e, by simpa using hc, fun hl => ?_⟩
  obtain ⟨b, o, ea, hlt, hcell⟩ := hr (by simpa using hl)
  refine ⟨b, o, ea, fun h => h, hlt, fun i hi => ?_⟩
  have hi' : i < n := by simpa using hi
  have e1 : aN ((List.range n).map f) i = f i := by unfold aN; exact getD_range f n i _ hi'
  rw [e1]
  exact hcell i hi'
theorem AsB.at {D : Nat → Prop} {w : World} {a0 : Option Addr} {m cap : Nat} {l : List Acc} (h : AsB D w (.slice a0 m cap) l) (hl : 0 < l.length) : ∃ b o, a0 = some ⟨b, o, none⟩ ∧ ¬ D b ∧ b < w.heap.size ∧ ∀ i, i < l.length →
    w.cell? ⟨b, o + i * 4, none⟩ = some (.int .i64 (aN l i).op) ∧ w.cell? ⟨b, o + i * 4 + 1, none⟩ = some (.int .i64 (aN l i).at_) ∧
    w.cell? ⟨b, o + i * 4 + 2, none⟩ = some (.int .u64 (U (aN l i).a)) ∧ w.cell? ⟨b, o + i * 4 + 3, none⟩ = some (.int .u64 (U (aN l i).b)) := by
  obtain ⟨a, c', e, _, hr⟩ := h
  simp at e
  obtain ⟨rfl, rfl, rfl⟩ := e
  exact hr hl

/-- The words that were told, the last one first. -/
def Told (D : Nat → Prop) (w : World) : List (BitVec 64) → Value → Prop
  | [], v => v = .pointer none
  | x :: r, v => ∃ g p, v = .pointer (some ⟨g, 0, none⟩) ∧ ¬ D g ∧ g < w.heap.size ∧ w.cell? ⟨g, 0, none⟩ = some (.int .u64 (U x)) ∧ w.cell? ⟨g, 1, none⟩ = some p ∧ Told D w r p
theorem Told.fr {D : Nat → Prop} {w w' : World} (hf : FD D w w') : ∀ {r : List (BitVec 64)} {v : Value}, Told D w r v → Told D w' r v
  | [], _, h => h
  | _ :: _, _, ⟨g, p, e, h0, hlt, c0, c1, h⟩ => ⟨g, p, e, h0, Nat.lt_of_lt_of_le hlt hf.size, by rw [hf.cell hlt h0]; exact c0, by rw [hf.cell hlt h0]; exact c1, Told.fr hf h⟩
theorem Told.ext {D : Nat → Prop} {w w' : World} {r : List (BitVec 64)} {v : Value} (h : Told D w r v) (hb : Ext w w') : Told D w' r v := h.fr (.of_ext hb)

/-- A program's value. -/
def pV (r : Value) (a : Acc) (fn parts : Value) : Value := .agg #[r, .int .i64 a.op, .int .i64 a.at_, .int .u64 (U a.a), .int .u64 (U a.b), fn, parts]
def accZ : Acc := ⟨0, 0, 0#64, 0#64⟩
/-- A list's program: the accesses l are left, the words t were told. -/
def PL : (D : Nat → Prop) → List Acc → List (BitVec 64) → Value → World → Prop
  | D, [], t, v, w => ∃ rv, v = pV rv accZ .nilFunc (.pointer none) ∧ UsB D w rv t
  | D, a :: l, t, v, w => ∃ g caps, v = pV (.slice none 0 0) a (.func (.func g) #[] caps) (.pointer none) ∧ (∀ args w, (callFunc g args).run Try.prog w = .ok (.enter g args) w) ∧
      ∀ (E : Nat → Prop), (∀ k, k < w.heap.size → (E k ↔ D k)) → ∀ (x : BitVec 64) (w' : World), FD E w w' → (∀ k, E k → k < w'.heap.size) → Calls Try.prog g (#[.int .u64 (U x)] ++ caps) w' fun e w'' => ∃ v', e = .returned v' ∧ Ext w' w'' ∧ PL E l (t ++ [x]) v' w''
theorem PL.fr {D : Nat → Prop} {l : List Acc} {t : List (BitVec 64)} {v : Value} {w w' : World} (h : PL D l t v w) (hf : FD D w w') : PL D l t v w' := by
  cases l with
  | nil => obtain ⟨rv, e, hu⟩ := h; exact ⟨rv, e, hu.fr hf⟩
  | cons a l => obtain ⟨g, caps, e, he, hc⟩ := h; exact ⟨g, caps, e, he, fun E hE x u hu => hc E (fun k hk => hE k (Nat.lt_of_lt_of_le hk hf.size)) x u (FD.trans ⟨hf.os, hf.tape, hf.output, hf.size, fun k hk hn => hf.block k hk fun hd => hn ((hE k (Nat.lt_of_lt_of_le hk hf.size)).2 hd)⟩ hu)⟩
/-- Any program: as that, but whatever its parts. -/
def PH (D : Nat → Prop) : List Acc → List (BitVec 64) → Value → World → Prop
  | [], t, v, w => ∃ rv parts, v = pV rv accZ .nilFunc (.pointer parts) ∧ UsB D w rv t
  | a :: l, t, v, w => ∃ g caps parts, v = pV (.slice none 0 0) a (.func (.func g) #[] caps) (.pointer parts) ∧ (∀ args w, (callFunc g args).run Try.prog w = .ok (.enter g args) w) ∧
      ∀ (E : Nat → Prop), (∀ k, k < w.heap.size → (E k ↔ D k)) → ∀ (x : BitVec 64) (w' : World), FD E w w' → (∀ k, E k → k < w'.heap.size) → Calls Try.prog g (#[.int .u64 (U x)] ++ caps) w' fun e w'' => ∃ v', e = .returned v' ∧ Ext w' w'' ∧ PL E l (t ++ [x]) v' w''
theorem PH.fr {D : Nat → Prop} {l : List Acc} {t : List (BitVec 64)} {v : Value} {w w' : World} (h : PH D l t v w) (hf : FD D w w') : PH D l t v w' := by
  cases l with
  | nil => obtain ⟨rv, p, e, hu⟩ := h; exact ⟨rv, p, e, hu.fr hf⟩
  | cons a l => obtain ⟨g, caps, p, e, he, hc⟩ := h; exact ⟨g, caps, p, e, he, fun E hE x u hu => hc E (fun k hk => hE k (Nat.lt_of_lt_of_le hk hf.size)) x u (FD.trans ⟨hf.os, hf.tape, hf.output, hf.size, fun k hk hn => hf.block k hk fun hd => hn ((hE k (Nat.lt_of_lt_of_le hk hf.size)).2 hd)⟩ hu)⟩
theorem PL.h {D : Nat → Prop} {l : List Acc} {t : List (BitVec 64)} {v : Value} {w : World} (h : PL D l t v w) : PH D l t v w := by
  cases l with
  | nil => obtain ⟨rv, e, hu⟩ := h; exact ⟨rv, _, e, hu⟩
  | cons a l => obtain ⟨g, caps, e, he, hc⟩ := h; exact ⟨g, caps, _, e, he, hc⟩
theorem PH.ext {D : Nat → Prop} {l : List Acc} {t : List (BitVec 64)} {v : Value} {w w' : World} (h : PH D l t v w) (hf : Ext w w') : PH D l t v w' := h.fr (.of_ext hf)
theorem PL.ext {D : Nat → Prop} {l : List Acc} {t : List (BitVec 64)} {v : Value} {w w' : World} (h : PL D l t v w) (hf : Ext w w') : PL D l t v w' := h.fr (.of_ext hf)

theorem UsB.mono {D E : Nat → Prop} {w : World} {v : Value} {l : List (BitVec 64)} (h : UsB E w v l) (hd : ∀ k, D k → E k) : UsB D w v l := by
  obtain ⟨a0, cap, e, hc, hr⟩ := h
  refine ⟨a0, cap, e, hc, fun hl => ?_⟩
  obtain ⟨b, off, ea, h0, hlt, hcell⟩ := hr hl
  exact ⟨b, off, ea, fun x => h0 (hd b x), hlt, hcell⟩
theorem PL.mono : ∀ {l : List Acc} {D E : Nat → Prop} {t : List (BitVec 64)} {v : Value} {w : World}, (∀ k, D k → E k) → PL E l t v w → PL D l t v w
  | [], _, _, _, _, _, hd, ⟨rv, e, hu⟩ => ⟨rv, e, hu.mono hd⟩
  | _ :: _, D, E, _, _, w, hd, ⟨g, caps, e, he, hc⟩ => ⟨g, caps, e, he, fun F hF x u hu hs => by
      refine (hc (fun k => (k < w.heap.size ∧ E k) ∨ (¬ k < w.heap.size ∧ F k)) (fun k hk => ?_) x u ?_ ?_).mono fun _ _ ⟨v', e', hx, hp⟩ => ⟨v', e', hx, PL.mono (fun k hk => ?_) hp⟩
      · exact ⟨fun h => h.elim (·.2) (fun h => absurd hk h.1), fun h => .inl ⟨hk, h⟩⟩
      · exact ⟨hu.os, hu.tape, hu.output, hu.size, fun k hk hn => hu.block k hk fun hf => hn (.inl ⟨hk, hd k ((hF k hk).1 hf)⟩)⟩
      · exact fun k hk => hk.elim (fun h => Nat.lt_of_lt_of_le h.1 hu.size) (fun h => hs k h.2)
      · by_cases h : k < w.heap.size
        · exact .inl ⟨h, hd k ((hF k h).1 hk)⟩
        · exact .inr ⟨h, hk⟩⟩
theorem UsB.more {D E : Nat → Prop} {w : World} {v : Value} {l : List (BitVec 64)} (h : UsB D w v l) (he : ∀ k, k < w.heap.size → (E k ↔ D k)) : UsB E w v l := by
  obtain ⟨a0, cap, e, hc, hr⟩ := h
  refine ⟨a0, cap, e, hc, fun hl => ?_⟩
  obtain ⟨b, o, ea, h0, hlt, hcell⟩ := hr hl
  exact ⟨b, o, ea, fun x => h0 ((he b hlt).1 x), hlt, hcell⟩
theorem PL.more {D E : Nat → Prop} {l : List Acc} {t : List (BitVec 64)} {v : Value} {w : World} (h : PL D l t v w) (he : ∀ k, k < w.heap.size → (E k ↔ D k)) : PL E l t v w := by
  cases l with
  | nil => obtain ⟨rv, e, hu⟩ := h; exact ⟨rv, e, hu.more he⟩
  | cons a l => obtain ⟨g, caps, e, hn, hc⟩ := h; exact ⟨g, caps, e, hn, fun F hF => hc F fun k hk => (hF k hk).trans (he k hk)⟩
theorem PH.more {D E : Nat → Prop} {l : List Acc} {t : List (BitVec 64)} {v : Value} {w : World} (h : PH D l t v w) (he : ∀ k, k < w.heap.size → (E k ↔ D k)) : PH E l t v w := by
  cases l with
  | nil => obtain ⟨rv, p, e, hu⟩ := h; exact ⟨rv, p, e, hu.more he⟩
  | cons a l => obtain ⟨g, caps, p, e, hn, hc⟩ := h; exact ⟨g, caps, p, e, hn, fun F hF => hc F fun k hk => (hF k hk).trans (he k hk)⟩
/-- With blocks more that may turn, none of them old. -/
theorem Told.more {D E : Nat → Prop} {w : World} (he : ∀ k, k < w.heap.size → E k → D k) : ∀ {r : List (BitVec 64)} {v : Value}, Told D w r v → Told E w r v
  | [], _, h => h
  | _ :: _, _, ⟨g, p, e, h0, hlt, c0, c1, h⟩ => ⟨g, p, e, fun x => h0 (he g hlt x), hlt, c0, c1, Told.more he h⟩
theorem AsB.more {D E : Nat → Prop} {w : World} {v : Value} {l : List Acc} (h : AsB D w v l) (he : ∀ k, k < w.heap.size → E k → D k) : AsB E w v l := by
  obtain ⟨a0, cap, e, hc, hr⟩ := h
  refine ⟨a0, cap, e, hc, fun hl => ?_⟩
  obtain ⟨b, o, ea, h0, hlt, hcell⟩ := hr hl
  exact ⟨b, o, ea, fun x => h0 (he b hlt x), hlt, hcell⟩

end Go.Proofs.Ytpidmbclgfnekaa

/-
  Appends to a row that the call made itself: of what may be nil; of a composite literal without elements. Conditions: those of each theorem.
-/
namespace Go.Proofs.Ytpidmbclgfnekaa
open Go Go.RowKit

theorem ext_own {w u u' : World} {e : TypeId} {size : Nat} {v : Value} {n : Nat} {xs : List Value} (h : Ext w u) (ho : u.ownsRow w.heap.size e size v n xs) (hg : u.grownBy u' v.ownBlock) : Ext w u' :=
  h.grown hg h.size fun k hk => (ho.lt k hk).1
theorem own_none (w : World) (base : Nat) (e : TypeId) (size g : Nat) (hg : g = w.heap.size) (h : base ≤ w.heap.size) : (w.alloc (.cells #[] e)).ownsRow base e size (.slice (some ⟨g, 0, none⟩) 0 0) 0 [] := by
  subst hg
  refine ⟨by simp, .inr ⟨w.heap.size, 0, #[], rfl, h, ?_, Nat.le_refl _, Nat.zero_le _, by simp, by simp⟩⟩
  show (w.heap.push _)[w.heap.size]? = _
  simp
theorem append_none {P : Program} (w : World) {base : Nat} {t e : TypeId} (ty : TypeId) {i : TypeInfo} {size : Nat} (ht : P.underlying t = some (.slice e)) (hi : P.info? e = some i) {v : Value} {n : Nat} {xs : List Value} (hown : w.ownsRow base e size v n xs) (c : Nat) :
    (Builtin.append_ #[t, t] ty #[v, .slice none 0 c]).run P w = .ok v w := by
  rcases hown.2 with ⟨rfl, rfl⟩ | ⟨g, cap, cur, rfl, _, _, hnc, _⟩
  · simp [Builtin.append_, run_underlying ht, sizeOf, typeInfo, hi, Builtin.lenOf, Builtin.firstCells]
  · simp [Builtin.append_, run_underlying ht, sizeOf, typeInfo, hi, Builtin.lenOf, Builtin.firstCells, hnc, storeCells]
theorem wpList_append_opt {P : Program} {w : World} {ops : Array Oper} {rest : List Oper} {o : Oper} {a : Act} {Q : Exit → Act → World → Prop} (hgd : o.guard = none) (s x : Operand) (t : TypeId)
    (ho : o.op = .call { callee := .builtin .append, args := #[s, x], argTypes := #[t, t] }) (base : Nat) (e : TypeId) (i : TypeInfo) (z : Value) (size bytes : Nat) (ht : P.underlying t = some (.slice e)) (hi : P.info? e = some i) (hz : i.zero = some z) (hsize : i.size = size) (hby : i.bytes = bytes) (hzs : z.cells.size = size) (hsz : 0 < size)
    (v : Value) (n : Nat) (xs : List Value) (hs : a.eval s = v) (hown : w.ownsRow base e size v n xs) (A : Option Addr) (m c : Nat) (news : List Value) (hx : a.eval x = .slice A m c) (hA : A = none → m = 0) (hl : news.length = m * size)
    (hnews : ∀ ad, A = some ad → ∀ j u, news[j]? = some u → w.cell? (ad.add j) = some u) (h1 : ∀ u ∈ news, u.oneCell' = true) (h63 : n + m ≤ maxLen) (hbytes : (n + m) * bytes ≤ 140737488355328) (hbase : base ≤ w.heap.size)
    (h : ∀ v' w', w'.ownsRow base e size v' (n + m) (xs ++ news) → w.grownBy w' v.ownBlock → wpList P ops Q rest (a.put o.dst v') w') : wpList P ops Q (o :: rest) a w := by
  cases A with
  | some ad => exact wpList_append_own w hgd s x t ho base e i z size bytes ht hi hz hsize hby hzs hsz v n xs hs hown ad m c news hx hl (hnews ad rfl) h1 h63 hbytes hbase fun v' w' h2 h3 _ => h v' w' h2 h3
  | none =>
    obtain rfl := hA rfl
    have hn : news = [] := List.eq_nil_of_length_eq_zero (by simpa using hl)
    subst hn
    refine wpList_plain hgd fun K hK => ?_
    have hrun := append_none w o.type ht hi hown c
    unfold Oper.wp
    simp only [execOp, ho, resolve, invoke, builtin, Sem.run_bind, Sem.run_pure, Result.andThen_ok, List.map_toArray, List.map_cons, List.map_nil, hs, hx, hrun]
    exact hK _ _ (h v w (by rw [Nat.add_zero, List.append_nil]; exact hown) ⟨rfl, rfl, rfl, Nat.le_refl _, fun _ _ _ => rfl⟩)


end Go.Proofs.Ytpidmbclgfnekaa

/-
  What the calls of with and words come to, and slices.Reverse of words. Conditions: those of each theorem.
-/
namespace Go.Proofs.Ytpidmbclgfnekaa
open Go Go.RowKit

def RetTold (D : Nat → Prop) (r : List (BitVec 64)) (w : World) (e : Ending) (w' : World) : Prop := ∃ v, e = .returned v ∧ Told D w' r v ∧ Ext w w'
theorem rev_take_succ (l r : List (BitVec 64)) (k : Nat) (h : k < l.length) : (l.take (k + 1)).reverse ++ r = uN l k :: ((l.take k).reverse ++ r) := by
  rw [List.take_succ_eq_append_getElem h, List.reverse_append]
  simp [uN, List.getD_eq_getElem?_getD, h]
theorem told_new {D : Nat → Prop} {w : World} {r : List (BitVec 64)} {p : Value} (h : Told D w r p) (hb : ∀ k, D k → k < w.heap.size) (x : BitVec 64) (t : TypeId) :
    Told D (w.alloc (.cells #[.int .u64 (U x), p] t)) (x :: r) (.pointer (some ⟨w.heap.size, 0, none⟩)) := by
  have h0 := heap_alloc_new w (.cells #[.int .u64 (U x), p] t)
  exact ⟨_, p, rfl, fun x => absurd (hb _ x) (Nat.lt_irrefl _), by simp, cell_at h0 rfl, cell_at h0 rfl, h.ext (ext_alloc _ (ext_refl w))⟩
theorem Told.ptr {D : Nat → Prop} {w : World} : ∀ {r : List (BitVec 64)} {v : Value}, Told D w r v → ∃ p, v = .pointer p
  | [], _, h => ⟨none, h⟩
  | _ :: _, _, ⟨_, _, e, _⟩ => ⟨_, e⟩
def WithRel (D : Nat → Prop) (l r : List (BitVec 64)) (w : World) (t i : Value) (wr : World) : Prop :=
  ∃ k : Nat, k ≤ l.length ∧ i = .int .i64 (k : Int) ∧ Told D wr ((l.take k).reverse ++ r) t ∧ Ext w wr

/-- The cells of a row of words, the first k and the last k of n turned about. -/
def revN (n : Nat) (x : Nat → BitVec 64) (k i : Nat) : BitVec 64 := if i < k ∨ n - 1 - k < i then x (n - 1 - i) else x i
structure RowIs (g n : Nat) (x : Nat → BitVec 64) (w : World) : Prop where
  blk : ∃ c, w.heap[g]? = some (.cells c 33 (0, 0)) ∧ ∀ i, i < n → c[i]? = some (.int .u64 (U (x i)))
theorem RowIs.cell {g n : Nat} {x : Nat → BitVec 64} {w : World} (h : RowIs g n x w) {i : Nat} (hi : i < n) : w.cell? ⟨g, i, none⟩ = some (.int .u64 (U (x i))) := by
  obtain ⟨c, hc, hx⟩ := h.blk
  exact cell_at hc (hx i hi)
theorem RowIs.free {g n : Nat} {x : Nat → BitVec 64} {w : World} (h : RowIs g n x w) (i : Nat) : w.frozen? ⟨g, i, none⟩ = false := by
  obtain ⟨c, hc, _⟩ := h.blk
  exact free_at hc
theorem RowIs.set {g n : Nat} {x : Nat → BitVec 64} {w : World} (h : RowIs g n x w) (i : Nat) (y : BitVec 64) : RowIs g n (fun j => if j = i then y else x j) (w.setCell ⟨g, i, none⟩ (.int .u64 (U y))) := by
  obtain ⟨c, hc, hx⟩ := h.blk
  refine ⟨_, set_same _ hc, fun j hj => ?_⟩
  rw [Array.getElem?_setIfInBounds]
  have hj' := hx j hj
  have hlt : j < c.size := (Array.getElem?_eq_some_iff.1 hj').1
  by_cases hij : i = j
  · subst hij; simp [hlt]
  · rw [if_neg hij, hj']; simp [Ne.symm hij]
theorem RowIs.congr {g n : Nat} {x y : Nat → BitVec 64} {w : World} (h : RowIs g n x w) (e : ∀ i, i < n → x i = y i) : RowIs g n y w := by
  obtain ⟨c, hc, hx⟩ := h.blk
  exact ⟨c, hc, fun i hi => by rw [← e i hi]; exact hx i hi⟩
theorem RowIs.fr {g n : Nat} {x : Nat → BitVec 64} {w w' : World} (h : RowIs g n x w) (hb : w'.heap[g]? = w.heap[g]?) : RowIs g n x w' := by
  obtain ⟨c, hc, hx⟩ := h.blk
  exact ⟨c, hb.trans hc, hx⟩
def RevRel (g n : Nat) (x : Nat → BitVec 64) (w : World) (i j : Value) (wr : World) : Prop :=
  ∃ k : Nat, 2 * k ≤ n ∧ i = .int .i64 (k : Int) ∧ j = .int .i64 ((n : Int) - 1 - k) ∧ RowIs g n (revN n x k) wr ∧ Fr g (g + 1) w wr
def RetRev (g n : Nat) (x : Nat → BitVec 64) (w : World) (e : Ending) (w' : World) : Prop :=
  e = .returned (.tuple #[]) ∧ RowIs g n (fun i => x (n - 1 - i)) w' ∧ Fr g (g + 1) w w'

def W1 (x : BitVec 64) : Value := .int .u64 (U x)
theorem Try.infoU64t : (Try.prog.info? 33).map (fun i => (i.zero, i.size, i.bytes)) = some (some (.int .u64 0), 1, 8) := by kernel_rfl
theorem row_of_own {w : World} {base : Nat} {v : Value} {l : List (BitVec 64)} (h : w.ownsRow base 33 1 v l.length (l.map W1)) :
    (v = .slice none 0 0 ∧ l = []) ∨ ∃ g cap, v = .slice (some ⟨g, 0, none⟩) l.length cap ∧ l.length ≤ cap ∧ base ≤ g ∧ g < w.heap.size ∧ RowIs g l.length (uN l) w := by
  rcases h.2 with ⟨h1, h2⟩ | ⟨g, cap, cur, rfl, hg, hh, hc, hm, hs, ht⟩
  · exact .inl ⟨h1, List.eq_nil_of_length_eq_zero h2⟩
  · refine .inr ⟨g, cap, rfl, hc, hg, heap_lt hh, ⟨cur, hh, fun i hi => ?_⟩⟩
    have h3 : (cur.toList.take (l.length * 1))[i]? = (l.map W1)[i]? := by rw [ht]
    rw [List.getElem?_take, if_pos (by omega), Array.getElem?_toList, List.getElem?_map, List.getElem?_eq_getElem hi] at h3
    rw [h3]
    simp [W1, uN, List.getD_eq_getElem?_getD, hi]
def WordsRel (D : Nat → Prop) (r : List (BitVec 64)) (w : World) (t l : Value) (wr : World) : Prop :=
  ∃ r1 r2, r = r1 ++ r2 ∧ Told D w r2 t ∧ wr.ownsRow w.heap.size 33 1 l r1.length (r1.map W1) ∧ Ext w wr
def RetWords (r : List (BitVec 64)) (w : World) (e : Ending) (w' : World) : Prop := ∃ v, e = .returned v ∧ UsB (· < w.heap.size) w' v r.reverse ∧ Ext w w'
def sliceLen : Value → Nat
  | .slice _ n _ => n
  | _ => 0
theorem own_len {w : World} {base : Nat} {e : TypeId} {size : Nat} {v : Value} {n : Nat} {xs : List Value} (h : w.ownsRow base e size v n xs) : sliceLen v = n := by
  rcases h.2 with ⟨rfl, h2⟩ | ⟨g, cap, cur, rfl, _⟩
  · exact h2.symm
  · rfl

end Go.Proofs.Ytpidmbclgfnekaa
