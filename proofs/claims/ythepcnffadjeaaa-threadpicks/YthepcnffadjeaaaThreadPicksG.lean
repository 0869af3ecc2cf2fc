/-
  ThreadPicks: its calls, as an argument; what stands between two of them; the call's ways, walked. Conditions: those of each theorem.
-/
import Derived.Test.YthepcnffadjeaaaThreadRPick
import Derived.Test.YthepcnffadjeaaaThreadLs
import Derived.Test.YthepcnffadjeaaaProgSame
import Derived.Deep.Cut
namespace Go.Proofs.Ythepcnffadjeaaa
open Go Go.RowKit

/-- A call. -/
structure Cl where
  k : Int
  s : Bool
  l : List Acc
def cN (cs : List Cl) (i : Nat) : Cl := cs.getD i ⟨0, false, []⟩
/-- The value v is a slice of calls that reads, in w, as cs. -/
def Cls (w : World) (v : Value) (cs : List Cl) : Prop :=
  ∃ a0 cap, v = .slice a0 cs.length cap ∧ cs.length ≤ cap ∧ (0 < cs.length → ∃ b o, a0 = some ⟨b, o, none⟩ ∧ b < w.heap.size ∧ ∀ i, i < cs.length →
    w.cell? ⟨b, o + i * 3, none⟩ = some (.int .i64 (cN cs i).k) ∧ w.cell? ⟨b, o + i * 3 + 1, none⟩ = some (.bool (cN cs i).s) ∧ ∃ u, w.cell? ⟨b, o + i * 3 + 2, none⟩ = some u ∧ AsB (fun _ => False) w u (cN cs i).l)
theorem Cls.at {w : World} {a0 : Option Addr} {m cap : Nat} {cs : List Cl} (h : Cls w (.slice a0 m cap) cs) (hl : 0 < cs.length) : ∃ b o, a0 = some ⟨b, o, none⟩ ∧ b < w.heap.size ∧ ∀ i, i < cs.length →
    w.cell? ⟨b, o + i * 3, none⟩ = some (.int .i64 (cN cs i).k) ∧ w.cell? ⟨b, o + i * 3 + 1, none⟩ = some (.bool (cN cs i).s) ∧ ∃ u, w.cell? ⟨b, o + i * 3 + 2, none⟩ = some u ∧ AsB (fun _ => False) w u (cN cs i).l := by
  obtain ⟨a, c', e, _, hr⟩ := h
  simp at e
  obtain ⟨rfl, rfl, rfl⟩ := e
  exact hr hl
theorem Cls.ext {w w' : World} {v : Value} {cs : List Cl} (h : Cls w v cs) (hx : Ext w w') : Cls w' v cs := by
  obtain ⟨a0, cap, e, hc, hr⟩ := h
  refine ⟨a0, cap, e, hc, fun hl => ?_⟩
  obtain ⟨b, o, ea, hb, hcell⟩ := hr hl
  refine ⟨b, o, ea, Nat.lt_of_lt_of_le hb hx.size, fun i hi => ?_⟩
  obtain ⟨h1, h2, u, h3, h4⟩ := hcell i hi
  exact ⟨ext_cell hx h1, ext_cell hx h2, u, ext_cell hx h3, h4.ext hx⟩
def callT (j : Nat) : TypeId := if j = 0 then 3 else if j = 1 then 4 else 40
section
variable {H : Type} {enc : TypeId × Value → H} {base : Nat} {held : Bool} {w : World}
theorem cls_of_nv {v : Value} {n : Nat} {x : Nat → Nat → Value} (h : Nv enc Try.prog base held 3 callT w v n x) : ∃ cs, Cls w v cs := by
  obtain ⟨a0, cap, e, hc, hr⟩ := h
  by_cases hp : 0 < n
  · obtain ⟨b, off, ea, hb, hcell⟩ := hr hp
    have each : ∀ i, ∃ c : Cl, i < n → x i 0 = .int .i64 c.k ∧ x i 1 = .bool c.s ∧ AsB (fun _ => False) w (x i 2) c.l := fun i => by
      by_cases hlt : i < n
      · obtain ⟨_, f0, y0, h0⟩ := hcell i hlt 0 (by omega)
        obtain ⟨_, f1, y1, h1⟩ := hcell i hlt 1 (by omega)
        obtain ⟨_, f2, y2, h2⟩ := hcell i hlt 2 (by omega)
        obtain ⟨k, hk, _⟩ := leaf_int (P := Try.prog) (t := 3) Try.underlying3 h0
        obtain ⟨s, hs⟩ := leaf_bool (P := Try.prog) (t := 4) Try.underlying4 h1
        obtain ⟨l, hl⟩ := leaf_accs h2
        exact ⟨⟨k, s, l⟩, fun _ => ⟨hk, hs, hl⟩⟩
      · exact ⟨⟨0, false, []⟩, fun h => absurd h hlt⟩
    obtain ⟨f, hf⟩ := Classical.axiomOfChoice each
    refine ⟨(List.range n).map f, a0, cap, by simpa using e, by simpa using hc, fun _ => ⟨b, off, ea, hb, fun i hi => ?_⟩⟩
    have hi' : i < n := by simpa using hi
    obtain ⟨g0, g1, g2⟩ := hf i hi'
    rw [show cN ((List.range n).map f) i = f i by unfold cN; exact getD_range f n i _ hi']
    have h0 := (hcell i hi' 0 (by omega)).1
    have h1 := (hcell i hi' 1 (by omega)).1
    have h2 := (hcell i hi' 2 (by omega)).1
    rw [g0, Nat.add_zero] at h0
    rw [g1] at h1
    exact ⟨h0, h1, _, h2, g2⟩
  · obtain rfl : n = 0 := by omega
    exact ⟨[], a0, cap, e, hc, fun h => absurd h (Nat.not_lt_zero _)⟩
end

/-- Calls that are looked at. -/
def FewC (cs : List Cl) : Prop := (∀ i, i < cs.length → i < 100 → (cN cs i).l.length ≤ 10) ∧ cs.length ≤ 80
def FewRel (cs : List Cl) (w : World) (i : Value) (wr : World) : Prop := ∃ k : Nat, k ≤ cs.length ∧ k ≤ 100 ∧ i = .int .i64 (k : Int) ∧ (∀ j, j < k → (cN cs j).l.length ≤ 10) ∧ wr = w
set_option maxRecDepth 8000 in
set_option maxHeartbeats 1000000 in
theorem few_any (cs : List Cl) (v : Value) (w : World) (r : Bool) (hr : Hid (r = true ↔ FewC cs)) (hC : Cls w v cs) : Calls Try.prog 9 #[v] w (Ret (.bool r) w) := by
  have HC := Lib.hid hC
  obtain ⟨a0, cap, rfl, _⟩ := hC
  go_enter Try.func9, Try.ntmps9
  go_wp2
  go_loopw [3] (fun i wr => FewRel cs w i wr) (fun i _ => ((cs.length : Int) - intOf i).toNat)
  case atStart => exact ⟨0, Nat.zero_le _, Nat.zero_le _, rfl, fun j hj => absurd hj (Nat.not_lt_zero _), rfl⟩
  case round =>
    obtain ⟨k, hk, hk1, rfl, hall, rfl⟩ := hrel
    by_cases hlt : k < cs.length
    · have q0 : decide ((k : Int) < (cs.length : Int)) = true := by simp; omega
      by_cases h100 : k < 100
      · have q1 : decide ((k : Int) < 100) = true := by simp; omega
        obtain ⟨b, o, rfl, hb, hcells⟩ := HC.out.at (by omega)
        obtain ⟨_, _, u, hc, hu⟩ := hcells k hlt
        obtain ⟨ua, ucap, rfl⟩ : ∃ a c, u = .slice a (cN cs k).l.length c := by
          obtain ⟨a, c, e, _⟩ := hu
          exact ⟨a, c, e⟩
        have lb := cell_lt hc
        clear hcells hu
        by_cases hlong : 10 < (cN cs k).l.length
        · have q2 : decide (10 < ((cN cs k).l.length : Int)) = true := by simp; omega
          obtain rfl : false = r := bool_not (fun h => by have := h.1 k hlt h100; omega) hr
          go_wp2
          go_ret
          exact Ret.mk (ext_refl _)
        · have q2 : decide (10 < ((cN cs k).l.length : Int)) = false := by simp; omega
          go_wp2
          exact ⟨⟨k + 1, by omega, by omega, by go_num, fun j hj => by
            by_cases e : j = k
            · subst e; omega
            · exact hall j (by omega), rfl⟩, by simp [intOf]; omega⟩
      · have q1 : decide ((k : Int) < 100) = false := by simp; omega
        have q3 : ¬ ((k : Int) < 100) := by omega
        have q2 : decide ((cs.length : Int) ≤ 80) = false := by simp; omega
        obtain rfl : false = r := bool_not (fun h => by have := h.2; omega) hr
        go_wp2
        go_ret
        exact Ret.mk (ext_refl _)
    · obtain rfl : k = cs.length := by omega
      have q0 : decide ((cs.length : Int) < (cs.length : Int)) = false := by simp
      have hd : decide ((cs.length : Int) ≤ 80) = r := by
        by_cases h80 : cs.length ≤ 80
        · have : r = true := hr.out.2 ⟨fun i hi _ => hall i hi, h80⟩
          rw [this]; simp; omega
        · obtain rfl : false = r := bool_not (fun h => h80 h.2) hr
          simp; omega
      go_wp2
      go_ret
      exact Ret.mk (ext_refl _)

/-- Lists that are short. -/
structure Sm (S : WS) : Prop where
  q : ∀ l ∈ S.q, l.length ≤ 10
  r : S.t.length + S.l.length ≤ 10
theorem Sm.give {S : WS} (h : Sm S) (l : List Acc) (hl : l.length ≤ 10) : Sm (S.give l) :=
  ⟨fun l' hl' => by
    simp only [WS.give, List.mem_append, List.mem_cons, List.not_mem_nil, or_false] at hl'
    rcases hl' with hl' | rfl
    · exact h.q l' hl'
    · exact hl, h.r⟩
theorem Sm.rest {S : WS} (h : Sm S) : Sm S.rest := ⟨h.q, by simp [WS.rest]⟩
/-- What a pick leaves as it was. -/
structure PkKeeps (M : MS) (S : WS) (x : MS × WS × Nat × List (BitVec 64)) : Prop where
  n : x.1.n = M.n
  z : x.1.sz = M.sz
  sn : x.2.1.n = S.n
  sm : Sm x.2.1
  r : x.2.2.2.length ≤ 10
theorem go_keeps {r : Int} {e : BitVec 64} {M : MS} {S : WS} (h : Sm S) : PkKeeps M S (goF r e M S) := by
  have h2 := h.r
  cases hl : S.l with
  | nil =>
    rw [goF_nil hl]
    exact ⟨rfl, rfl, rfl, h.rest, by show S.t.length ≤ 10; omega⟩
  | cons a l =>
    rw [hl] at h2
    simp only [List.length_cons] at h2
    by_cases hd : DoOk M r e a.op a.at_
    · cases l with
      | nil =>
        rw [goF_last hl hd]
        exact ⟨rfl, rfl, rfl, h.rest, by simp; omega⟩
      | cons a2 l =>
        rw [goF_step hl hd]
        exact ⟨rfl, rfl, rfl, ⟨h.q, by simp at h2 ⊢; omega⟩, by simp⟩
    · rw [goF_no hl hd]
      exact ⟨rfl, rfl, rfl, h.rest, by simp⟩
theorem pick_keeps {r : Int} {e : BitVec 64} {M : MS} {S : WS} (h : Sm S) : PkKeeps M S (pickF r e M S) := by
  cases hb : S.busy with
  | true =>
    rw [pickF_busy hb]
    exact go_keeps h
  | false =>
    cases hq : S.q with
    | nil =>
      rw [pickF_idle hb hq]
      exact ⟨rfl, rfl, rfl, h, by simp⟩
    | cons l q =>
      rw [pickF_begin hb hq]
      have h1 : Sm (S.begin l q) := ⟨fun l' hl' => h.q l' (by rw [hq]; exact List.mem_cons_of_mem _ hl'), by
        have := h.q l (by rw [hq]; simp)
        simpa [WS.begin] using this⟩
      have k := go_keeps (r := r) (e := e) (M := M) h1
      exact ⟨k.n, k.z, k.sn, k.sm, k.r⟩

/-- The blocks that turn between two calls. -/
def PlD (lo hi q bx bv : Nat) (k : Nat) : Prop := PkD lo hi (q + 2) q k ∨ k = bx ∨ k = bv
/-- What stands between two calls. -/
structure PlIn (lo hi : Nat) (L : Lay) (q bx bv bf : Nat) (S : WS) (M : MS) (R : RL) (vb vl vt : Value) (w wr : World) : Prop where
  law : LawIn (PlD lo hi q bx bv) lo hi L q M S w wr
  ref : RefIn (fun b => ¬ PlD lo hi q bx bv b) R M wr
  box : wr.heap[bx]? = some (.cells #[.slice R.wa M.n R.wc, .slice R.ea M.n R.ec, .int .i64 M.ct] 33)
  vw : wr.heap[bv]? = some (.cells #[.int .i64 (S.n : Int), vb, .bool S.busy, vl, vt] 42)
  vs : VSt (PlD lo hi q bx bv) S vb vl vt w wr
  fst : wr.heap[bf]? = some (.cells #[.int .i64 0, .int .u64 (U 1#64)] 45)
  sm : Sm S
  mn : M.n = 1 ∧ M.sz 0 = 8
  ord : hi ≤ bx ∧ bx < q ∧ q + 2 < bv ∧ bv < bf ∧ w.heap.size ≤ bx
section
variable {lo hi : Nat} {L : Lay} {q bx bv bf : Nat} {S S' : WS} {M M' : MS} {R R' : RL} {vb vl vt vb' vl' vt' : Value} {w wr wr' T : World}
theorem PlIn.grow (h : PlIn lo hi L q bx bv bf S M R vb vl vt w wr) (hx : Ext wr wr') : PlIn lo hi L q bx bv bf S M R vb vl vt w wr' :=
  ⟨h.law.grow hx, h.ref.ext hx, (hx.block _ (heap_lt h.box)).trans h.box, (hx.block _ (heap_lt h.vw)).trans h.vw, h.vs.ext hx, (hx.block _ (heap_lt h.fst)).trans h.fst, h.sm, h.mn, h.ord⟩
/-- The worker's box, laid anew. -/
def put5 (b : Nat) (x0 x1 x2 x3 x4 : Value) (w : World) : World := ((((w.setCell ⟨b, 0, none⟩ x0).setCell ⟨b, 1, none⟩ x1).setCell ⟨b, 2, none⟩ x2).setCell ⟨b, 3, none⟩ x3).setCell ⟨b, 4, none⟩ x4
theorem put5_block {w : World} {b : Nat} {y0 y1 y2 y3 y4 : Value} {t : TypeId} {f : Nat × Nat} (x0 x1 x2 x3 x4 : Value) (h : w.heap[b]? = some (.cells #[y0, y1, y2, y3, y4] t f)) : (put5 b x0 x1 x2 x3 x4 w).heap[b]? = some (.cells #[x0, x1, x2, x3, x4] t f) := by
  have h0 := set_same (o := 0) x0 h
  have h1 := set_same (o := 1) x1 h0
  have h2 := set_same (o := 2) x2 h1
  have h3 := set_same (o := 3) x3 h2
  have h4 := set_same (o := 4) x4 h3
  unfold put5
  rw [h4]
  simp
theorem put5_fd {w : World} {b : Nat} (x0 x1 x2 x3 x4 : Value) : FD (fun k => k = b) w (put5 b x0 x1 x2 x3 x4 w) :=
  (((((FD.refl (fun k => k = b) w).set (p := ⟨b, 0, none⟩) _ rfl).set (p := ⟨b, 1, none⟩) _ rfl).set (p := ⟨b, 2, none⟩) _ rfl).set (p := ⟨b, 3, none⟩) _ rfl).set (p := ⟨b, 4, none⟩) _ rfl
/-- The reference's worker is stored; the worker itself is S' by then, or will be. -/
theorem PlIn.putV (h : PlIn lo hi L q bx bv bf S M R vb vl vt w wr) (x0 x1 x2 x3 x4 : Value) : LawIn (PlD lo hi q bx bv) lo hi L q M S w (put5 bv x0 x1 x2 x3 x4 wr) ∧ RefIn (fun b => ¬ PlD lo hi q bx bv b) R M (put5 bv x0 x1 x2 x3 x4 wr) ∧
    (put5 bv x0 x1 x2 x3 x4 wr).heap[bx]? = some (.cells #[.slice R.wa M.n R.wc, .slice R.ea M.n R.ec, .int .i64 M.ct] 33) ∧ (put5 bv x0 x1 x2 x3 x4 wr).heap[bf]? = some (.cells #[.int .i64 0, .int .u64 (U 1#64)] 45) := by
  have hf := put5_fd (w := wr) (b := bv) x0 x1 x2 x3 x4
  have ho := h.ord
  exact ⟨h.law.keep hf (fun k hk => .inr (.inr hk)) (fun k hk => by omega) (by omega) (by omega) (by omega) (fun k hk => by omega), h.ref.fd hf (fun k hk => .inr (.inr hk)), (hf.block _ (heap_lt h.box) (by omega)).trans h.box, (hf.block _ (heap_lt h.fst) (by omega)).trans h.fst⟩
/-- The next state, the reference's worker stored, and its memory. -/
theorem PlIn.next (ho : hi ≤ bx ∧ bx < q ∧ q + 2 < bv ∧ bv < bf ∧ w.heap.size ≤ bx) (hL : LawIn (PlD lo hi q bx bv) lo hi L q M' S' w T) (hR : RefIn (fun b => ¬ PlD lo hi q bx bv b) R' M' T) (hv : VSt (PlD lo hi q bx bv) S' vb' vl' vt' w T)
    {y0 y1 y2 z0 z1 z2 z3 z4 : Value} (hbx : T.heap[bx]? = some (.cells #[y0, y1, y2] 33)) (hbv : T.heap[bv]? = some (.cells #[z0, z1, z2, z3, z4] 42)) (hbf : T.heap[bf]? = some (.cells #[.int .i64 0, .int .u64 (U 1#64)] 45)) (hs : Sm S') (hm : M'.n = 1 ∧ M'.sz 0 = 8) :
    PlIn lo hi L q bx bv bf S' M' R' vb' vl' vt' w ((((put5 bv (.int .i64 (S'.n : Int)) vb' (.bool S'.busy) vl' vt' T).setCell ⟨bx, 0, none⟩ (.slice R'.wa M'.n R'.wc)).setCell ⟨bx, 1, none⟩ (.slice R'.ea M'.n R'.ec)).setCell ⟨bx, 2, none⟩ (.int .i64 M'.ct)) := by
  have hf1 := put5_fd (w := T) (b := bv) (.int .i64 (S'.n : Int)) vb' (.bool S'.busy) vl' vt'
  have hk1 := put5_block (.int .i64 (S'.n : Int)) vb' (.bool S'.busy) vl' vt' hbv
  generalize put5 bv (.int .i64 (S'.n : Int)) vb' (.bool S'.busy) vl' vt' T = T1 at hf1 hk1 ⊢
  have hbx1 := (hf1.block _ (heap_lt hbx) (by omega)).trans hbx
  have hbf1 := (hf1.block _ (heap_lt hbf) (by omega)).trans hbf
  have hf2 := put3_fd (w := T1) (b := bx) (.slice R'.wa M'.n R'.wc) (.slice R'.ea M'.n R'.ec) (.int .i64 M'.ct)
  have hk2 := put3_block (.slice R'.wa M'.n R'.wc) (.slice R'.ea M'.n R'.ec) (.int .i64 M'.ct) hbx1
  generalize (World.setCell _ (⟨bx, 2, none⟩ : Addr) _) = T2 at hf2 hk2 ⊢
  have hfd : FD (fun k => k = bx ∨ k = bv) T T2 := (hf1.wide fun _ hk => .inr hk).trans (hf2.wide fun _ hk => .inl hk)
  have hE : ∀ k, (k = bx ∨ k = bv) → PlD lo hi q bx bv k := fun k hk => .inr hk
  exact ⟨hL.keep hfd hE (fun k hk => by omega) (by omega) (by omega) (by omega) (fun k hk => by omega), hR.fd hfd hE, hk2, (hf2.block _ (heap_lt hk1) (by omega)).trans hk1, hv.fr (hfd.wide hE), (hf2.block _ (heap_lt hbf1) (by omega)).trans hbf1, hs, hm, ho⟩
/-- What was told stays, when both are stored. -/
theorem us_next {D : Nat → Prop} (hbx : D bx) (hbv : D bv) {v : Value} {l : List (BitVec 64)} (hU : UsB D T v l) (x0 x1 x2 x3 x4 y0 y1 y2 : Value) : UsB D ((((put5 bv x0 x1 x2 x3 x4 T).setCell ⟨bx, 0, none⟩ y0).setCell ⟨bx, 1, none⟩ y1).setCell ⟨bx, 2, none⟩ y2) v l :=
  (hU.fr ((put5_fd (w := T) (b := bv) x0 x1 x2 x3 x4).wide fun _ hk => by rw [hk]; exact hbv)).fr ((put3_fd (b := bx) y0 y1 y2).wide fun _ hk => by rw [hk]; exact hbx)
/-- The reference's worker is stored alone. -/
theorem PlIn.gave (h : PlIn lo hi L q bx bv bf S M R vb vl vt w T) (hv : VSt (PlD lo hi q bx bv) S' vb' vl' vt' w T) {T2 : World}
    (hL : LawIn (PlD lo hi q bx bv) lo hi L q M S' w T2) (hf : FD (fun k => k = q) (put5 bv (.int .i64 (S'.n : Int)) vb' (.bool S'.busy) vl' vt' T) T2) (hs : Sm S') : PlIn lo hi L q bx bv bf S' M R vb' vl' vt' w T2 := by
  have hf1 := put5_fd (w := T) (b := bv) (.int .i64 (S'.n : Int)) vb' (.bool S'.busy) vl' vt'
  have hk1 := put5_block (.int .i64 (S'.n : Int)) vb' (.bool S'.busy) vl' vt' h.vw
  obtain ⟨_, hR1, hb1, hb2⟩ := h.putV (.int .i64 (S'.n : Int)) vb' (.bool S'.busy) vl' vt'
  generalize put5 bv (.int .i64 (S'.n : Int)) vb' (.bool S'.busy) vl' vt' T = T1 at hf1 hk1 hR1 hb1 hb2 hf
  have ho := h.ord
  have hq : ∀ k, k = q → PlD lo hi q bx bv k := fun k hk => .inl (.inr (.inr hk))
  exact ⟨hL, hR1.fd hf hq, (hf.block _ (heap_lt hb1) (by omega)).trans hb1, (hf.block _ (heap_lt hk1) (by omega)).trans hk1, (hv.fr (hf1.wide fun k hk => .inr (.inr hk))).fr (hf.wide hq), (hf.block _ (heap_lt hb2) (by omega)).trans hb2, hs, h.mn, ho⟩
/-- A bump of both. -/
theorem PlIn.bumped (h : PlIn lo hi L q bx bv bf S M R vb vl vt w wr) (hL : LawIn (PlD lo hi q bx bv) lo hi L q M' S w T) (hf : Fr lo hi wr T) {T2 : World} (hx : Ext T T2) (hR : RefIn (fun b => ¬ PlD lo hi q bx bv b) R' M' T2) (hm : M'.n = 1 ∧ M'.sz 0 = 8) :
    PlIn lo hi L q bx bv bf S M' R' vb vl vt w (((T2.setCell ⟨bx, 0, none⟩ (.slice R'.wa M'.n R'.wc)).setCell ⟨bx, 1, none⟩ (.slice R'.ea M'.n R'.ec)).setCell ⟨bx, 2, none⟩ (.int .i64 M'.ct)) := by
  have ho := h.ord
  have hfd : FD (fun k => lo ≤ k ∧ k < hi) wr T2 := fd_ext (FD.of_fr hf fun _ h1 h2 => ⟨h1, h2⟩) hx
  have hb1 := (hfd.block _ (heap_lt h.box) (by omega)).trans h.box
  have hb2 := (hfd.block _ (heap_lt h.vw) (by omega)).trans h.vw
  have hb3 := (hfd.block _ (heap_lt h.fst) (by omega)).trans h.fst
  have hv := h.vs.fr (hfd.wide (E := PlD lo hi q bx bv) fun k hk => .inl (.inl hk))
  have hf2 := put3_fd (w := T2) (b := bx) (.slice R'.wa M'.n R'.wc) (.slice R'.ea M'.n R'.ec) (.int .i64 M'.ct)
  have hk2 := put3_block (.slice R'.wa M'.n R'.wc) (.slice R'.ea M'.n R'.ec) (.int .i64 M'.ct) hb1
  generalize (World.setCell _ (⟨bx, 2, none⟩ : Addr) _) = T3 at hf2 hk2 ⊢
  have hE : ∀ k, k = bx → PlD lo hi q bx bv k := fun k hk => .inr (.inl hk)
  exact ⟨(hL.grow hx).keep hf2 hE (fun k hk => by omega) (by omega) (by omega) (by omega) (fun k hk => by omega), hR.fd hf2 hE, hk2, (hf2.block _ (heap_lt hb2) (by omega)).trans hb2, hv.fr (hf2.wide hE), (hf2.block _ (heap_lt hb3) (by omega)).trans hb3, h.sm, hm, ho⟩
end
/-- The law's Give, of the one and of the other: where there is room, and where there is none. -/
theorem rgive_any {D : Nat → Prop} {S : WS} {vb vl vt : Value} {w wr : World} (h : VSt D S vb vl vt w wr) (l : List Acc) (lv : Value) (hA : AsB (fun _ => False) w lv l) (okb : Bool) (S2 : WS) (ho : Hid ((okb = true ∧ S.q.length < S.n ∧ S2 = S.give l) ∨ (okb = false ∧ S.n ≤ S.q.length ∧ S2 = S))) (hs : S.q.length ≤ 5000) (hb : ∀ k, D k → k < wr.heap.size) :
    Calls Try.prog 14 #[.agg #[.int .i64 (S.n : Int), vb, .bool S.busy, vl, vt], lv] wr fun e w' => ∃ ba bc, e = .returned (.tuple #[.agg #[.int .i64 (S.n : Int), .slice ba S2.q.length bc, .bool S.busy, vl, vt], .bool okb]) ∧ VSt D S2 (.slice ba S2.q.length bc) vl vt w w' ∧ Ext wr w' := by
  rcases ho.out with ⟨rfl, h1, rfl⟩ | ⟨rfl, h1, rfl⟩
  · refine (rgive_yes h l lv hA h1 hs hb).mono ?_
    rintro e w' ⟨vb', rfl, hv, hx⟩
    obtain ⟨ba, bc, rfl⟩ := hv.slice
    exact ⟨ba, bc, rfl, hv, hx⟩
  · refine (rgive_no h lv h1).mono ?_
    rintro e w' ⟨rfl, hx⟩
    obtain ⟨ba, bc, rfl⟩ := h.slice
    exact ⟨ba, bc, rfl, h.ext hx, hx⟩
theorem wgive_any {D : Nat → Prop} {lo hi : Nat} {L : Lay} {q : Nat} {M : MS} {S : WS} {w wr : World} (h : LawIn D lo hi L q M S w wr) (l : List Acc) (v : Value) (hA : AsB (fun _ => False) wr v l) (hl : l.length ≤ 900) (okb : Bool) (S2 : WS) (ho : Hid ((okb = true ∧ S.q.length < S.n ∧ S2 = S.give l) ∨ (okb = false ∧ S.n ≤ S.q.length ∧ S2 = S))) :
    Calls Try.prog 15 #[.pointer (some ⟨q + 2, 0, none⟩), v] wr (LawGive D lo hi L q M S2 (.int .i64 (if okb = true then 0 else 8)) w wr) := by
  rcases ho.out with ⟨rfl, h1, rfl⟩ | ⟨rfl, h1, rfl⟩
  · exact lawGive_room h l v hA hl h1
  · exact lawGive_full h l v hA hl h1


/-! The short ways. -/
theorem rnew_row (l : List Int) (cs : Array Value) (n : Nat) (w : World) (hcs : cs = (l.map fun x => Value.int .i64 x).toArray) (hn : n = l.length) (hok : SizesOk l) :
    Calls Try.prog 11 #[.slice (some ⟨w.heap.size, 0, none⟩) n n] (w.alloc (.cells cs 3)) (RetRNew l (w.alloc (.cells cs 3))) := by
  subst hcs hn
  exact rnew_yes l _ _ hok (is_new w l 3)

set_option maxRecDepth 8000 in
set_option maxHeartbeats 1000000 in
theorem threadPicks_great (z : Int) (cs : List Cl) (a0 : Option Addr) (cap : Nat) (w : World) (hF : Hid (¬ FewC cs)) (hC : Hid (Cls w (.slice a0 cs.length cap) cs)) : Calls Try.prog 3 #[.int .i64 z, .slice a0 cs.length cap] w (Ret (.bool true) w) := by
  go_enter Try.func3, Try.ntmps3
  go_wp2_with fail
  refine (awake_any _).mono ?_
  rintro e w' hr'
  obtain ⟨rfl, s, rfl⟩ := hr'.over
  clear hr'
  go_wp2_with fail
  refine (few_any cs _ _ false (hid_no hF.out) (hC.out.ext (over_below w s))).mono ?_
  rintro e w' hr'
  obtain ⟨rfl, s1, rfl⟩ := hr'.over
  clear hr'
  go_wp2_with fail
  refine (awake_any _).mono ?_
  rintro e w' hr'
  obtain ⟨rfl, s2, rfl⟩ := hr'.over
  clear hr'
  go_wp2
  go_ret
  exact Ret.mk (by repeat (first | exact ext_refl _ | apply ext_over))

set_option maxRecDepth 8000 in
set_option maxHeartbeats 2000000 in
theorem threadPicks_bad (z : Int) (cs : List Cl) (a0 : Option Addr) (cap : Nat) (w : World) (hF : Hid (FewC cs)) (hz : z < 1 ∨ 4096 < z) (hC : Hid (Cls w (.slice a0 cs.length cap) cs)) : Calls Try.prog 3 #[.int .i64 z, .slice a0 cs.length cap] w (Ret (.bool true) w) := by
  have HZ := Lib.hid hz
  clear hz
  go_enter Try.func3, Try.ntmps3
  go_wp2_with fail
  refine (awake_any _).mono ?_
  rintro e w' hr'
  obtain ⟨rfl, s, rfl⟩ := hr'.over
  clear hr'
  go_wp2_with fail
  refine (few_any cs _ _ true (hid_yes hF.out) (hC.out.ext (over_below w s))).mono ?_
  rintro e w' hr'
  obtain ⟨rfl, s1, rfl⟩ := hr'.over
  clear hr'
  go_wp2_with fail
  refine (new_law [8] _ _ (by first | exact over_below w _ | exact ext_over _ (over_below w s)) rfl rfl ok8).mono ?_
  rintro e X ⟨lo, hi, L, rfl, _, hX, _⟩
  have HX := Lib.hid hX
  clear hX
  go_wp2_with fail
  refine (rnew_row [8] _ _ X rfl rfl ok8).mono ?_
  rintro e X2 ⟨R, rfl, _, hx⟩
  have HX2 := Lib.hid (ext_trans (ext_alloc _ HX.out) hx)
  clear hx
  unfold refV
  go_wp2_with fail
  refine (lists_no L.bm z HZ.out _).mono ?_
  rintro e X3 ⟨rfl, rfl⟩
  rcases HZ.out with h1 | h1
  · have q1 : decide (z < 1) = true := by simp; omega
    go_wp2
    go_ret
    exact Ret.mk (ext_alloc _ HX2.out)
  · have q1 : decide (z < 1) = false := by simp; omega
    have q2 : decide (4096 < z) = true := by simp; omega
    go_wp2
    go_ret
    exact Ret.mk (ext_alloc _ HX2.out)

/-! The long way. -/

def PlRel (n lo hi : Nat) (L : Lay) (q bx bv bf : Nat) (w : World) (i : Value) (wr : World) : Prop :=
  ∃ (k : Nat) (S : WS) (M : MS) (R : RL) (vb vl vt : Value), k ≤ n ∧ i = .int .i64 (k : Int) ∧ S.n ≤ 4096 ∧ PlIn lo hi L q bx bv bf S M R vb vl vt w wr
def PeRel (lo hi : Nat) (L : Lay) (q bx bv bf : Nat) (S : WS) (M : MS) (R : RL) (vb vl vt : Value) (w : World) (i : Value) (wr : World) : Prop :=
  ∃ k : Nat, k ≤ 8 ∧ i = .int .i64 (k : Int) ∧ PlIn lo hi L q bx bv bf S M R vb vl vt w wr
theorem busyR {D : Nat → Prop} {lo hi : Nat} {L : Lay} {q : Nat} {M : MS} {S : WS} {w wr : World} (h : LawIn D lo hi L q M S w wr) : Calls Try.prog 21 #[.pointer (some ⟨q + 2, 0, none⟩)] wr (Ret (.bool S.busy) wr) :=
  (lawBusy h _ rfl).mono fun _ _ ⟨h1, h2⟩ => ⟨h1, by rw [← h2]; exact ext_refl _⟩
theorem waitsR {D : Nat → Prop} {lo hi : Nat} {L : Lay} {q : Nat} {M : MS} {S : WS} {w wr : World} (h : LawIn D lo hi L q M S w wr) : Calls Try.prog 22 #[.pointer (some ⟨q + 2, 0, none⟩)] wr (Ret (.int .i64 (S.q.length : Int)) wr) :=
  (lawWaits h _ rfl).mono fun _ _ ⟨h1, h2⟩ => ⟨h1, by rw [← h2]; exact ext_refl _⟩

set_option maxRecDepth 8000 in
set_option maxHeartbeats 16000000 in
theorem threadPicks_good (n : Nat) (cs : List Cl) (a0 : Option Addr) (cap : Nat) (w : World) (hF : Hid (FewC cs)) (h1 : 1 ≤ n) (h2 : n ≤ 4096) (hC : Hid (Cls w (.slice a0 cs.length cap) cs)) : Calls Try.prog 3 #[.int .i64 (n : Int), .slice a0 cs.length cap] w (Ret (.bool true) w) := by
  have q1 : decide ((n : Int) < 1) = false := by simp; omega
  have q2 : decide (4096 < (n : Int)) = false := by simp; omega
  have h80 := hF.out.2
  go_enter Try.func3, Try.ntmps3
  go_wp2_with fail
  refine (awake_any _).mono ?_
  rintro e w' hr'
  obtain ⟨rfl, s, rfl⟩ := hr'.over
  clear hr'
  go_wp2_with fail
  refine (few_any cs _ _ true (hid_yes hF.out) (hC.out.ext (over_below w s))).mono ?_
  rintro e w' hr'
  obtain ⟨rfl, s1, rfl⟩ := hr'.over
  clear hr'
  go_wp2_with fail
  refine (new_law [8] _ _ (by first | exact over_below w _ | exact ext_over _ (over_below w s)) rfl rfl ok8).mono ?_
  rintro e X ⟨lo, hi, L, rfl, hM, hX, hlo⟩
  have HM : Hid (MemIn lo hi L (M0 [8] 1) X) := Lib.hid hM
  have HX := Lib.hid hX
  clear hM hX
  go_wp2_with fail
  refine (rnew_row [8] _ _ X rfl rfl ok8).mono ?_
  rintro e X2 ⟨R, rfl, hr, hx⟩
  have HR : Hid (RefIn (X.heap.size + 1 ≤ ·) R (M0 [8] 1) X2) := Lib.hid (by simpa using hr)
  have HX2 := Lib.hid (ext_trans (ext_alloc _ (ext_refl X)) hx)
  clear hr hx
  unfold refV
  obtain ⟨bx, hbx⟩ : ∃ bx, X2.heap.size = bx := ⟨_, rfl⟩
  have hbxe := heap_at X2 (.cells #[.slice R.wa (M0 [8] 1).n R.wc, .slice R.ea (M0 [8] 1).n R.ec, .int .i64 (M0 [8] 1).ct] 33) bx hbx.symm
  have hhix : hi ≤ X.heap.size := HM.out.top
  have hX2s : X.heap.size ≤ bx := by rw [← hbx]; exact HX2.out.size
  have hwX : w.heap.size ≤ X.heap.size := HX.out.size
  have HQ : Hid ((X2.alloc (.cells #[.slice R.wa (M0 [8] 1).n R.wc, .slice R.ea (M0 [8] 1).n R.ec, .int .i64 (M0 [8] 1).ct] 33)).heap.size = bx + 1) := Lib.hid (by simp [hbx])
  have HB1 := Lib.hid hbxe
  have HBX := Lib.hid hbx
  clear hbx hbxe
  go_wp2_with fail
  rw [HBX.out]
  refine (lists_lo L.bm (bx + 1) (n : Int) n rfl h1 h2 _ HQ.out).mono ?_
  rintro e X3 ⟨rfl, hW, hx, hs⟩
  have HW := Lib.hid hW
  have HX3 := Lib.hid hx
  have HS3 := Lib.hid hs
  clear hW hx hs
  go_wp2_with fail
  have hv0 := heap_at X3 (.cells #[.int .i64 (n : Int), .slice none 0 0, .bool false, .slice none 0 0, .slice none 0 0] 42) (bx + 4) (by rw [HS3.out])
  have HV0 := Lib.hid hv0
  clear hv0
  rw [show X3.heap.size = bx + 4 from HS3.out]
  refine (cap_int ((((HM.out.ext HX2.out).alloc _).ext HX3.out).alloc _) 0 1#64 (by decide) (by decide) (Lib.hid rfl)).mono ?_
  rintro e w' ⟨rfl, hx⟩
  have HX4 := Lib.hid hx
  clear hx
  obtain ⟨bf, hbf⟩ : ∃ bf, w'.heap.size = bf := ⟨_, rfl⟩
  have HBF := Lib.hid hbf
  clear hbf
  go_wp2
  rw [HBF.out]
  have hP : PlIn lo hi L (bx + 1) bx (bx + 4) bf ⟨n, [], false, [], []⟩ (M0 [8] 1) R (.slice none 0 0) (.slice none 0 0) (.slice none 0 0) w (w'.alloc (.cells #[.int .i64 0, .int .u64 (U 1#64)] 45)) := by
    have hXX : Ext X2 (w'.alloc (.cells #[.int .i64 0, .int .u64 (U 1#64)] 45)) := ext_alloc _ (ext_trans (ext_alloc _ (ext_trans (ext_alloc _ (ext_refl X2)) HX3.out)) HX4.out)
    have hX3 : Ext X3 (w'.alloc (.cells #[.int .i64 0, .int .u64 (U 1#64)] 45)) := ext_alloc _ (ext_trans (ext_alloc _ (ext_refl X3)) HX4.out)
    have hz4 := HX4.out.size
    simp only [World.size_alloc, HS3.out] at hz4
    have hbf := HBF.out
    have hbs := HBX.out
    have hbd : ∀ k, PlD lo hi (bx + 1) bx (bx + 4) k → k < bx + 5 := fun k hk => by unfold PlD PkD at hk; omega
    refine ⟨⟨HM.out.ext (ext_trans HX2.out hXX), (HW.out _ (.inl (.inr (.inl rfl))) (.inl (.inr (.inr rfl)))).ext hX3, ext_trans (ext_trans HX.out HX2.out) hXX, fun k h1 h2 => .inl (.inl ⟨h1, h2⟩), fun k hk => by have := hbd k hk; simp; omega, by omega, hlo, by omega⟩, ?_, ?_, ?_, ⟨⟨[], RowB.nil _ _, trivial⟩, ⟨_, _, _, rfl⟩, ⟨_, _, _, rfl⟩, fun h => (by cases h), fun h => (by cases h)⟩, heap_at _ _ _ hbf.symm, ⟨fun l hl => (by cases hl), by simp⟩, ⟨rfl, rfl⟩, by omega, by omega, by omega, by omega, by omega⟩
    · exact HR.out.only hXX (fun b h1 h2 h3 => by unfold PlD PkD at h3; omega) (fun b h1 h3 => by have := hbd b h3; simp at h1; omega)
    · exact ((ext_trans HX3.out hX3).block bx (by rw [HQ.out]; omega)).trans HB1.out
    · exact ((ext_alloc _ HX4.out).block (bx + 4) (by simp [HS3.out])).trans HV0.out
  have HP := Lib.hid hP
  clear hP HM HX HR HX2 HQ HB1 HBX HW HX3 HS3 HV0 HX4 HBF
  generalize w'.alloc _ = W at HP ⊢
  generalize hqe : bx + 1 = q at HP ⊢
  generalize hve : bx + 4 = bv at HP ⊢
  clear hqe hve
  generalize M0 [8] 1 = MM at HP ⊢
  go_loopw [13] (fun i wr => PlRel cs.length lo hi L q bx bv bf w i wr) (fun i _ => ((cs.length : Int) - intOf i).toNat)
  case atStart => exact ⟨0, _, _, _, _, _, _, Nat.zero_le _, rfl, h2, HP.out⟩
  case round =>
    clear HP
    obtain ⟨k, S, M, R1, vb, vl, vt, hk, rfl, hSn, hP⟩ := hrel
    have HP := Lib.hid hP
    clear hP
    obtain ⟨ba, bc, rfl⟩ := HP.out.vs.slice
    obtain ⟨la, ln, lc, rfl⟩ := HP.out.vs.l
    obtain ⟨ta, tn, tc, rfl⟩ := HP.out.vs.t
    have hSq : S.q.length ≤ 5000 := by have := HP.out.law.work.room; omega
    by_cases hlt : k < cs.length
    · have q3 : decide ((k : Int) < (cs.length : Int)) = true := by simp; omega
      obtain ⟨b, o, rfl, hb, hcells⟩ := hC.out.at (by omega)
      obtain ⟨hk0, hs0, u, hl0, hu⟩ := hcells k hlt
      obtain ⟨ua, uc, rfl⟩ : ∃ a c, u = .slice a (cN cs k).l.length c := by
        obtain ⟨a, c, e, _⟩ := hu
        exact ⟨a, c, e⟩
      have hl10 : (cN cs k).l.length ≤ 10 := hF.out.1 k hlt (by omega)
      clear hcells
      generalize (cN cs k).l = lk at hl0 hu hl10
      generalize (cN cs k).k = kk at hk0
      generalize (cN cs k).s = sk at hs0
      have C := Lib.hid (And.intro hk0 (And.intro hs0 hl0))
      have HU := Lib.hid hu
      have d0 := ext_cell HP.out.law.ext hk0
      have d1 := ext_cell HP.out.law.ext hs0
      have d2 := ext_cell HP.out.law.ext hl0
      have db := cell_lt d0
      clear hk0 hs0 hl0 hu
      obtain ⟨c0, c1, c2, c3, c4, cz, ll⟩ := fiv_of HP.out.vw
      by_cases hk1 : kk = 1
      · have q4 : (kk == 1) = true := by simpa using hk1
        subst hk1
        obtain ⟨okb, S2, ho, hs1, hs2, hs3⟩ : ∃ (okb : Bool) (S2 : WS), ((okb = true ∧ S.q.length < S.n ∧ S2 = S.give lk) ∨ (okb = false ∧ S.n ≤ S.q.length ∧ S2 = S)) ∧ S2.n = S.n ∧ S2.busy = S.busy ∧ Sm S2 := by
          by_cases hr : S.q.length < S.n
          · exact ⟨true, S.give lk, .inl ⟨rfl, hr, rfl⟩, rfl, rfl, HP.out.sm.give lk hl10⟩
          · exact ⟨false, S, .inr ⟨rfl, by omega, rfl⟩, rfl, rfl, HP.out.sm⟩
        have HO := Lib.hid ho
        have HS2 := Lib.hid (And.intro hs1 (And.intro hs2 hs3))
        clear ho hs1 hs2 hs3
        go_wp2
        refine wp_region_ways (fun y => ∃ s, y = over wr s) (by kernel_rfl) (over_of (ext_drew (ext_refl wr))) ?_
        refine ways_reads [0, 1, 2, 3, 4, 5] (by kernel_rfl) ?_
        simp only [pickL, List.map_cons, List.map_nil, List.getD_cons_zero, List.getD_cons_succ]
        repeat (go_big_quiet_step (fail))
        refine wpQuiet_nil ?_
        have HPT0 := HP
        clear c0 c1 c2 c3 c4 cz ll d0 d1 d2 db
        refine ways_fork 6 (by kernel_rfl) ?_ (ways_act 10 (by kernel_rfl) ?_)
        · simp only [pickL, List.map_cons, List.map_nil, List.getD_cons_zero, List.getD_cons_succ]
          go_wp2_with (go_at_call 14; refine (rgive_any (HP.out.vs.ext (ext_drew (ext_refl wr))) lk _ HU.out okb S2 HO hSq (fun k hk => HP.out.law.bd k hk)).mono ?_; rintro en X1 ⟨ba2, bc2, rfl, hv, hx⟩; have HV1 := Lib.hid hv; have HX1 := Lib.hid (ext_trans (ext_drew (ext_refl wr)) hx); clear hv hx)
          refine mixQ_mk (over_of HX1.out) (ways_reads [7, 8, 9] (by kernel_rfl) ?_)
          simp only [pickL, List.map_cons, List.map_nil, List.getD_cons_zero, List.getD_cons_succ]
          repeat (go_big_quiet_step (fail))
          refine wpQuiet_nil (ways_act 10 (by kernel_rfl) ?_)
          simp only [pickL, List.map_cons, List.map_nil, List.getD_cons_zero, List.getD_cons_succ]
          go_wp2
          refine mixQ_mk (over_of (ext_alloc _ HX1.out)) (ways_act 11 (by kernel_rfl) ?_)
          simp only [pickL, List.map_cons, List.map_nil, List.getD_cons_zero, List.getD_cons_succ]
          go_wp2
          refine mixQ_mk (over_of (ext_alloc _ HX1.out)) (ways_reads [12] (by kernel_rfl) ?_)
          simp only [pickL, List.map_cons, List.map_nil, List.getD_cons_zero, List.getD_cons_succ]
          repeat (go_big_quiet_step (fail))
          refine wpQuiet_nil (ways_end (by kernel_rfl) ?_)
          have HBD := Lib.hid (heap_at X1 (.cells #[.int .i64 (S.n : Int), .slice ba2 S2.q.length bc2, .bool S.busy, .slice la ln lc, .slice ta tn tc] 42) X1.heap.size rfl)
          have HPT := Lib.hid (HP.out.grow (ext_alloc (.cells #[.int .i64 (S.n : Int), .slice ba2 S2.q.length bc2, .bool S.busy, .slice la ln lc, .slice ta tn tc] 42) HX1.out))
          have HV2 := Lib.hid (HV1.out.ext (ext_alloc (.cells #[.int .i64 (S.n : Int), .slice ba2 S2.q.length bc2, .bool S.busy, .slice la ln lc, .slice ta tn tc] 42) (ext_refl X1)))
          have hbdw : wr.heap.size ≤ X1.heap.size := HX1.out.size
          generalize X1.heap.size = bd at HBD hbdw ⊢
          generalize hT6 : X1.alloc _ = T6 at HBD HPT HV2 ⊢
          clear hT6 HV1 HX1 X1
          have e0 := ext_cell HPT.out.law.ext C.out.1
          have e1 := ext_cell HPT.out.law.ext C.out.2.1
          have e2 := ext_cell HPT.out.law.ext C.out.2.2
          have eb := cell_lt e0
          have hlv := HV2.out
          have hPT := HPT.out
          obtain ⟨g0, g1, g2, g3, g4, gz, gl⟩ := fiv_of HBD.out
          obtain ⟨c0, c1, c2, c3, c4, cz, ll⟩ := fiv_of hPT.vw
          obtain ⟨hL7, _, _, _⟩ := hPT.putV (.int .i64 (S.n : Int)) (.slice ba2 S2.q.length bc2) (.bool S.busy) (.slice la ln lc) (.slice ta tn tc)
          have HL7 := Lib.hid hL7
          have hne : bv ≠ bd := fun h => by have := heap_lt HPT0.out.vw; omega
          have hbv1 : b ≠ bv := by have := HPT0.out.ord; omega
          have hbv2 : bv ≠ b := fun h => hbv1 h.symm
          clear hlv hPT hL7
          unfold put5 at HL7
          go_wp2_with fail
          refine (wgive_any (HL7.out) lk _ (HU.out.ext HL7.out.ext) (by omega) okb S2 HO).mono ?_
          rintro en T8 ⟨rfl, hL8, hf8⟩
          have hP8 : PlIn lo hi L q bx bv bf S2 M R1 (.slice ba2 S2.q.length bc2) (.slice la ln lc) (.slice ta tn tc) w T8 := by
            refine HPT.out.gave (S' := S2) HV2.out hL8 ?_ HS2.out.2.2
            rw [HS2.out.1, HS2.out.2.1]
            exact hf8
          have HP8 := Lib.hid hP8
          clear hP8 hL8 hf8 HL7 HPT HV2 HBD HP c0 c1 c2 c3 c4 cz ll g0 g1 g2 g3 g4 gz gl HPT0
          cases okb with
          | true =>
            simp only [if_true]
            obtain ⟨f0, f1, f2, f3, f4, fz, fl⟩ := fiv_of HP8.out.vw
            have E1 : Hid (∀ Y, LawIn (PlD lo hi q bx bv) lo hi L q M S2 w Y → Calls Try.prog 21 #[.pointer (some ⟨q + 2, 0, none⟩)] Y (Ret (.bool S2.busy) Y)) := Lib.hid fun _ h => busyR h
            have E2 : Hid (∀ Y, LawIn (PlD lo hi q bx bv) lo hi L q M S2 w Y → Calls Try.prog 22 #[.pointer (some ⟨q + 2, 0, none⟩)] Y (Ret (.int .i64 (S2.q.length : Int)) Y)) := Lib.hid fun _ h => waitsR h
            have hbb : (S2.busy != S2.busy) = false := by simp
            have hww : ((S2.q.length : Int) != (S2.q.length : Int)) = false := by simp
            go_wp2
            refine wp_region_over (by kernel_rfl) (by kernel_rfl) ?_
            repeat (go_big_quiet_step ((first | (go_at_call 21; exact over_call (E1.out _ (HP8.out.law.over _))) | (go_at_call 22; exact over_call (E2.out _ (HP8.out.law.over _))))))
            refine wpQuiet_nil ?_
            intro _ hw'
            obtain ⟨s9, hw''⟩ := hw'
            subst hw''
            clear f0 f1 f2 f3 f4 fz fl
            go_wp2
            exact ⟨⟨k + 1, _, _, _, _, _, _, by omega, by go_num, by rw [HS2.out.1]; exact hSn, HP8.out.grow (over_below _ s9)⟩, by simp [intOf]; omega⟩

          | false =>
            simp only [Bool.false_eq_true, if_false]
            obtain ⟨f0, f1, f2, f3, f4, fz, fl⟩ := fiv_of HP8.out.vw
            have E1 : Hid (∀ Y, LawIn (PlD lo hi q bx bv) lo hi L q M S2 w Y → Calls Try.prog 21 #[.pointer (some ⟨q + 2, 0, none⟩)] Y (Ret (.bool S2.busy) Y)) := Lib.hid fun _ h => busyR h
            have E2 : Hid (∀ Y, LawIn (PlD lo hi q bx bv) lo hi L q M S2 w Y → Calls Try.prog 22 #[.pointer (some ⟨q + 2, 0, none⟩)] Y (Ret (.int .i64 (S2.q.length : Int)) Y)) := Lib.hid fun _ h => waitsR h
            have hbb : (S2.busy != S2.busy) = false := by simp
            have hww : ((S2.q.length : Int) != (S2.q.length : Int)) = false := by simp
            go_wp2
            refine wp_region_over (by kernel_rfl) (by kernel_rfl) ?_
            repeat (go_big_quiet_step ((first | (go_at_call 21; exact over_call (E1.out _ (HP8.out.law.over _))) | (go_at_call 22; exact over_call (E2.out _ (HP8.out.law.over _))))))
            refine wpQuiet_nil ?_
            intro _ hw'
            obtain ⟨s9, hw''⟩ := hw'
            subst hw''
            clear f0 f1 f2 f3 f4 fz fl
            go_wp2
            exact ⟨⟨k + 1, _, _, _, _, _, _, by omega, by go_num, by rw [HS2.out.1]; exact hSn, HP8.out.grow (over_below _ s9)⟩, by simp [intOf]; omega⟩
        · simp only [pickL, List.map_cons, List.map_nil, List.getD_cons_zero, List.getD_cons_succ]
          go_wp2
          obtain ⟨V, hV⟩ : ∃ V, V = wr.drew.alloc (.cells #[.int .i64 0, .slice none 0 0, .bool false, .slice none 0 0, .slice none 0 0] 42) := ⟨_, rfl⟩
          obtain ⟨bd, hbd⟩ : ∃ bd, bd = wr.heap.size := ⟨_, rfl⟩
          first | rw [← hV, ← hbd] | (rw [show (wr.alloc (.cells #[.int .i64 0, .slice none 0 0, .bool false, .slice none 0 0, .slice none 0 0] 42)).drew = wr.drew.alloc (.cells #[.int .i64 0, .slice none 0 0, .bool false, .slice none 0 0, .slice none 0 0] 42) from rfl, ← hV, ← hbd])
          have HEV : Hid (Ext wr V) := Lib.hid (by rw [hV]; exact ext_alloc _ (ext_drew (ext_refl wr)))
          have HBD0 : Hid (V.heap[bd]? = some (.cells #[.int .i64 0, .slice none 0 0, .bool false, .slice none 0 0, .slice none 0 0] 42)) := Lib.hid (by rw [hV]; exact heap_at _ _ _ hbd)
          have hbdw : wr.heap.size ≤ bd := by rw [hbd]; exact Nat.le_refl _
          clear hV hbd
          refine mixQ_mk (over_of HEV.out) (ways_act 6 (by kernel_rfl) ?_)
          simp only [pickL, List.map_cons, List.map_nil, List.getD_cons_zero, List.getD_cons_succ]
          have lbd := heap_lt HBD0.out
          have HVV : Hid (VSt (fun k => PlD lo hi q bx bv k ∨ k = bd) S (.slice ba S.q.length bc) (.slice la ln lc) (.slice ta tn tc) w V) := Lib.hid ((HP.out.vs.more fun k hk => ⟨fun h => h.resolve_right (by omega), .inl⟩).ext HEV.out)
          go_wp2_with (go_at_call 14; refine (rgive_any HVV.out lk _ HU.out okb S2 HO hSq (fun k hk => by rcases hk with hk | rfl; (have := HP.out.law.bd k hk; have := HEV.out.size; omega); exact lbd)).mono ?_; rintro en X1 ⟨ba2, bc2, rfl, hv, hx⟩; have HV1 := Lib.hid hv; have HX1 := Lib.hid (ext_trans HEV.out hx); have HBD1 := Lib.hid ((hx.block bd lbd).trans HBD0.out); clear hv hx)
          refine mixQ_mk (over_of HX1.out) (ways_reads [7, 8, 9] (by kernel_rfl) ?_)
          simp only [pickL, List.map_cons, List.map_nil, List.getD_cons_zero, List.getD_cons_succ]
          repeat (go_big_quiet_step (fail))
          refine wpQuiet_nil (ways_act 11 (by kernel_rfl) ?_)
          simp only [pickL, List.map_cons, List.map_nil, List.getD_cons_zero, List.getD_cons_succ]
          obtain ⟨p0, p1, p2, p3, p4, pz, pl⟩ := fiv_of HBD1.out
          have hxt : Ext wr (put5 bd (.int .i64 (S.n : Int)) (.slice ba2 S2.q.length bc2) (.bool S.busy) (.slice la ln lc) (.slice ta tn tc) X1) := (put5_fd _ _ _ _ _).below HX1.out (fun k hk => by omega)
          have HXT := Lib.hid hxt
          have HBD := Lib.hid (put5_block (.int .i64 (S.n : Int)) (.slice ba2 S2.q.length bc2) (.bool S.busy) (.slice la ln lc) (.slice ta tn tc) HBD1.out)
          have HPT := Lib.hid (HP.out.grow hxt)
          have HV2 : Hid (VSt (PlD lo hi q bx bv) S2 (.slice ba2 S2.q.length bc2) (.slice la ln lc) (.slice ta tn tc) w (put5 bd (.int .i64 (S.n : Int)) (.slice ba2 S2.q.length bc2) (.bool S.busy) (.slice la ln lc) (.slice ta tn tc) X1)) := Lib.hid ((HV1.out.fr ((put5_fd _ _ _ _ _).wide fun _ hk => .inr hk)).mono fun _ hk => .inl hk)
          clear hxt
          unfold put5 at HXT HBD HPT HV2
          go_wp2
          refine mixQ_mk (over_of HXT.out) (ways_reads [12] (by kernel_rfl) ?_)
          simp only [pickL, List.map_cons, List.map_nil, List.getD_cons_zero, List.getD_cons_succ]
          repeat (go_big_quiet_step (fail))
          refine wpQuiet_nil (ways_end (by kernel_rfl) ?_)
          clear p0 p1 p2 p3 p4 pz pl HXT HBD1 HX1 HV1 HVV HEV HBD0 lbd
          replace HBD := HBD.out
          replace HPT := HPT.out
          replace HV2 := HV2.out
          generalize (World.setCell _ (⟨bd, 4, none⟩ : Addr) _) = T6 at HBD HPT HV2 ⊢
          replace HBD := Lib.hid HBD
          replace HPT := Lib.hid HPT
          replace HV2 := Lib.hid HV2
          have e0 := ext_cell HPT.out.law.ext C.out.1
          have e1 := ext_cell HPT.out.law.ext C.out.2.1
          have e2 := ext_cell HPT.out.law.ext C.out.2.2
          have eb := cell_lt e0
          have hlv := HV2.out
          have hPT := HPT.out
          obtain ⟨g0, g1, g2, g3, g4, gz, gl⟩ := fiv_of HBD.out
          obtain ⟨c0, c1, c2, c3, c4, cz, ll⟩ := fiv_of hPT.vw
          obtain ⟨hL7, _, _, _⟩ := hPT.putV (.int .i64 (S.n : Int)) (.slice ba2 S2.q.length bc2) (.bool S.busy) (.slice la ln lc) (.slice ta tn tc)
          have HL7 := Lib.hid hL7
          have hne : bv ≠ bd := fun h => by have := heap_lt HPT0.out.vw; omega
          have hbv1 : b ≠ bv := by have := HPT0.out.ord; omega
          have hbv2 : bv ≠ b := fun h => hbv1 h.symm
          clear hlv hPT hL7
          unfold put5 at HL7
          go_wp2_with fail
          refine (wgive_any (HL7.out) lk _ (HU.out.ext HL7.out.ext) (by omega) okb S2 HO).mono ?_
          rintro en T8 ⟨rfl, hL8, hf8⟩
          have hP8 : PlIn lo hi L q bx bv bf S2 M R1 (.slice ba2 S2.q.length bc2) (.slice la ln lc) (.slice ta tn tc) w T8 := by
            refine HPT.out.gave (S' := S2) HV2.out hL8 ?_ HS2.out.2.2
            rw [HS2.out.1, HS2.out.2.1]
            exact hf8
          have HP8 := Lib.hid hP8
          clear hP8 hL8 hf8 HL7 HPT HV2 HBD HP c0 c1 c2 c3 c4 cz ll g0 g1 g2 g3 g4 gz gl HPT0
          cases okb with
          | true =>
            simp only [if_true]
            obtain ⟨f0, f1, f2, f3, f4, fz, fl⟩ := fiv_of HP8.out.vw
            have E1 : Hid (∀ Y, LawIn (PlD lo hi q bx bv) lo hi L q M S2 w Y → Calls Try.prog 21 #[.pointer (some ⟨q + 2, 0, none⟩)] Y (Ret (.bool S2.busy) Y)) := Lib.hid fun _ h => busyR h
            have E2 : Hid (∀ Y, LawIn (PlD lo hi q bx bv) lo hi L q M S2 w Y → Calls Try.prog 22 #[.pointer (some ⟨q + 2, 0, none⟩)] Y (Ret (.int .i64 (S2.q.length : Int)) Y)) := Lib.hid fun _ h => waitsR h
            have hbb : (S2.busy != S2.busy) = false := by simp
            have hww : ((S2.q.length : Int) != (S2.q.length : Int)) = false := by simp
            go_wp2
            refine wp_region_over (by kernel_rfl) (by kernel_rfl) ?_
            repeat (go_big_quiet_step ((first | (go_at_call 21; exact over_call (E1.out _ (HP8.out.law.over _))) | (go_at_call 22; exact over_call (E2.out _ (HP8.out.law.over _))))))
            refine wpQuiet_nil ?_
            intro _ hw'
            obtain ⟨s9, hw''⟩ := hw'
            subst hw''
            clear f0 f1 f2 f3 f4 fz fl
            go_wp2
            exact ⟨⟨k + 1, _, _, _, _, _, _, by omega, by go_num, by rw [HS2.out.1]; exact hSn, HP8.out.grow (over_below _ s9)⟩, by simp [intOf]; omega⟩

          | false =>
            simp only [Bool.false_eq_true, if_false]
            obtain ⟨f0, f1, f2, f3, f4, fz, fl⟩ := fiv_of HP8.out.vw
            have E1 : Hid (∀ Y, LawIn (PlD lo hi q bx bv) lo hi L q M S2 w Y → Calls Try.prog 21 #[.pointer (some ⟨q + 2, 0, none⟩)] Y (Ret (.bool S2.busy) Y)) := Lib.hid fun _ h => busyR h
            have E2 : Hid (∀ Y, LawIn (PlD lo hi q bx bv) lo hi L q M S2 w Y → Calls Try.prog 22 #[.pointer (some ⟨q + 2, 0, none⟩)] Y (Ret (.int .i64 (S2.q.length : Int)) Y)) := Lib.hid fun _ h => waitsR h
            have hbb : (S2.busy != S2.busy) = false := by simp
            have hww : ((S2.q.length : Int) != (S2.q.length : Int)) = false := by simp
            go_wp2
            refine wp_region_over (by kernel_rfl) (by kernel_rfl) ?_
            repeat (go_big_quiet_step ((first | (go_at_call 21; exact over_call (E1.out _ (HP8.out.law.over _))) | (go_at_call 22; exact over_call (E2.out _ (HP8.out.law.over _))))))
            refine wpQuiet_nil ?_
            intro _ hw'
            obtain ⟨s9, hw''⟩ := hw'
            subst hw''
            clear f0 f1 f2 f3 f4 fz fl
            go_wp2
            exact ⟨⟨k + 1, _, _, _, _, _, _, by omega, by go_num, by rw [HS2.out.1]; exact hSn, HP8.out.grow (over_below _ s9)⟩, by simp [intOf]; omega⟩
      · have q4 : (kk == 1) = false := by simpa using hk1
        by_cases hk2 : kk = 2
        · have q5 : (kk == 2) = true := by simpa using hk2
          clear c0 c1 c2 c3 c4 cz ll d1 d2
          go_wp2_with fail
          refine (bump_int HP.out.law.mem 0 (M.ep 0 + 1#64) (by decide) (by rw [HP.out.mn.1]; decide) (Lib.hid rfl)).mono ?_
          rintro en Y ⟨rfl, hM1, hF1⟩
          have HL1 : Hid (LawIn (PlD lo hi q bx bv) lo hi L q (M.bump 0) S w Y) := Lib.hid (HP.out.law.turned hM1 hF1)
          have HF1 := Lib.hid hF1
          have hbxY := (hF1.block bx (heap_lt HP.out.box) (.inr HP.out.ord.1)).trans HP.out.box
          have HBY := Lib.hid hbxY
          have x0 : Y.cell? ⟨bx, 0, none⟩ = some (.slice R1.wa M.n R1.wc) := cell_at hbxY rfl
          have x1 : Y.cell? ⟨bx, 1, none⟩ = some (.slice R1.ea M.n R1.ec) := cell_at hbxY rfl
          have x2 : Y.cell? ⟨bx, 2, none⟩ = some (.int .i64 M.ct) := cell_at hbxY rfl
          have xl := heap_lt hbxY
          have HRY := Lib.hid (HP.out.ref.fd (FD.of_fr (D := fun k => lo ≤ k ∧ k < hi) hF1 fun _ h1 h2 => ⟨h1, h2⟩) (fun k hk => .inl (.inl hk)))
          clear hM1 hF1 d0 db hbxY
          go_wp2_with fail
          refine (rbump_yes HRY.out 0 (by rw [HP.out.mn.1]; decide)).mono ?_
          rintro en Y2 ⟨R2, rfl, hr2, hx2⟩
          unfold refV
          have hP8 := HP.out.bumped HL1.out HF1.out hx2 hr2 ⟨HP.out.mn.1, HP.out.mn.2⟩
          have hbxY := (hx2.block bx xl).trans HBY.out
          clear x0 x1 x2 xl
          have x0 : Y2.cell? ⟨bx, 0, none⟩ = some (.slice R1.wa M.n R1.wc) := cell_at hbxY rfl
          have x1 : Y2.cell? ⟨bx, 1, none⟩ = some (.slice R1.ea M.n R1.ec) := cell_at hbxY rfl
          have x2 : Y2.cell? ⟨bx, 2, none⟩ = some (.int .i64 M.ct) := cell_at hbxY rfl
          have xz := fun o => free_at (o := o) hbxY
          have xl := heap_lt hbxY
          have HP8 := Lib.hid hP8
          have hnx : bx ≠ Y2.heap.size := by omega
          have hnx1 : bx ≠ Y2.heap.size + 1 := by omega
          clear hr2 hx2 hbxY hP8 HRY HBY HL1 HF1
          go_wp2
          clear x0 x1 x2 xz xl
          replace HP8 := HP8.out
          generalize (World.setCell _ (⟨bx, 2, none⟩ : Addr) _) = T8 at HP8 ⊢
          generalize hT9 : World.alloc _ _ = T9
          have HP9 := Lib.hid (show PlIn lo hi L q bx bv bf S (M.bump 0) R2 (.slice ba S.q.length bc) (.slice la ln lc) (.slice ta tn tc) w T9 by rw [← hT9]; exact HP8.grow (ext_alloc _ (ext_alloc _ (ext_refl T8))))
          clear hT9 HP8 HP

          obtain ⟨f0, f1, f2, f3, f4, fz, fl⟩ := fiv_of HP9.out.vw
          have E1 : Hid (∀ Y, LawIn (PlD lo hi q bx bv) lo hi L q (M.bump 0) S w Y → Calls Try.prog 21 #[.pointer (some ⟨q + 2, 0, none⟩)] Y (Ret (.bool S.busy) Y)) := Lib.hid fun _ h => busyR h
          have E2 : Hid (∀ Y, LawIn (PlD lo hi q bx bv) lo hi L q (M.bump 0) S w Y → Calls Try.prog 22 #[.pointer (some ⟨q + 2, 0, none⟩)] Y (Ret (.int .i64 (S.q.length : Int)) Y)) := Lib.hid fun _ h => waitsR h
          have hbb : (S.busy != S.busy) = false := by simp
          have hww : ((S.q.length : Int) != (S.q.length : Int)) = false := by simp
          refine wp_region_over (by kernel_rfl) (by kernel_rfl) ?_
          repeat (go_big_quiet_step ((first | (go_at_call 21; exact over_call (E1.out _ (HP9.out.law.over _))) | (go_at_call 22; exact over_call (E2.out _ (HP9.out.law.over _))))))
          refine wpQuiet_nil ?_
          intro _ hw'
          obtain ⟨s9, hw''⟩ := hw'
          subst hw''
          clear f0 f1 f2 f3 f4 fz fl
          go_wp2
          exact ⟨⟨k + 1, _, _, _, _, _, _, by omega, by go_num, hSn, HP9.out.grow (over_below _ s9)⟩, by simp [intOf]; omega⟩
        · have q5 : (kk == 2) = false := by simpa using hk2
          clear c0 c1 c2 c3 c4 cz ll d2
          go_wp2_with fail
          refine (cap_int HP.out.law.mem 0 (M.ep 0) (by decide) (by rw [HP.out.mn.1]; decide) (Lib.hid rfl)).mono ?_
          rintro en Y0 ⟨rfl, hx0⟩
          have HPY := Lib.hid (HP.out.grow hx0)
          clear hx0 d0 d1 db
          have d1 := ext_cell HPY.out.law.ext C.out.2.1
          have db := cell_lt d1
          cases sk with
          | true =>
            obtain ⟨p0, p1⟩ := two_cells HPY.out.fst
            have pl := heap_lt HPY.out.fst
            go_wp2_with fail
            clear p0 p1 pl d1 db
            obtain ⟨x, hx⟩ : ∃ x, pickF 0 1#64 M S = x := ⟨_, rfl⟩
            have hkp : PkKeeps M S x := by rw [← hx]; exact pick_keeps HP.out.sm
            obtain ⟨M2, S2, kd, Rr⟩ := x
            have HXK := Lib.hid hx
            have HKP := Lib.hid hkp
            clear hx hkp
            have hb19 := heap_at Y0 (.cells #[.int .i64 0, .int .u64 (U 1#64)] 45) Y0.heap.size rfl
            have HPC := Lib.hid (HPY.out.grow (ext_alloc (.cells #[.int .i64 0, .int .u64 (U 1#64)] 45) (ext_refl Y0)))
            have hbfY : bf < Y0.heap.size := heap_lt HPY.out.fst
            have hord := HP.out.ord
            generalize hY1 : Y0.alloc (.cells #[.int .i64 0, .int .u64 (U 1#64)] 45) = Y1 at hb19 HPC ⊢
            generalize Y0.heap.size = b19 at hb19 hbfY ⊢
            refine (lawPick HPC.out.law 0 1#64 _ HXK).mono ?_
            rintro en Y2 ⟨ra, cp2, rfl, hU2, hL2, hF2⟩
            have hR2 := HPC.out.ref.fd hF2 (fun k hk => .inl hk)
            have hV2 := HPC.out.vs.fr (hF2.wide (E := PlD lo hi q bx bv) fun k hk => .inl hk)
            have hbv2 := (hF2.block bv (heap_lt HPC.out.vw) (by unfold PkD; omega)).trans HPC.out.vw
            have hbx2 := (hF2.block bx (heap_lt HPC.out.box) (by unfold PkD; omega)).trans HPC.out.box
            have hbf2 := (hF2.block bf (heap_lt HPC.out.fst) (by unfold PkD; omega)).trans HPC.out.fst
            have hbc2 := (hF2.block b19 (heap_lt hb19) (by unfold PkD; omega)).trans hb19
            obtain ⟨c0, c1, c2, c3, c4, cz, ll⟩ := fiv_of hbv2
            have x0 : Y2.cell? ⟨bx, 0, none⟩ = some (.slice R1.wa M.n R1.wc) := cell_at hbx2 rfl
            have x1 : Y2.cell? ⟨bx, 1, none⟩ = some (.slice R1.ea M.n R1.ec) := cell_at hbx2 rfl
            have x2 : Y2.cell? ⟨bx, 2, none⟩ = some (.int .i64 M.ct) := cell_at hbx2 rfl
            have xl := heap_lt hbx2
            obtain ⟨k0, k1⟩ := two_cells hbc2
            have kl := heap_lt hbc2
            have HST := Lib.hid (And.intro hU2 (And.intro hL2 (And.intro hR2 (And.intro hV2 (And.intro hbv2 (And.intro hbx2 hbf2))))))
            clear hU2 hL2 hR2 hV2 hbv2 hbx2 hbf2 hbc2 hb19 hF2 hY1 HPY HPC Y0 Y1
            simp only at HST ⊢
            go_wp2_with fail
            have hev := heap_at Y2 (.cells #[.int .i64 (kd : Int), .slice ra Rr.length cp2] 57) Y2.heap.size rfl
            obtain ⟨hU2, hL2, hR2, hV2, hbv2, hbx2, hbf2⟩ := HST.out
            have hX3 := ext_alloc (.cells #[.int .i64 (kd : Int), .slice ra Rr.length cp2] 57) (ext_refl Y2)
            refine (rpick_any (hV2.ext hX3) (hR2.ext hX3) (ext_trans hL2.ext hX3) (fun k hk => by have := hL2.bd k hk; simp; omega) 0 1#64 (by have := HP.out.sm.r; omega) (fun l hl => by have := HP.out.sm.q l hl; omega) _ HXK).mono ?_
            rintro en Y4 ⟨vb4, vl4, vt4, R4, rb, cp4, rfl, hV4, hR4, hU4, hx4⟩
            obtain ⟨ba4, bc4, rfl⟩ := hV4.slice
            obtain ⟨la4, ln4, lc4, rfl⟩ := hV4.l
            obtain ⟨ta4, tn4, tc4, rfl⟩ := hV4.t
            simp only at hV4 hR4 hU4
            unfold wV refV
            have hx24 := ext_trans hX3 hx4
            have HUA := Lib.hid (hU2.fr (.of_ext hx24))
            have HUB := Lib.hid hU4
            have HL4 := Lib.hid (hL2.grow hx24)
            have HR4 := Lib.hid hR4
            have HV4 := Lib.hid hV4
            have hev4 := Lib.hid ((hx4.block _ (heap_lt hev)).trans hev)
            have HBV4 := Lib.hid ((hx24.block bv (heap_lt hbv2)).trans hbv2)
            have HBX4 := Lib.hid ((hx24.block bx (heap_lt hbx2)).trans hbx2)
            have HBF4 := Lib.hid ((hx24.block bf (heap_lt hbf2)).trans hbf2)
            have hlev : bf < Y2.heap.size := heap_lt hbf2
            clear hU2 hL2 hR2 hV2 hbv2 hbx2 hbf2 hV4 hR4 hU4 hx4 hx24 hX3 hev HST c0 c1 c2 c3 c4 cz ll x0 x1 x2 xl k0 k1 kl
            generalize Y2.heap.size = b20 at hev4 hlev ⊢
            go_upto_region 23 with fail
            have hsz4 : b20 < Y4.heap.size := heap_lt hev4.out
            have hX5 : ∀ o1 o2 o3, Ext Y4 (((Y4.alloc o1).alloc o2).alloc o3) := fun _ _ _ => ext_alloc _ (ext_alloc _ (ext_alloc _ (ext_refl Y4)))
            have h21 : (((Y4.alloc (.cells #[.int .i64 (S2.n : Int), .slice ba4 S2.q.length bc4, .bool S2.busy, .slice la4 ln4 lc4, .slice ta4 tn4 tc4] 42)).alloc (.cells #[.slice R4.wa M2.n R4.wc, .slice R4.ea M2.n R4.ec, .int .i64 M2.ct] 33)).alloc (.cells #[.int .i64 (kd : Int), .slice rb Rr.length cp4] 59)).heap[Y4.heap.size]? = some (.cells #[.int .i64 (S2.n : Int), .slice ba4 S2.q.length bc4, .bool S2.busy, .slice la4 ln4 lc4, .slice ta4 tn4 tc4] 42) := by
              rw [Below.heap_alloc _ _ _ (by simp; omega), Below.heap_alloc _ _ _ (by simp)]
              exact heap_at _ _ _ rfl
            have h22 : (((Y4.alloc (.cells #[.int .i64 (S2.n : Int), .slice ba4 S2.q.length bc4, .bool S2.busy, .slice la4 ln4 lc4, .slice ta4 tn4 tc4] 42)).alloc (.cells #[.slice R4.wa M2.n R4.wc, .slice R4.ea M2.n R4.ec, .int .i64 M2.ct] 33)).alloc (.cells #[.int .i64 (kd : Int), .slice rb Rr.length cp4] 59)).heap[Y4.heap.size + 1]? = some (.cells #[.slice R4.wa M2.n R4.wc, .slice R4.ea M2.n R4.ec, .int .i64 M2.ct] 33) := by
              rw [Below.heap_alloc _ _ _ (by simp)]
              exact heap_at _ _ _ (by simp)
            have h23 : (((Y4.alloc (.cells #[.int .i64 (S2.n : Int), .slice ba4 S2.q.length bc4, .bool S2.busy, .slice la4 ln4 lc4, .slice ta4 tn4 tc4] 42)).alloc (.cells #[.slice R4.wa M2.n R4.wc, .slice R4.ea M2.n R4.ec, .int .i64 M2.ct] 33)).alloc (.cells #[.int .i64 (kd : Int), .slice rb Rr.length cp4] 59)).heap[Y4.heap.size + 1 + 1]? = some (.cells #[.int .i64 (kd : Int), .slice rb Rr.length cp4] 59) := heap_at _ _ _ (by simp)
            have hX5' := hX5 (.cells #[.int .i64 (S2.n : Int), .slice ba4 S2.q.length bc4, .bool S2.busy, .slice la4 ln4 lc4, .slice ta4 tn4 tc4] 42) (.cells #[.slice R4.wa M2.n R4.wc, .slice R4.ea M2.n R4.ec, .int .i64 M2.ct] 33) (.cells #[.int .i64 (kd : Int), .slice rb Rr.length cp4] 59)
            generalize (((Y4.alloc (.cells #[.int .i64 (S2.n : Int), .slice ba4 S2.q.length bc4, .bool S2.busy, .slice la4 ln4 lc4, .slice ta4 tn4 tc4] 42)).alloc (.cells #[.slice R4.wa M2.n R4.wc, .slice R4.ea M2.n R4.ec, .int .i64 M2.ct] 33)).alloc (.cells #[.int .i64 (kd : Int), .slice rb Rr.length cp4] 59)) = T5 at h21 h22 h23 hX5' ⊢
            have hv5 := (hX5'.block bv (heap_lt HBV4.out)).trans HBV4.out
            have hx5 := (hX5'.block bx (heap_lt HBX4.out)).trans HBX4.out
            have hf5 := (hX5'.block bf (heap_lt HBF4.out)).trans HBF4.out
            have he5 := (hX5'.block b20 (heap_lt hev4.out)).trans hev4.out
            have HPN := Lib.hid (PlIn.next HP.out.ord (HL4.out.grow hX5') (HR4.out.ext hX5') (HV4.out.ext hX5') hx5 hv5 hf5 HKP.out.sm (by have h8 := HKP.out.n; have h9 := HKP.out.z; simp only at h8 h9; rw [h8, h9]; exact HP.out.mn))
            have HUA5 := Lib.hid (us_next (bx := bx) (bv := bv) (D := PlD lo hi q bx bv) (.inr (.inl rfl)) (.inr (.inr rfl)) (HUA.out.fr (.of_ext hX5')) (.int .i64 (S2.n : Int)) (.slice ba4 S2.q.length bc4) (.bool S2.busy) (.slice la4 ln4 lc4) (.slice ta4 tn4 tc4) (.slice R4.wa M2.n R4.wc) (.slice R4.ea M2.n R4.ec) (.int .i64 M2.ct))
            have HUB5 := Lib.hid (us_next (bx := bx) (bv := bv) (D := PlD lo hi q bx bv) (.inr (.inl rfl)) (.inr (.inr rfl)) (HUB.out.fr (.of_ext hX5')) (.int .i64 (S2.n : Int)) (.slice ba4 S2.q.length bc4) (.bool S2.busy) (.slice la4 ln4 lc4) (.slice ta4 tn4 tc4) (.slice R4.wa M2.n R4.wc) (.slice R4.ea M2.n R4.ec) (.int .i64 M2.ct))
            obtain ⟨b21, hb21⟩ : ∃ b21, b21 = Y4.heap.size := ⟨_, rfl⟩
            have n1 : bv ≠ b21 := by omega
            have n2 : bv ≠ b21 + 1 := by omega
            have n3 : bx ≠ b21 + 1 := by omega
            have n4 : b21 + 1 ≠ bv := by omega
            have n5 : b21 + 1 + 1 ≠ bv := by omega
            have n6 : b21 + 1 + 1 ≠ bx := by omega
            have n7 : b20 ≠ bv := by omega
            have n8 : b20 ≠ bx := by omega
            have n9 : bx ≠ bv := by omega
            have n10 : bv ≠ bx := by omega
            have n11 : bv ≠ b20 := by omega
            have n12 : bx ≠ b20 := by omega
            have n13 : bv ≠ b21 + 1 + 1 := by omega
            have n14 : bx ≠ b21 + 1 + 1 := by omega
            rw [← hb21] at h21 h22 h23 ⊢
            obtain ⟨c0, c1, c2, c3, c4, cz, ll⟩ := fiv_of hv5
            have x0 : T5.cell? ⟨bx, 0, none⟩ = some (.slice R1.wa M.n R1.wc) := cell_at hx5 rfl
            have x1 : T5.cell? ⟨bx, 1, none⟩ = some (.slice R1.ea M.n R1.ec) := cell_at hx5 rfl
            have x2 : T5.cell? ⟨bx, 2, none⟩ = some (.int .i64 M.ct) := cell_at hx5 rfl
            have xz := fun o => free_at (o := o) hx5
            have xl := heap_lt hx5
            obtain ⟨y0, y1, y2, y3, y4, yz, yl⟩ := fiv_of h21
            have z0 : T5.cell? ⟨b21 + 1, 0, none⟩ = some (.slice R4.wa M2.n R4.wc) := cell_at h22 rfl
            have z1 : T5.cell? ⟨b21 + 1, 1, none⟩ = some (.slice R4.ea M2.n R4.ec) := cell_at h22 rfl
            have z2 : T5.cell? ⟨b21 + 1, 2, none⟩ = some (.int .i64 M2.ct) := cell_at h22 rfl
            have zl := heap_lt h22
            obtain ⟨j0, j1⟩ := two_cells h23
            have jl := heap_lt h23
            obtain ⟨i0, i1⟩ := two_cells he5
            have il := heap_lt he5
            have hkk : ((kd : Int) != (kd : Int)) = false := by simp
            unfold put5 at HPN HUA5 HUB5
            clear h21 h22 h23 hX5' hX5 hv5 hx5 hf5 he5 hb21 HUA HUB HL4 HR4 HV4 hev4 HBV4 HBX4 HBF4
            go_wp2_with fail
            clear c0 c1 c2 c3 c4 cz ll x0 x1 x2 xz xl y0 y1 y2 y3 y4 yz yl z0 z1 z2 zl j0 j1 jl i0 i1 il n1 n2 n3 n4 n5 n6 n7 n8 n9 n10 n11 n12 n13 n14
            replace HPN := HPN.out
            replace HUA5 := HUA5.out
            replace HUB5 := HUB5.out
            generalize (World.setCell _ (⟨bx, 2, none⟩ : Addr) _) = T8 at HPN HUA5 HUB5 ⊢
            replace HPN := Lib.hid HPN
            replace HUA5 := Lib.hid HUA5
            replace HUB5 := Lib.hid HUB5
            refine (same_any Rr Rr _ _ _ true (hid_yes rfl) (by have h8 := HKP.out.r; simp only at h8; omega) HUA5.out.us HUB5.out.us).mono ?_
            rintro en w' hr'
            obtain ⟨rfl, s8, rfl⟩ := hr'.over
            clear hr'
            have HP9 := Lib.hid (HPN.out.grow (over_below T8 s8))
            have hsn2 : S2.n ≤ 4096 := by have h8 := HKP.out.sn; simp only at h8; omega
            clear HPN HUA5 HUB5 HP HXK
            generalize over T8 s8 = T9 at HP9 ⊢

            obtain ⟨f0, f1, f2, f3, f4, fz, fl⟩ := fiv_of HP9.out.vw
            have E1 : Hid (∀ Y, LawIn (PlD lo hi q bx bv) lo hi L q M2 S2 w Y → Calls Try.prog 21 #[.pointer (some ⟨q + 2, 0, none⟩)] Y (Ret (.bool S2.busy) Y)) := Lib.hid fun _ h => busyR h
            have E2 : Hid (∀ Y, LawIn (PlD lo hi q bx bv) lo hi L q M2 S2 w Y → Calls Try.prog 22 #[.pointer (some ⟨q + 2, 0, none⟩)] Y (Ret (.int .i64 (S2.q.length : Int)) Y)) := Lib.hid fun _ h => waitsR h
            have hbb : (S2.busy != S2.busy) = false := by simp
            have hww : ((S2.q.length : Int) != (S2.q.length : Int)) = false := by simp
            go_wp2
            refine wp_region_over (by kernel_rfl) (by kernel_rfl) ?_
            repeat (go_big_quiet_step ((first | (go_at_call 21; exact over_call (E1.out _ (HP9.out.law.over _))) | (go_at_call 22; exact over_call (E2.out _ (HP9.out.law.over _))))))
            refine wpQuiet_nil ?_
            intro _ hw'
            obtain ⟨s9, hw''⟩ := hw'
            subst hw''
            clear f0 f1 f2 f3 f4 fz fl
            go_wp2
            exact ⟨⟨k + 1, _, _, _, _, _, _, by omega, by go_num, hsn2, HP9.out.grow (over_below _ s9)⟩, by simp [intOf]; omega⟩
          | false =>
            go_wp2_with fail
            clear d1 db
            obtain ⟨x, hx⟩ : ∃ x, pickF 0 (M.ep 0) M S = x := ⟨_, rfl⟩
            have hkp : PkKeeps M S x := by rw [← hx]; exact pick_keeps HP.out.sm
            obtain ⟨M2, S2, kd, Rr⟩ := x
            have HXK := Lib.hid hx
            have HKP := Lib.hid hkp
            clear hx hkp
            have hb19 := heap_at Y0 (.cells #[.int .i64 0, .int .u64 (U (M.ep 0))] 45) Y0.heap.size rfl
            have HPC := Lib.hid (HPY.out.grow (ext_alloc (.cells #[.int .i64 0, .int .u64 (U (M.ep 0))] 45) (ext_refl Y0)))
            have hbfY : bf < Y0.heap.size := heap_lt HPY.out.fst
            have hord := HP.out.ord
            generalize hY1 : Y0.alloc (.cells #[.int .i64 0, .int .u64 (U (M.ep 0))] 45) = Y1 at hb19 HPC ⊢
            generalize Y0.heap.size = b19 at hb19 hbfY ⊢
            refine (lawPick HPC.out.law 0 (M.ep 0) _ HXK).mono ?_
            rintro en Y2 ⟨ra, cp2, rfl, hU2, hL2, hF2⟩
            have hR2 := HPC.out.ref.fd hF2 (fun k hk => .inl hk)
            have hV2 := HPC.out.vs.fr (hF2.wide (E := PlD lo hi q bx bv) fun k hk => .inl hk)
            have hbv2 := (hF2.block bv (heap_lt HPC.out.vw) (by unfold PkD; omega)).trans HPC.out.vw
            have hbx2 := (hF2.block bx (heap_lt HPC.out.box) (by unfold PkD; omega)).trans HPC.out.box
            have hbf2 := (hF2.block bf (heap_lt HPC.out.fst) (by unfold PkD; omega)).trans HPC.out.fst
            have hbc2 := (hF2.block b19 (heap_lt hb19) (by unfold PkD; omega)).trans hb19
            obtain ⟨c0, c1, c2, c3, c4, cz, ll⟩ := fiv_of hbv2
            have x0 : Y2.cell? ⟨bx, 0, none⟩ = some (.slice R1.wa M.n R1.wc) := cell_at hbx2 rfl
            have x1 : Y2.cell? ⟨bx, 1, none⟩ = some (.slice R1.ea M.n R1.ec) := cell_at hbx2 rfl
            have x2 : Y2.cell? ⟨bx, 2, none⟩ = some (.int .i64 M.ct) := cell_at hbx2 rfl
            have xl := heap_lt hbx2
            obtain ⟨k0, k1⟩ := two_cells hbc2
            have kl := heap_lt hbc2
            have HST := Lib.hid (And.intro hU2 (And.intro hL2 (And.intro hR2 (And.intro hV2 (And.intro hbv2 (And.intro hbx2 hbf2))))))
            clear hU2 hL2 hR2 hV2 hbv2 hbx2 hbf2 hbc2 hb19 hF2 hY1 HPY HPC Y0 Y1
            simp only at HST ⊢
            go_wp2_with fail
            have hev := heap_at Y2 (.cells #[.int .i64 (kd : Int), .slice ra Rr.length cp2] 57) Y2.heap.size rfl
            obtain ⟨hU2, hL2, hR2, hV2, hbv2, hbx2, hbf2⟩ := HST.out
            have hX3 := ext_alloc (.cells #[.int .i64 (kd : Int), .slice ra Rr.length cp2] 57) (ext_refl Y2)
            refine (rpick_any (hV2.ext hX3) (hR2.ext hX3) (ext_trans hL2.ext hX3) (fun k hk => by have := hL2.bd k hk; simp; omega) 0 (M.ep 0) (by have := HP.out.sm.r; omega) (fun l hl => by have := HP.out.sm.q l hl; omega) _ HXK).mono ?_
            rintro en Y4 ⟨vb4, vl4, vt4, R4, rb, cp4, rfl, hV4, hR4, hU4, hx4⟩
            obtain ⟨ba4, bc4, rfl⟩ := hV4.slice
            obtain ⟨la4, ln4, lc4, rfl⟩ := hV4.l
            obtain ⟨ta4, tn4, tc4, rfl⟩ := hV4.t
            simp only at hV4 hR4 hU4
            unfold wV refV
            have hx24 := ext_trans hX3 hx4
            have HUA := Lib.hid (hU2.fr (.of_ext hx24))
            have HUB := Lib.hid hU4
            have HL4 := Lib.hid (hL2.grow hx24)
            have HR4 := Lib.hid hR4
            have HV4 := Lib.hid hV4
            have hev4 := Lib.hid ((hx4.block _ (heap_lt hev)).trans hev)
            have HBV4 := Lib.hid ((hx24.block bv (heap_lt hbv2)).trans hbv2)
            have HBX4 := Lib.hid ((hx24.block bx (heap_lt hbx2)).trans hbx2)
            have HBF4 := Lib.hid ((hx24.block bf (heap_lt hbf2)).trans hbf2)
            have hlev : bf < Y2.heap.size := heap_lt hbf2
            clear hU2 hL2 hR2 hV2 hbv2 hbx2 hbf2 hV4 hR4 hU4 hx4 hx24 hX3 hev HST c0 c1 c2 c3 c4 cz ll x0 x1 x2 xl k0 k1 kl
            generalize Y2.heap.size = b20 at hev4 hlev ⊢
            go_upto_region 23 with fail
            have hsz4 : b20 < Y4.heap.size := heap_lt hev4.out
            have hX5 : ∀ o1 o2 o3, Ext Y4 (((Y4.alloc o1).alloc o2).alloc o3) := fun _ _ _ => ext_alloc _ (ext_alloc _ (ext_alloc _ (ext_refl Y4)))
            have h21 : (((Y4.alloc (.cells #[.int .i64 (S2.n : Int), .slice ba4 S2.q.length bc4, .bool S2.busy, .slice la4 ln4 lc4, .slice ta4 tn4 tc4] 42)).alloc (.cells #[.slice R4.wa M2.n R4.wc, .slice R4.ea M2.n R4.ec, .int .i64 M2.ct] 33)).alloc (.cells #[.int .i64 (kd : Int), .slice rb Rr.length cp4] 59)).heap[Y4.heap.size]? = some (.cells #[.int .i64 (S2.n : Int), .slice ba4 S2.q.length bc4, .bool S2.busy, .slice la4 ln4 lc4, .slice ta4 tn4 tc4] 42) := by
              rw [Below.heap_alloc _ _ _ (by simp; omega), Below.heap_alloc _ _ _ (by simp)]
              exact heap_at _ _ _ rfl
            have h22 : (((Y4.alloc (.cells #[.int .i64 (S2.n : Int), .slice ba4 S2.q.length bc4, .bool S2.busy, .slice la4 ln4 lc4, .slice ta4 tn4 tc4] 42)).alloc (.cells #[.slice R4.wa M2.n R4.wc, .slice R4.ea M2.n R4.ec, .int .i64 M2.ct] 33)).alloc (.cells #[.int .i64 (kd : Int), .slice rb Rr.length cp4] 59)).heap[Y4.heap.size + 1]? = some (.cells #[.slice R4.wa M2.n R4.wc, .slice R4.ea M2.n R4.ec, .int .i64 M2.ct] 33) := by
              rw [Below.heap_alloc _ _ _ (by simp)]
              exact heap_at _ _ _ (by simp)
            have h23 : (((Y4.alloc (.cells #[.int .i64 (S2.n : Int), .slice ba4 S2.q.length bc4, .bool S2.busy, .slice la4 ln4 lc4, .slice ta4 tn4 tc4] 42)).alloc (.cells #[.slice R4.wa M2.n R4.wc, .slice R4.ea M2.n R4.ec, .int .i64 M2.ct] 33)).alloc (.cells #[.int .i64 (kd : Int), .slice rb Rr.length cp4] 59)).heap[Y4.heap.size + 1 + 1]? = some (.cells #[.int .i64 (kd : Int), .slice rb Rr.length cp4] 59) := heap_at _ _ _ (by simp)
            have hX5' := hX5 (.cells #[.int .i64 (S2.n : Int), .slice ba4 S2.q.length bc4, .bool S2.busy, .slice la4 ln4 lc4, .slice ta4 tn4 tc4] 42) (.cells #[.slice R4.wa M2.n R4.wc, .slice R4.ea M2.n R4.ec, .int .i64 M2.ct] 33) (.cells #[.int .i64 (kd : Int), .slice rb Rr.length cp4] 59)
            generalize (((Y4.alloc (.cells #[.int .i64 (S2.n : Int), .slice ba4 S2.q.length bc4, .bool S2.busy, .slice la4 ln4 lc4, .slice ta4 tn4 tc4] 42)).alloc (.cells #[.slice R4.wa M2.n R4.wc, .slice R4.ea M2.n R4.ec, .int .i64 M2.ct] 33)).alloc (.cells #[.int .i64 (kd : Int), .slice rb Rr.length cp4] 59)) = T5 at h21 h22 h23 hX5' ⊢
            have hv5 := (hX5'.block bv (heap_lt HBV4.out)).trans HBV4.out
            have hx5 := (hX5'.block bx (heap_lt HBX4.out)).trans HBX4.out
            have hf5 := (hX5'.block bf (heap_lt HBF4.out)).trans HBF4.out
            have he5 := (hX5'.block b20 (heap_lt hev4.out)).trans hev4.out
            have HPN := Lib.hid (PlIn.next HP.out.ord (HL4.out.grow hX5') (HR4.out.ext hX5') (HV4.out.ext hX5') hx5 hv5 hf5 HKP.out.sm (by have h8 := HKP.out.n; have h9 := HKP.out.z; simp only at h8 h9; rw [h8, h9]; exact HP.out.mn))
            have HUA5 := Lib.hid (us_next (bx := bx) (bv := bv) (D := PlD lo hi q bx bv) (.inr (.inl rfl)) (.inr (.inr rfl)) (HUA.out.fr (.of_ext hX5')) (.int .i64 (S2.n : Int)) (.slice ba4 S2.q.length bc4) (.bool S2.busy) (.slice la4 ln4 lc4) (.slice ta4 tn4 tc4) (.slice R4.wa M2.n R4.wc) (.slice R4.ea M2.n R4.ec) (.int .i64 M2.ct))
            have HUB5 := Lib.hid (us_next (bx := bx) (bv := bv) (D := PlD lo hi q bx bv) (.inr (.inl rfl)) (.inr (.inr rfl)) (HUB.out.fr (.of_ext hX5')) (.int .i64 (S2.n : Int)) (.slice ba4 S2.q.length bc4) (.bool S2.busy) (.slice la4 ln4 lc4) (.slice ta4 tn4 tc4) (.slice R4.wa M2.n R4.wc) (.slice R4.ea M2.n R4.ec) (.int .i64 M2.ct))
            obtain ⟨b21, hb21⟩ : ∃ b21, b21 = Y4.heap.size := ⟨_, rfl⟩
            have n1 : bv ≠ b21 := by omega
            have n2 : bv ≠ b21 + 1 := by omega
            have n3 : bx ≠ b21 + 1 := by omega
            have n4 : b21 + 1 ≠ bv := by omega
            have n5 : b21 + 1 + 1 ≠ bv := by omega
            have n6 : b21 + 1 + 1 ≠ bx := by omega
            have n7 : b20 ≠ bv := by omega
            have n8 : b20 ≠ bx := by omega
            have n9 : bx ≠ bv := by omega
            have n10 : bv ≠ bx := by omega
            have n11 : bv ≠ b20 := by omega
            have n12 : bx ≠ b20 := by omega
            have n13 : bv ≠ b21 + 1 + 1 := by omega
            have n14 : bx ≠ b21 + 1 + 1 := by omega
            rw [← hb21] at h21 h22 h23 ⊢
            obtain ⟨c0, c1, c2, c3, c4, cz, ll⟩ := fiv_of hv5
            have x0 : T5.cell? ⟨bx, 0, none⟩ = some (.slice R1.wa M.n R1.wc) := cell_at hx5 rfl
            have x1 : T5.cell? ⟨bx, 1, none⟩ = some (.slice R1.ea M.n R1.ec) := cell_at hx5 rfl
            have x2 : T5.cell? ⟨bx, 2, none⟩ = some (.int .i64 M.ct) := cell_at hx5 rfl
            have xz := fun o => free_at (o := o) hx5
            have xl := heap_lt hx5
            obtain ⟨y0, y1, y2, y3, y4, yz, yl⟩ := fiv_of h21
            have z0 : T5.cell? ⟨b21 + 1, 0, none⟩ = some (.slice R4.wa M2.n R4.wc) := cell_at h22 rfl
            have z1 : T5.cell? ⟨b21 + 1, 1, none⟩ = some (.slice R4.ea M2.n R4.ec) := cell_at h22 rfl
            have z2 : T5.cell? ⟨b21 + 1, 2, none⟩ = some (.int .i64 M2.ct) := cell_at h22 rfl
            have zl := heap_lt h22
            obtain ⟨j0, j1⟩ := two_cells h23
            have jl := heap_lt h23
            obtain ⟨i0, i1⟩ := two_cells he5
            have il := heap_lt he5
            have hkk : ((kd : Int) != (kd : Int)) = false := by simp
            unfold put5 at HPN HUA5 HUB5
            clear h21 h22 h23 hX5' hX5 hv5 hx5 hf5 he5 hb21 HUA HUB HL4 HR4 HV4 hev4 HBV4 HBX4 HBF4
            go_wp2_with fail
            clear c0 c1 c2 c3 c4 cz ll x0 x1 x2 xz xl y0 y1 y2 y3 y4 yz yl z0 z1 z2 zl j0 j1 jl i0 i1 il n1 n2 n3 n4 n5 n6 n7 n8 n9 n10 n11 n12 n13 n14
            replace HPN := HPN.out
            replace HUA5 := HUA5.out
            replace HUB5 := HUB5.out
            generalize (World.setCell _ (⟨bx, 2, none⟩ : Addr) _) = T8 at HPN HUA5 HUB5 ⊢
            replace HPN := Lib.hid HPN
            replace HUA5 := Lib.hid HUA5
            replace HUB5 := Lib.hid HUB5
            refine (same_any Rr Rr _ _ _ true (hid_yes rfl) (by have h8 := HKP.out.r; simp only at h8; omega) HUA5.out.us HUB5.out.us).mono ?_
            rintro en w' hr'
            obtain ⟨rfl, s8, rfl⟩ := hr'.over
            clear hr'
            have HP9 := Lib.hid (HPN.out.grow (over_below T8 s8))
            have hsn2 : S2.n ≤ 4096 := by have h8 := HKP.out.sn; simp only at h8; omega
            clear HPN HUA5 HUB5 HP HXK
            generalize over T8 s8 = T9 at HP9 ⊢

            obtain ⟨f0, f1, f2, f3, f4, fz, fl⟩ := fiv_of HP9.out.vw
            have E1 : Hid (∀ Y, LawIn (PlD lo hi q bx bv) lo hi L q M2 S2 w Y → Calls Try.prog 21 #[.pointer (some ⟨q + 2, 0, none⟩)] Y (Ret (.bool S2.busy) Y)) := Lib.hid fun _ h => busyR h
            have E2 : Hid (∀ Y, LawIn (PlD lo hi q bx bv) lo hi L q M2 S2 w Y → Calls Try.prog 22 #[.pointer (some ⟨q + 2, 0, none⟩)] Y (Ret (.int .i64 (S2.q.length : Int)) Y)) := Lib.hid fun _ h => waitsR h
            have hbb : (S2.busy != S2.busy) = false := by simp
            have hww : ((S2.q.length : Int) != (S2.q.length : Int)) = false := by simp
            go_wp2
            refine wp_region_over (by kernel_rfl) (by kernel_rfl) ?_
            repeat (go_big_quiet_step ((first | (go_at_call 21; exact over_call (E1.out _ (HP9.out.law.over _))) | (go_at_call 22; exact over_call (E2.out _ (HP9.out.law.over _))))))
            refine wpQuiet_nil ?_
            intro _ hw'
            obtain ⟨s9, hw''⟩ := hw'
            subst hw''
            clear f0 f1 f2 f3 f4 fz fl
            go_wp2
            exact ⟨⟨k + 1, _, _, _, _, _, _, by omega, by go_num, hsn2, HP9.out.grow (over_below _ s9)⟩, by simp [intOf]; omega⟩
    · obtain rfl : k = cs.length := by omega
      have q3 : decide ((cs.length : Int) < (cs.length : Int)) = false := by simp
      clear hlt hk
      have hn1 : 0 < M.n := by rw [HP.out.mn.1]; decide
      go_wp2
      go_loopw [24] (fun i wr => PeRel lo hi L q bx bv bf S M R1 (.slice ba S.q.length bc) (.slice la ln lc) (.slice ta tn tc) w i wr) (fun i _ => (8 - intOf i).toNat)
      case atStart => exact ⟨0, Nat.zero_le _, rfl, HP.out⟩
      case round =>
        clear HP
        obtain ⟨k, hk, rfl, hP⟩ := hrel
        have HP := Lib.hid hP
        have x0 : wr.cell? ⟨bx, 0, none⟩ = some (.slice R1.wa M.n R1.wc) := cell_at hP.box rfl
        have x1 : wr.cell? ⟨bx, 1, none⟩ = some (.slice R1.ea M.n R1.ec) := cell_at hP.box rfl
        have x2 : wr.cell? ⟨bx, 2, none⟩ = some (.int .i64 M.ct) := cell_at hP.box rfl
        have xl := heap_lt hP.box
        clear hP
        by_cases hlt : k < 8
        · have hsz : k < M.sz 0 := by rw [HP.out.mn.2]; exact hlt
          have E1 : Hid (∀ Y, MemIn lo hi L M Y → Calls Try.prog 23 #[.pointer (some ⟨L.bm, 0, none⟩), .int .i64 0, .int .i64 (k : Int)] Y (Ret (.int .u64 (U (M.wd 0 k))) Y)) := Lib.hid fun Y hY => peek_yes hY 0 k hn1 hsz
          have E2 : Hid (∀ Y, RefIn (fun b => ¬ PlD lo hi q bx bv b) R1 M Y → Calls Try.prog 24 #[.agg #[.slice R1.wa M.n R1.wc, .slice R1.ea M.n R1.ec, .int .i64 M.ct], .int .i64 0, .int .i64 (k : Int)] Y (Ret (.int .u64 (U (M.wd 0 k))) Y)) := Lib.hid fun Y hY => rpeek_yes hY 0 k hn1 hsz
          have q6 : decide ((k : Int) < 8) = true := by simp; omega
          clear hsz
          go_wp2
          refine wp_region_over (by kernel_rfl) (by kernel_rfl) ?_
          repeat (go_big_quiet_step ((first | (go_at_call 23; exact over_call (E1.out _ (HP.out.law.mem.over _))) | (go_at_call 24; exact over_call (E2.out _ (HP.out.ref.over _))))))
          refine wpQuiet_nil ?_
          intro _ hw'
          obtain ⟨s2, hw''⟩ := hw'
          subst hw''
          go_wp2
          exact ⟨⟨k + 1, by omega, by go_num, HP.out.grow (over_below _ s2)⟩, by simp [intOf]; omega⟩
        · obtain rfl : k = 8 := by omega
          have h88 : ¬ (((8 : Nat) : Int) < 8) := by decide
          have E1 : Hid (∀ Y, MemIn lo hi L M Y → Calls Try.prog 25 #[.pointer (some ⟨L.bm, 0, none⟩)] Y (Ret (.int .i64 M.ct) Y)) := Lib.hid fun Y hY => count_at hY _ (Lib.hid rfl)
          go_wp2
          refine wp_region_over (by kernel_rfl) (by kernel_rfl) ?_
          repeat (go_big_quiet_step ((go_at_call 25; exact over_call (E1.out _ (HP.out.law.mem.over _)))))
          refine wpQuiet_nil ?_
          intro _ hw'
          obtain ⟨s2, hw''⟩ := hw'
          subst hw''
          go_wp2
          go_ret
          exact Ret.mk (ext_over s2 HP.out.law.ext)

theorem threadPicks_any (z : Int) (cs : List Cl) (v : Value) (w : World) (h : Cls w v cs) : Calls Try.prog 3 #[.int .i64 z, v] w (Ret (.bool true) w) := by
  have HC := Lib.hid h
  obtain ⟨a0, cap, rfl, _⟩ := h
  by_cases hF : FewC cs
  · by_cases hz : z < 1 ∨ 4096 < z
    · exact threadPicks_bad z cs a0 cap w (Lib.hid hF) hz HC
    · obtain ⟨n, rfl⟩ := Int.eq_ofNat_of_zero_le (show 0 ≤ z by omega)
      exact threadPicks_good n cs a0 cap w (Lib.hid hF) (by omega) (by omega) HC
  · exact threadPicks_great z cs a0 cap w (Lib.hid hF) HC

end Go.Proofs.Ythepcnffadjeaaa
