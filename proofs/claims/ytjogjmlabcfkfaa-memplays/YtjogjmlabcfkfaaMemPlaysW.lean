/-
  MemPlays: the call's ways, walked. Conditions: those of each theorem.
-/
import Derived.Test.YtjogjmlabcfkfaaMemSame
import Derived.Test.YtjogjmlabcfkfaaMemRef7
import Derived.Test.YtjogjmlabcfkfaaMemAwake
import Derived.Test.YtjogjmlabcfkfaaMemRegionsW
import Derived.Test.YtjogjmlabcfkfaaFork
namespace Go.Proofs.Ytjogjmlabcfkfaa
open Go Go.ChangeShapes Go.WideShapes Go.RowKit

/-- A call. -/
structure CallR where
  kind : Int
  reg : Int
  ep : BitVec 64
  acc : Acc
/-- The value v is a slice of n calls, f i the i-th. -/
def Cs (w : World) (v : Value) (n : Nat) (f : Nat → CallR) : Prop :=
  ∃ a0 cap, v = .slice a0 n cap ∧ n ≤ cap ∧ (0 < n → ∃ b o, a0 = some ⟨b, o, none⟩ ∧ b < w.heap.size ∧ ∀ i, i < n →
    w.cell? ⟨b, o + i * 7, none⟩ = some (.int .i64 (f i).kind) ∧ w.cell? ⟨b, o + i * 7 + 1, none⟩ = some (.int .i64 (f i).reg) ∧ w.cell? ⟨b, o + i * 7 + 2, none⟩ = some (.int .u64 (U (f i).ep)) ∧
    w.cell? ⟨b, o + i * 7 + 3, none⟩ = some (.int .i64 (f i).acc.op) ∧ w.cell? ⟨b, o + i * 7 + 4, none⟩ = some (.int .i64 (f i).acc.at_) ∧
    w.cell? ⟨b, o + i * 7 + 5, none⟩ = some (.int .u64 (U (f i).acc.a)) ∧ w.cell? ⟨b, o + i * 7 + 6, none⟩ = some (.int .u64 (U (f i).acc.b)))
theorem Cs.at {w : World} {a0 : Option Addr} {m cap n : Nat} {f : Nat → CallR} (h : Cs w (.slice a0 m cap) n f) (hl : 0 < n) : ∃ b o, a0 = some ⟨b, o, none⟩ ∧ b < w.heap.size ∧ ∀ i, i < n →
    w.cell? ⟨b, o + i * 7, none⟩ = some (.int .i64 (f i).kind) ∧ w.cell? ⟨b, o + i * 7 + 1, none⟩ = some (.int .i64 (f i).reg) ∧ w.cell? ⟨b, o + i * 7 + 2, none⟩ = some (.int .u64 (U (f i).ep)) ∧
    w.cell? ⟨b, o + i * 7 + 3, none⟩ = some (.int .i64 (f i).acc.op) ∧ w.cell? ⟨b, o + i * 7 + 4, none⟩ = some (.int .i64 (f i).acc.at_) ∧
    w.cell? ⟨b, o + i * 7 + 5, none⟩ = some (.int .u64 (U (f i).acc.a)) ∧ w.cell? ⟨b, o + i * 7 + 6, none⟩ = some (.int .u64 (U (f i).acc.b)) := by
  obtain ⟨a, c', e, _, hr⟩ := h
  simp at e
  obtain ⟨rfl, rfl, rfl⟩ := e
  exact hr hl
def callKd (j : Nat) : IntKind := if j = 2 ∨ 5 ≤ j then .u64 else .i64
theorem cs_of_rs {w : World} {v : Value} {n : Nat} {x : Nat → Nat → Int} (h : Rs 7 callKd w v n x) : Cs w v n (fun i => ⟨x i 0, x i 1, toW (x i 2), ⟨x i 3, x i 4, toW (x i 5), toW (x i 6)⟩⟩) := by
  obtain ⟨a0, cap, e, hc, hr⟩ := h
  refine ⟨a0, cap, e, hc, fun hl => ?_⟩
  obtain ⟨b, o, ea, hlt, hcell⟩ := hr hl
  refine ⟨b, o, ea, hlt, fun i hi => ?_⟩
  have c := fun j hj => hcell i hi j hj
  exact ⟨(c 0 (by omega)).1, (c 1 (by omega)).1, by simp only [U_toW (c 2 (by omega)).2]; exact (c 2 (by omega)).1, (c 3 (by omega)).1, (c 4 (by omega)).1,
    by simp only [U_toW (c 5 (by omega)).2]; exact (c 5 (by omega)).1, by simp only [U_toW (c 6 (by omega)).2]; exact (c 6 (by omega)).1⟩

/-- The reference's value in its box. -/
structure BoxV (s : Nat) (R : RL) (M : MS) (w : World) : Prop where
  k0 : w.cell? ⟨s, 0, none⟩ = some (.slice R.wa M.n R.wc)
  k1 : w.cell? ⟨s, 1, none⟩ = some (.slice R.ea M.n R.ec)
  k2 : w.cell? ⟨s, 2, none⟩ = some (.int .i64 M.ct)
  kz : ∀ o, w.frozen? ⟨s, o, none⟩ = false
theorem BoxV.fr {s lo hi : Nat} {R : RL} {M : MS} {w w' : World} (h : BoxV s R M w) (hf : Fr lo hi w w') (hh : s < lo ∨ hi ≤ s) : BoxV s R M w' :=
  ⟨by rw [hf.cell (cell_lt h.k0) hh]; exact h.k0, by rw [hf.cell (cell_lt h.k0) hh]; exact h.k1, by rw [hf.cell (cell_lt h.k0) hh]; exact h.k2, fun o => by rw [hf.frozen (cell_lt h.k0) hh]; exact h.kz o⟩
theorem BoxV.ext {s : Nat} {R : RL} {M : MS} {w w' : World} (h : BoxV s R M w) (hb : Ext w w') : BoxV s R M w' := h.fr (lo := 0) (hi := 0) (.of_ext hb) (.inr (Nat.zero_le _))

/-- The loop. -/
def PlaysRel (n lo hi : Nat) (b0 : Nat → Prop) (L : Lay) (s : Nat) (w : World) (i : Value) (wr : World) : Prop :=
  ∃ (k : Nat) (M : MS) (R : RL), k ≤ n ∧ i = .int .i64 (k : Int) ∧ MemIn lo hi L M wr ∧ RefIn b0 R M wr ∧ BoxV s R M wr ∧ Ext w wr

set_option maxHeartbeats 1000000 in
theorem memPlays_none (l : List Int) (n : Nat) (a0 a1 : Option Addr) (cap cap1 : Nat) (w : World) (hI : Hid (Is w (.slice a0 l.length cap) l)) (hb : Hid (∀ i, i < l.length → -9223372036854775808 ≤ iN l i ∧ iN l i ≤ 9223372036854775807)) (hn : ¬ (FewOk l ∧ n ≤ 60)) :
    Calls Try.prog 3 #[.slice a0 l.length cap, .slice a1 n cap1] w (Ret (.bool true) w) := by
  by_cases hf : FewOk l
  · have h60 : ¬ n ≤ 60 := fun h => hn ⟨hf, h⟩
    have q1 : decide (60 < (n : Int)) = true := by simp; omega
    have HF := Lib.hid hf
    clear hn hf
    go_enter Try.func3, Try.ntmps3
    go_wp2_with (first
      | (go_at_call 9; refine (awake_any _).mono ?_; rintro e w' hr'; obtain ⟨rfl, s, rfl⟩ := hr'.over; clear hr')
      | (go_at_call 10; refine (few_any l _ _ true (hid_yes HF.out) (hI.out.ext (over_below w s)) hb).mono ?_; rintro e w' hr'; obtain ⟨rfl, s', rfl⟩ := hr'.over; clear hr'))
    go_ret
    exact Ret.mk (by repeat (first | exact ext_refl _ | apply ext_over | apply ext_alloc))
  · have HF := Lib.hid hf
    clear hn hf
    go_enter Try.func3, Try.ntmps3
    go_wp2_with (first
      | (go_at_call 9; refine (awake_any _).mono ?_; rintro e w' hr'; obtain ⟨rfl, s, rfl⟩ := hr'.over; clear hr')
      | (go_at_call 10; refine (few_any l _ _ false (hid_no HF.out) (hI.out.ext (over_below w s)) hb).mono ?_; rintro e w' hr'; obtain ⟨rfl, s', rfl⟩ := hr'.over; clear hr'))
    go_ret
    exact Ret.mk (by repeat (first | exact ext_refl _ | apply ext_over | apply ext_alloc))

set_option maxHeartbeats 1000000 in
theorem memPlays_bad (l : List Int) (n : Nat) (a0 a1 : Option Addr) (cap cap1 : Nat) (w : World) (hI : Hid (Is w (.slice a0 l.length cap) l)) (hb : Hid (∀ i, i < l.length → -9223372036854775808 ≤ iN l i ∧ iN l i ≤ 9223372036854775807)) (HF : Hid (FewOk l)) (hn : n ≤ 60) (HN : Hid (¬ SizesOk l)) :
    Calls Try.prog 3 #[.slice a0 l.length cap, .slice a1 n cap1] w (Ret (.bool true) w) := by
  have q1 : decide (60 < (n : Int)) = false := by simp; omega
  go_enter Try.func3, Try.ntmps3
  go_wp2_with (first
    | (go_at_call 9; refine (awake_any _).mono ?_; rintro e w' hr'; obtain ⟨rfl, s, rfl⟩ := hr'.over; clear hr')
    | (go_at_call 10; refine (few_any l _ _ true (hid_yes HF.out) (hI.out.ext (over_below w s)) hb).mono ?_; rintro e w' hr'; obtain ⟨rfl, s', rfl⟩ := hr'.over; clear hr')
    | (go_at_call 11; refine (new_no l _ _ HN.out (hI.out.ext (over_below w _))).mono ?_; rintro e w1 ⟨rfl, hx⟩; have HX := Lib.hid (ext_trans (over_below w _) hx); clear hx)
    | (go_at_call 12; refine (rnew_no l _ _ HN.out (hI.out.ext HX.out)).mono ?_; rintro e w2 ⟨rfl, hx⟩; have HX2 := Lib.hid (ext_trans HX.out hx); clear hx))
  go_ret
  exact Ret.mk (by repeat (first | exact HX2.out | apply ext_over | apply ext_alloc))

theorem rdo_any {b0 : Nat → Prop} {R : RL} {M M' : MS} {w : World} (h : RefIn b0 R M w) (r : Int) (e : BitVec 64) (c : Acc) (v : BitVec 64) (ok : Bool) (hd : DoSpec M r e c M' v ok) :
    Calls Try.prog 18 #[refV R M, .agg #[.int .i64 r, .int .u64 (U e)], .agg #[.int .i64 c.op, .int .i64 c.at_, .int .u64 (U c.a), .int .u64 (U c.b)]] w (RetRef b0 M' #[.int .u64 (U v), .bool ok] w) := by
  rcases hd with ⟨hd, rfl, rfl, rfl⟩ | ⟨hd, rfl, rfl, rfl⟩
  · exact rdo_yes h r c.op c.at_ e c.a c.b hd
  · rw [U_0]
    exact rdo_no h r c.op c.at_ e c.a c.b hd
/-- A new box. -/
theorem box_new (w : World) (R : RL) (M : MS) (t : Nat) : Hid (BoxV w.heap.size R M (w.alloc (.cells #[.slice R.wa M.n R.wc, .slice R.ea M.n R.ec, .int .i64 M.ct] t))) := by
  have h0 := heap_new w (.cells #[.slice R.wa M.n R.wc, .slice R.ea M.n R.ec, .int .i64 M.ct] t) _ rfl
  exact Lib.hid ⟨cell_at h0 rfl, cell_at h0 rfl, cell_at h0 rfl, fun o => free_at h0⟩
/-- The box is written anew. -/
theorem box_put {s : Nat} {R R' : RL} {M M' : MS} {w : World} (h : BoxV s R M w) :
    BoxV s R' M' (((w.setCell ⟨s, 0, none⟩ (.slice R'.wa M'.n R'.wc)).setCell ⟨s, 1, none⟩ (.slice R'.ea M'.n R'.ec)).setCell ⟨s, 2, none⟩ (.int .i64 M'.ct)) :=
  ⟨by rw [cell_set_off _ (by decide), cell_set_off _ (by decide)]; exact cell_set_same h.k0,
   by rw [cell_set_off _ (by decide)]; exact cell_set_same (by rw [cell_set_off _ (by decide)]; exact h.k1),
   cell_set_same (by rw [cell_set_off _ (by decide), cell_set_off _ (by decide)]; exact h.k2), fun o => by rw [froz_set, froz_set, froz_set]; exact h.kz o⟩

theorem RefIn.mono {b0 b1 : Nat → Prop} {R : RL} {M : MS} {w : World} (h : RefIn b1 R M w) (hb : ∀ b, b1 b → b0 b) : RefIn b0 R M w :=
  ⟨h.few, h.small, fun b h1 => hb b (h.top b h1), fun hn => ⟨(h.wA hn).1, hb _ (h.wA hn).2.1, (h.wA hn).2.2⟩, fun hn => ⟨(h.eA hn).1, hb _ (h.eA hn).2.1, (h.eA hn).2.2⟩, h.wR, h.eR, fun i hi => ⟨hb _ (h.xA i hi).1, (h.xA i hi).2⟩, h.xR⟩
/-- What a bump comes to, of the one and of the other. -/
theorem bump_both (M : MS) (r : Int) : ∃ (M' : MS) (x : Int) (y : BitVec 64) (z : Int),
    (∀ lo hi L w, MemIn lo hi L M w → Calls Try.prog 13 #[.pointer (some ⟨L.bm, 0, none⟩), .int .i64 r] w (RetM lo hi L M' (.tuple #[.agg #[.int .i64 x, .int .u64 (U y)], .int .i64 z]) w)) ∧
    (∀ (b0 : Nat → Prop) R w, RefIn b0 R M w → Calls Try.prog 14 #[.agg #[.slice R.wa M.n R.wc, .slice R.ea M.n R.ec, .int .i64 M.ct], .int .i64 r] w (RetRef b0 M' #[.agg #[.int .i64 x, .int .u64 (U y)], .int .i64 z] w)) := by
  by_cases hr : 0 ≤ r ∧ r < M.n
  · obtain ⟨q, rfl⟩ := Int.eq_ofNat_of_zero_le hr.1
    exact ⟨M.bump q, q, M.ep q + 1#64, 0, fun lo hi L w h => bump_yes h q (by omega), fun b0 R w h => rbump_yes h q (by omega)⟩
  · refine ⟨M, 0, 0#64, 1, fun lo hi L w h => ?_, fun b0 R w h => ?_⟩
    · rw [U_0]
      refine (bump_no h r hr).mono ?_
      rintro e w' ⟨rfl, hx⟩
      exact ⟨rfl, h.ext hx, .of_ext hx⟩
    · rw [U_0]
      exact rbump_no h r hr
/-- Two cells of a box. -/
structure BoxD (s : Nat) (x y : Value) (w : World) : Prop where
  c0 : w.cell? ⟨s, 0, none⟩ = some x
  c1 : w.cell? ⟨s, 1, none⟩ = some y
  cz : ∀ o, w.frozen? ⟨s, o, none⟩ = false
theorem BoxD.new (w : World) (x y : Value) (t : Nat) : BoxD w.heap.size x y (w.alloc (.cells #[x, y] t)) := by
  have h0 := heap_new w (.cells #[x, y] t) _ rfl
  exact ⟨cell_at h0 rfl, cell_at h0 rfl, fun o => free_at h0⟩
theorem BoxD.ext {s : Nat} {x y : Value} {w w' : World} (h : BoxD s x y w) (hb : Ext w w') : BoxD s x y w' :=
  ⟨ext_cell hb h.c0, ext_cell hb h.c1, fun o => by rw [hb.frozen (p := ⟨s, o, none⟩) (cell_lt h.c0)]; exact h.cz o⟩
theorem RefIn.avoid' {b0 c : Nat → Prop} {R : RL} {M : MS} {w : World} (h : RefIn c R M w) (hc : Hid (∀ b, c b → b0 b)) (o : Obj) : ∃ c', Hid (∀ b, c' b → b0 b) ∧ Hid (∀ b, ¬ c b → ¬ c' b) ∧ ¬ c' w.heap.size ∧ RefIn c' R M (w.alloc o) :=
  ⟨_, Lib.hid fun b hb => hc.out b hb.1, Lib.hid fun _ hn hb => hn hb.1, fun hb => hb.2 rfl, h.avoid o⟩
/-- Three cells of a box. -/
structure BoxA (s : Nat) (x y z : Value) (w : World) : Prop where
  k0 : w.cell? ⟨s, 0, none⟩ = some x
  k1 : w.cell? ⟨s, 1, none⟩ = some y
  k2 : w.cell? ⟨s, 2, none⟩ = some z
  kz : ∀ o, w.frozen? ⟨s, o, none⟩ = false
theorem BoxA.new (w : World) (x y z : Value) (t : Nat) : BoxA w.heap.size x y z (w.alloc (.cells #[x, y, z] t)) := by
  have h0 := heap_new w (.cells #[x, y, z] t) _ rfl
  exact ⟨cell_at h0 rfl, cell_at h0 rfl, cell_at h0 rfl, fun o => free_at h0⟩
theorem BoxA.ext {s : Nat} {x y z : Value} {w w' : World} (h : BoxA s x y z w) (hb : Ext w w') : BoxA s x y z w' :=
  ⟨ext_cell hb h.k0, ext_cell hb h.k1, ext_cell hb h.k2, fun o => by rw [hb.frozen (p := ⟨s, o, none⟩) (cell_lt h.k0)]; exact h.kz o⟩
theorem boxA_put {s : Nat} {x y z : Value} {w : World} (h : BoxA s x y z w) (R' : RL) (M' : MS) :
    BoxV s R' M' (((w.setCell ⟨s, 0, none⟩ (.slice R'.wa M'.n R'.wc)).setCell ⟨s, 1, none⟩ (.slice R'.ea M'.n R'.ec)).setCell ⟨s, 2, none⟩ (.int .i64 M'.ct)) :=
  ⟨by rw [cell_set_off _ (by decide), cell_set_off _ (by decide)]; exact cell_set_same h.k0,
   by rw [cell_set_off _ (by decide)]; exact cell_set_same (by rw [cell_set_off _ (by decide)]; exact h.k1),
   cell_set_same (by rw [cell_set_off _ (by decide), cell_set_off _ (by decide)]; exact h.k2), fun o => by rw [froz_set, froz_set, froz_set]; exact h.kz o⟩
theorem cell_set_block {w : World} {p : Addr} {s o : Nat} (v : Value) (hp : s ≠ p.block) : (w.setCell p v).cell? ⟨s, o, none⟩ = w.cell? ⟨s, o, none⟩ :=
  World.cell?_of_block (w := w) (a := ⟨s, o, none⟩) (Below.heap_setCell _ _ _ _ hp)
theorem BoxD.far {s : Nat} {x y : Value} {w : World} {p : Addr} (h : BoxD s x y w) (v : Value) (hp : s ≠ p.block) : BoxD s x y (w.setCell p v) :=
  ⟨by rw [cell_set_block _ hp]; exact h.c0, by rw [cell_set_block _ hp]; exact h.c1, fun o => by rw [froz_set]; exact h.cz o⟩
theorem BoxV.far {s : Nat} {R : RL} {M : MS} {w : World} {p : Addr} (h : BoxV s R M w) (v : Value) (hp : s ≠ p.block) : BoxV s R M (w.setCell p v) :=
  ⟨by rw [cell_set_block _ hp]; exact h.k0, by rw [cell_set_block _ hp]; exact h.k1, by rw [cell_set_block _ hp]; exact h.k2, fun o => by rw [froz_set]; exact h.kz o⟩
theorem boxD_put {s : Nat} {x y : Value} {w : World} (h : BoxD s x y w) (x' y' : Value) : BoxD s x' y' ((w.setCell ⟨s, 0, none⟩ x').setCell ⟨s, 1, none⟩ y') :=
  ⟨by rw [cell_set_off _ (by decide)]; exact cell_set_same h.c0, cell_set_same (by rw [cell_set_off _ (by decide)]; exact h.c1), fun o => by rw [froz_set, froz_set]; exact h.cz o⟩
/-- The round's end. -/
theorem plays_next {n lo hi k bs : Nat} {b0 : Nat → Prop} {L : Lay} {w T : World} {R R' : RL} {M M' : MS} (hlt : k < n) (HB : Hid (BoxV bs R M T)) (HM : Hid (MemIn lo hi L M' T)) (HR : Hid (RefIn b0 R' M' T)) (HY : Hid (Ext w T)) (hs : hi ≤ bs) (hbs : Hid (¬ b0 bs)) (hws : w.heap.size ≤ bs) :
    PlaysRel n lo hi b0 L bs w (.int .i64 ((k : Int) + 1)) (((T.setCell ⟨bs, 0, none⟩ (.slice R'.wa M'.n R'.wc)).setCell ⟨bs, 1, none⟩ (.slice R'.ea M'.n R'.ec)).setCell ⟨bs, 2, none⟩ (.int .i64 M'.ct)) ∧
    ((n : Int) - intOf (.int .i64 ((k : Int) + 1))).toNat < ((n : Int) - intOf (.int .i64 (k : Int))).toNat :=
  ⟨⟨k + 1, M', R', hlt, rfl, ((HM.out.setFar _ (.inr hs)).setFar _ (.inr hs)).setFar _ (.inr hs), ((HR.out.setOut _ hbs.out).setOut _ hbs.out).setOut _ hbs.out, box_put HB.out, ext_set _ hws (ext_set _ hws (ext_set _ hws HY.out))⟩, by simp [intOf]; omega⟩

set_option maxHeartbeats 4000000 in
set_option maxRecDepth 8000 in
theorem memPlays_good (l : List Int) (f : Nat → CallR) (n : Nat) (a0 a1 : Option Addr) (cap cap1 : Nat) (w : World) (hI : Hid (Is w (.slice a0 l.length cap) l)) (hb : Hid (∀ i, i < l.length → -9223372036854775808 ≤ iN l i ∧ iN l i ≤ 9223372036854775807)) (HF : Hid (FewOk l)) (hn : n ≤ 60) (HK : Hid (SizesOk l))
    (hC : Hid (Cs w (.slice a1 n cap1) n f)) :
    Calls Try.prog 3 #[.slice a0 l.length cap, .slice a1 n cap1] w (Ret (.bool true) w) := by
  have q1 : decide (60 < (n : Int)) = false := by simp; omega
  go_enter Try.func3, Try.ntmps3
  go_wp2_with (first
    | (go_at_call 9; refine (awake_any _).mono ?_; rintro e w' hr'; obtain ⟨rfl, s, rfl⟩ := hr'.over; clear hr')
    | (go_at_call 10; refine (few_any l _ _ true (hid_yes HF.out) (hI.out.ext (over_below w s)) hb).mono ?_; rintro e w' hr'; obtain ⟨rfl, s', rfl⟩ := hr'.over; clear hr')
    | (go_at_call 11; refine (new_yes l _ _ HK.out (hI.out.ext (over_below w _))).mono ?_; rintro e w1 ⟨L, rfl, hm, hx⟩; have HM := Lib.hid hm; have HX := Lib.hid (ext_trans (over_below w _) hx); clear hx hm)
    | (go_at_call 12; refine (rnew_yes l _ _ HK.out (hI.out.ext HX.out)).mono ?_; rintro e w2 ⟨R, rfl, hr, hx⟩; have HM2 := Lib.hid (HM.out.ext hx); have HR := Lib.hid hr; have HX2 := Lib.hid (ext_trans HX.out hx); have hs12 := hx.size; clear hx hr HM; generalize M0 l l.length = M at HM2 HR ⊢; unfold refV))
  have hlo : w.heap.size ≤ (over w (s.comp s')).heap.size := over_size w _
  have HR2 := Lib.hid (HR.out.avoid (.cells #[.slice R.wa M.n R.wc, .slice R.ea M.n R.ec, .int .i64 M.ct] 33))
  have HM3 := Lib.hid (HM2.out.alloc (.cells #[.slice R.wa M.n R.wc, .slice R.ea M.n R.ec, .int .i64 M.ct] 33))
  have HX3 := Lib.hid (ext_alloc (.cells #[.slice R.wa M.n R.wc, .slice R.ea M.n R.ec, .int .i64 M.ct] 33) HX2.out)
  have HB : Hid (BoxV w2.heap.size R M (w2.alloc (.cells #[.slice R.wa M.n R.wc, .slice R.ea M.n R.ec, .int .i64 M.ct] 33))) := by
    have h0 := heap_new w2 (.cells #[.slice R.wa M.n R.wc, .slice R.ea M.n R.ec, .int .i64 M.ct] 33) _ rfl
    exact Lib.hid ⟨cell_at h0 rfl, cell_at h0 rfl, cell_at h0 rfl, fun o => free_at h0⟩
  have hb0 : Hid (∀ b, (w1.heap.size ≤ b ∧ b ≠ w2.heap.size) → w1.heap.size ≤ b) := Lib.hid fun b hb => hb.1
  have hbs : Hid (¬ (w1.heap.size ≤ w2.heap.size ∧ w2.heap.size ≠ w2.heap.size)) := Lib.hid fun hh => hh.2 rfl
  have hws : w.heap.size ≤ w2.heap.size := HX2.out.size
  clear HR HM2 HX HX2
  generalize w2.alloc (.cells #[.slice R.wa M.n R.wc, .slice R.ea M.n R.ec, .int .i64 M.ct] 33) = wa at HR2 HM3 HX3 HB ⊢
  generalize (over w (s.comp s')).heap.size = lo at HM3 hlo
  generalize hB0 : (fun b => w1.heap.size ≤ b ∧ b ≠ w2.heap.size) = b0 at HR2
  replace hb0 : Hid (∀ b, b0 b → w1.heap.size ≤ b) := by rw [← hB0]; exact hb0
  replace hbs : Hid (¬ b0 w2.heap.size) := by rw [← hB0]; exact hbs
  clear hB0
  generalize w1.heap.size = hi at HM3 hs12 hb0
  generalize w2.heap.size = bs at hs12 HB hbs hws ⊢
  go_loopw [9] (fun i wr => PlaysRel n lo hi b0 L bs w i wr) (fun i _ => (n - intOf i).toNat)
  case atStart => exact ⟨0, M, R, Nat.zero_le _, rfl, HM3.out, HR2.out, HB.out, HX3.out⟩
  case round =>
    clear HM3 HR2 HB HX3
    obtain ⟨k, M, R, hk, rfl, hm, hr, hbx, hx⟩ := hrel
    have HM := Lib.hid hm
    have HR := Lib.hid hr
    have HB := Lib.hid hbx
    have HX := Lib.hid hx
    clear hm hr hbx hx
    by_cases hlt : k < n
    · obtain ⟨b, o, rfl, hbw0, hcells⟩ := hC.out.at (by omega)
      have C := Lib.hid (hcells k hlt)
      have hbl : b < lo := Nat.lt_of_lt_of_le hbw0 hlo
      have hbw : b < wr.heap.size := Nat.lt_of_lt_of_le hbw0 HX.out.size
      have l0 := cell_lt HB.out.k0
      clear hcells
      by_cases hkd : (f k).kind = 1
      · have d0 := ext_cell HX.out C.out.1
        have d1 := ext_cell HX.out C.out.2.1
        have q2 : ((f k).kind == 1) = true := by simpa using hkd
        clear hkd
        obtain ⟨M', x, y, z, hb1, hb2⟩ := bump_both M (f k).reg
        have E0 := Lib.hid hb1
        have E1 := Lib.hid hb2
        clear hb1 hb2
        go_wp2_with (go_at_call 13; refine (E0.out _ _ _ _ HM.out).mono ?_; rintro e Y ⟨rfl, hm, hf⟩; have HM6 := Lib.hid hm; have HF6 := Lib.hid hf; clear hm hf E0 HM)
        have HC8 := Lib.hid (BoxD.new Y (.int .i64 x) (.int .u64 (U y)) 38)
        have HM8 := Lib.hid (HM6.out.alloc (.cells #[.int .i64 x, .int .u64 (U y)] 38))
        have HR8 := Lib.hid ((HR.out.fr HF6.out (fun x hx => .inr (hb0.out x hx))).alloc (.cells #[.int .i64 x, .int .u64 (U y)] 38))
        have HB8 := Lib.hid ((HB.out.fr HF6.out (.inr hs12)).ext (ext_alloc (.cells #[.int .i64 x, .int .u64 (U y)] 38) (ext_refl Y)))
        have HX8 := Lib.hid (ext_alloc (.cells #[.int .i64 x, .int .u64 (U y)] 38) (HF6.out.below HX.out hlo))
        have hbw8 : b < (Y.alloc (.cells #[.int .i64 x, .int .u64 (U y)] 38)).heap.size := Nat.lt_of_lt_of_le hbw0 HX8.out.size
        have hsc : bs ≠ Y.heap.size := Nat.ne_of_lt (Nat.lt_of_lt_of_le l0 HF6.out.size)
        clear HM6 HR HB HX HF6 d0 d1 hbw l0
        generalize Y.alloc (.cells #[.int .i64 x, .int .u64 (U y)] 38) = Z at HC8 HM8 HR8 HB8 HX8 hbw8 ⊢
        generalize Y.heap.size = bc at HC8 hsc ⊢
        have d0 := ext_cell HX8.out C.out.1
        have d1 := ext_cell HX8.out C.out.2.1
        obtain ⟨k0, k1, k2, kz⟩ := HB8.out
        have l8 := cell_lt k0
        have l9 := cell_lt HC8.out.c0
        go_wp2
        refine wp_region_ways (fun x => ∃ s, x = over Z s) (by kernel_rfl) (over_of (ext_drew (ext_refl Z))) ?_
        refine ways_reads [0, 1, 2, 3, 4, 5, 6] (by kernel_rfl) ?_
        simp only [pickL, List.map_cons, List.map_nil, List.getD_cons_zero, List.getD_cons_succ]
        repeat (go_big_quiet_step (fail))
        refine wpQuiet_nil ?_
        clear d0 d1 k0 k1 k2 kz
        have HZ := Lib.hid (ext_drew (ext_refl Z))
        have HR9 := Lib.hid (HR8.out.ext HZ.out)
        have hcb : Hid (∀ b, b0 b → b0 b) := Lib.hid fun _ h => h
        generalize Z.drew = X0 at HZ HR9 ⊢
        refine ways_fork 7 (by kernel_rfl) ?_ (ways_fork 12 (by kernel_rfl) ?_ (ways_act 13 (by kernel_rfl) ?_))
        · simp only [pickL, List.map_cons, List.map_nil, List.getD_cons_zero, List.getD_cons_succ]
          go_wp2_with (go_at_call 14; refine (E1.out _ _ _ HR9.out).mono ?_; rintro e X1 ⟨R', rfl, hr, hx⟩; replace HR9 := Lib.hid hr; replace HZ := Lib.hid (ext_trans HZ.out hx); clear hr hx E1; unfold refV)
          refine mixQ_mk (over_of HZ.out) (ways_reads [8, 9, 10, 11] (by kernel_rfl) ?_)
          simp only [pickL, List.map_cons, List.map_nil, List.getD_cons_zero, List.getD_cons_succ]
          repeat (go_big_quiet_step (fail))
          refine wpQuiet_nil ?_
          refine ways_fork 12 (by kernel_rfl) ?_ (ways_act 13 (by kernel_rfl) ?_)
          · simp only [pickL, List.map_cons, List.map_nil, List.getD_cons_zero, List.getD_cons_succ]
            go_wp2
            obtain ⟨c2, hcb', hnn, hn', hr⟩ := HR9.out.avoid' hcb (.cells #[.slice none 0 0, .slice none 0 0, .int .i64 0] 33)
            replace HR9 := Lib.hid hr
            replace hcb := hcb'
            have hnx := Lib.hid hn'
            have HA := Lib.hid (BoxA.new X1 (.slice none 0 0) (.slice none 0 0) (.int .i64 0) 33)
            have hgx : Z.heap.size ≤ X1.heap.size := HZ.out.size
            replace HZ := Lib.hid (ext_alloc (.cells #[.slice none 0 0, .slice none 0 0, .int .i64 0] 33) HZ.out)
            clear hr hcb' hnn hn'
            refine mixQ_mk (over_of HZ.out) ?_
            generalize X1.alloc (.cells #[.slice none 0 0, .slice none 0 0, .int .i64 0] 33) = X2 at HR9 HA HZ ⊢
            generalize X1.heap.size = bx at HA hgx hnx ⊢
            refine ways_act 13 (by kernel_rfl) ?_
            simp only [pickL, List.map_cons, List.map_nil, List.getD_cons_zero, List.getD_cons_succ]
            go_wp2
            obtain ⟨c3, hcb', hnn, hn', hr⟩ := HR9.out.avoid' hcb (.cells #[.int .i64 0, .int .u64 0] 38)
            replace HR9 := Lib.hid hr
            replace hcb := hcb'
            have hnd := Lib.hid hn'
            have HD := Lib.hid (BoxD.new X2 (.int .i64 0) (.int .u64 0) 38)
            have hgd : Z.heap.size ≤ X2.heap.size := HZ.out.size
            have hxd : bx ≠ X2.heap.size := Nat.ne_of_lt (cell_lt HA.out.k0)
            replace HA := Lib.hid (HA.out.ext (ext_alloc (.cells #[.int .i64 0, .int .u64 0] 38) (ext_refl _)))
            replace hnx := Lib.hid (hnn.out _ hnx.out)
            replace HZ := Lib.hid (ext_alloc (.cells #[.int .i64 0, .int .u64 0] 38) HZ.out)
            clear hr hcb' hnn hn'
            refine mixQ_mk (over_of HZ.out) ?_
            generalize X2.alloc (.cells #[.int .i64 0, .int .u64 0] 38) = X3 at HR9 HD HZ HA ⊢
            generalize X2.heap.size = bd at HD hgd hnd hxd ⊢
            refine ways_act 14 (by kernel_rfl) ?_
            simp only [pickL, List.map_cons, List.map_nil, List.getD_cons_zero, List.getD_cons_succ]
            obtain ⟨p0, p1, p2, pz⟩ := HA.out
            have la := cell_lt p0
            go_wp2
            replace HZ := Lib.hid (ext_set (.int .i64 M'.ct) (p := ⟨bx, 2, none⟩) hgx (ext_set (.slice R'.ea M'.n R'.ec) (p := ⟨bx, 1, none⟩) hgx (ext_set (.slice R'.wa M'.n R'.wc) (p := ⟨bx, 0, none⟩) hgx HZ.out)))
            refine mixQ_mk (over_of HZ.out) (ways_act 15 (by kernel_rfl) ?_)
            simp only [pickL, List.map_cons, List.map_nil, List.getD_cons_zero, List.getD_cons_succ]
            replace HR9 := Lib.hid ((((HR9.out.setOut (.slice R'.wa M'.n R'.wc) (p := ⟨bx, 0, none⟩) hnx.out).setOut (.slice R'.ea M'.n R'.ec) (p := ⟨bx, 1, none⟩) hnx.out).setOut (.int .i64 M'.ct) (p := ⟨bx, 2, none⟩) hnx.out))
            replace HD := Lib.hid (((HD.out.far (.slice R'.wa M'.n R'.wc) (p := ⟨bx, 0, none⟩) hxd.symm).far (.slice R'.ea M'.n R'.ec) (p := ⟨bx, 1, none⟩) hxd.symm).far (.int .i64 M'.ct) (p := ⟨bx, 2, none⟩) hxd.symm)
            have HV := Lib.hid (boxA_put HA.out R' M')
            clear p0 p1 p2 pz la HA
            generalize ((X3.setCell ⟨bx, 0, none⟩ (.slice R'.wa M'.n R'.wc)).setCell ⟨bx, 1, none⟩ (.slice R'.ea M'.n R'.ec)).setCell ⟨bx, 2, none⟩ (.int .i64 M'.ct) = X4 at HR9 HD HV HZ ⊢
            obtain ⟨c0, c1, cz⟩ := HD.out
            have ld := cell_lt c0
            go_wp2
            replace HZ := Lib.hid (ext_set (.int .u64 (U y)) (p := ⟨bd, 1, none⟩) hgd (ext_set (.int .i64 x) (p := ⟨bd, 0, none⟩) hgd HZ.out))
            refine mixQ_mk (over_of HZ.out) (ways_reads [16] (by kernel_rfl) ?_)
            simp only [pickL, List.map_cons, List.map_nil, List.getD_cons_zero, List.getD_cons_succ]
            repeat (go_big_quiet_step (fail))
            refine wpQuiet_nil (ways_end (by kernel_rfl) ?_)
            replace HR9 := Lib.hid (((HR9.out.setOut (.int .i64 x) (p := ⟨bd, 0, none⟩) hnd.out).setOut (.int .u64 (U y)) (p := ⟨bd, 1, none⟩) hnd.out).mono hcb.out)
            replace HV := Lib.hid ((HV.out.far (.int .i64 x) (p := ⟨bd, 0, none⟩) hxd).far (.int .u64 (U y)) (p := ⟨bd, 1, none⟩) hxd)
            replace HD := Lib.hid (boxD_put HD.out (.int .i64 x) (.int .u64 (U y)))
            have HB9 := Lib.hid (HB8.out.ext HZ.out)
            have HM9 := Lib.hid (HM8.out.ext HZ.out)
            have HC9 := Lib.hid (HC8.out.ext HZ.out)
            have HY9 := Lib.hid (ext_trans HX8.out HZ.out)
            have hsx : bs ≠ bx := Nat.ne_of_lt (Nat.lt_of_lt_of_le l8 hgx)
            have hsd : bs ≠ bd := Nat.ne_of_lt (Nat.lt_of_lt_of_le l8 hgd)
            clear HB8 HM8 HC8 HR8 HX8 HZ c0 c1 cz ld C hbw8 l8 l9
            generalize (X4.setCell ⟨bd, 0, none⟩ (.int .i64 x)).setCell ⟨bd, 1, none⟩ (.int .u64 (U y)) = T at HR9 HV HD HB9 HM9 HC9 HY9 ⊢
            obtain ⟨k0, k1, k2, kz⟩ := HB9.out
            obtain ⟨p0, p1, p2, pz⟩ := HV.out
            obtain ⟨c0, c1, cz⟩ := HC9.out
            obtain ⟨e0, e1, ez⟩ := HD.out
            have l8 := cell_lt k0
            go_wp2
            exact plays_next hlt HB9 HM9 HR9 HY9 hs12 hbs hws
          · simp only [pickL, List.map_cons, List.map_nil, List.getD_cons_zero, List.getD_cons_succ]
            go_wp2
            obtain ⟨c2, hcb', hnn, hn', hr⟩ := HR9.out.avoid' hcb (.cells #[.int .i64 0, .int .u64 0] 38)
            replace HR9 := Lib.hid hr
            replace hcb := hcb'
            have hnd := Lib.hid hn'
            have HD := Lib.hid (BoxD.new X1 (.int .i64 0) (.int .u64 0) 38)
            have hgd : Z.heap.size ≤ X1.heap.size := HZ.out.size
            replace HZ := Lib.hid (ext_alloc (.cells #[.int .i64 0, .int .u64 0] 38) HZ.out)
            clear hr hcb' hnn hn'
            refine mixQ_mk (over_of HZ.out) ?_
            generalize X1.alloc (.cells #[.int .i64 0, .int .u64 0] 38) = X2 at HR9 HD HZ ⊢
            generalize X1.heap.size = bd at HD hgd hnd ⊢
            refine ways_act 12 (by kernel_rfl) ?_
            simp only [pickL, List.map_cons, List.map_nil, List.getD_cons_zero, List.getD_cons_succ]
            go_wp2
            obtain ⟨c3, hcb', hnn, hn', hr⟩ := HR9.out.avoid' hcb (.cells #[.slice none 0 0, .slice none 0 0, .int .i64 0] 33)
            replace HR9 := Lib.hid hr
            replace hcb := hcb'
            have hnx := Lib.hid hn'
            have HA := Lib.hid (BoxA.new X2 (.slice none 0 0) (.slice none 0 0) (.int .i64 0) 33)
            have hgx : Z.heap.size ≤ X2.heap.size := HZ.out.size
            have hxd : bd ≠ X2.heap.size := Nat.ne_of_lt (cell_lt HD.out.c0)
            replace HD := Lib.hid (HD.out.ext (ext_alloc (.cells #[.slice none 0 0, .slice none 0 0, .int .i64 0] 33) (ext_refl _)))
            replace hnd := Lib.hid (hnn.out _ hnd.out)
            replace HZ := Lib.hid (ext_alloc (.cells #[.slice none 0 0, .slice none 0 0, .int .i64 0] 33) HZ.out)
            clear hr hcb' hnn hn'
            refine mixQ_mk (over_of HZ.out) ?_
            generalize X2.alloc (.cells #[.slice none 0 0, .slice none 0 0, .int .i64 0] 33) = X3 at HR9 HA HZ HD ⊢
            generalize X2.heap.size = bx at HA hgx hnx hxd ⊢
            replace hxd := Ne.symm hxd
            refine ways_act 14 (by kernel_rfl) ?_
            simp only [pickL, List.map_cons, List.map_nil, List.getD_cons_zero, List.getD_cons_succ]
            obtain ⟨p0, p1, p2, pz⟩ := HA.out
            have la := cell_lt p0
            go_wp2
            replace HZ := Lib.hid (ext_set (.int .i64 M'.ct) (p := ⟨bx, 2, none⟩) hgx (ext_set (.slice R'.ea M'.n R'.ec) (p := ⟨bx, 1, none⟩) hgx (ext_set (.slice R'.wa M'.n R'.wc) (p := ⟨bx, 0, none⟩) hgx HZ.out)))
            refine mixQ_mk (over_of HZ.out) (ways_act 15 (by kernel_rfl) ?_)
            simp only [pickL, List.map_cons, List.map_nil, List.getD_cons_zero, List.getD_cons_succ]
            replace HR9 := Lib.hid ((((HR9.out.setOut (.slice R'.wa M'.n R'.wc) (p := ⟨bx, 0, none⟩) hnx.out).setOut (.slice R'.ea M'.n R'.ec) (p := ⟨bx, 1, none⟩) hnx.out).setOut (.int .i64 M'.ct) (p := ⟨bx, 2, none⟩) hnx.out))
            replace HD := Lib.hid (((HD.out.far (.slice R'.wa M'.n R'.wc) (p := ⟨bx, 0, none⟩) hxd.symm).far (.slice R'.ea M'.n R'.ec) (p := ⟨bx, 1, none⟩) hxd.symm).far (.int .i64 M'.ct) (p := ⟨bx, 2, none⟩) hxd.symm)
            have HV := Lib.hid (boxA_put HA.out R' M')
            clear p0 p1 p2 pz la HA
            generalize ((X3.setCell ⟨bx, 0, none⟩ (.slice R'.wa M'.n R'.wc)).setCell ⟨bx, 1, none⟩ (.slice R'.ea M'.n R'.ec)).setCell ⟨bx, 2, none⟩ (.int .i64 M'.ct) = X4 at HR9 HD HV HZ ⊢
            obtain ⟨c0, c1, cz⟩ := HD.out
            have ld := cell_lt c0
            go_wp2
            replace HZ := Lib.hid (ext_set (.int .u64 (U y)) (p := ⟨bd, 1, none⟩) hgd (ext_set (.int .i64 x) (p := ⟨bd, 0, none⟩) hgd HZ.out))
            refine mixQ_mk (over_of HZ.out) (ways_reads [16] (by kernel_rfl) ?_)
            simp only [pickL, List.map_cons, List.map_nil, List.getD_cons_zero, List.getD_cons_succ]
            repeat (go_big_quiet_step (fail))
            refine wpQuiet_nil (ways_end (by kernel_rfl) ?_)
            replace HR9 := Lib.hid (((HR9.out.setOut (.int .i64 x) (p := ⟨bd, 0, none⟩) hnd.out).setOut (.int .u64 (U y)) (p := ⟨bd, 1, none⟩) hnd.out).mono hcb.out)
            replace HV := Lib.hid ((HV.out.far (.int .i64 x) (p := ⟨bd, 0, none⟩) hxd).far (.int .u64 (U y)) (p := ⟨bd, 1, none⟩) hxd)
            replace HD := Lib.hid (boxD_put HD.out (.int .i64 x) (.int .u64 (U y)))
            have HB9 := Lib.hid (HB8.out.ext HZ.out)
            have HM9 := Lib.hid (HM8.out.ext HZ.out)
            have HC9 := Lib.hid (HC8.out.ext HZ.out)
            have HY9 := Lib.hid (ext_trans HX8.out HZ.out)
            have hsx : bs ≠ bx := Nat.ne_of_lt (Nat.lt_of_lt_of_le l8 hgx)
            have hsd : bs ≠ bd := Nat.ne_of_lt (Nat.lt_of_lt_of_le l8 hgd)
            clear HB8 HM8 HC8 HR8 HX8 HZ c0 c1 cz ld C hbw8 l8 l9
            generalize (X4.setCell ⟨bd, 0, none⟩ (.int .i64 x)).setCell ⟨bd, 1, none⟩ (.int .u64 (U y)) = T at HR9 HV HD HB9 HM9 HC9 HY9 ⊢
            obtain ⟨k0, k1, k2, kz⟩ := HB9.out
            obtain ⟨p0, p1, p2, pz⟩ := HV.out
            obtain ⟨c0, c1, cz⟩ := HC9.out
            obtain ⟨e0, e1, ez⟩ := HD.out
            have l8 := cell_lt k0
            go_wp2
            exact plays_next hlt HB9 HM9 HR9 HY9 hs12 hbs hws
        · simp only [pickL, List.map_cons, List.map_nil, List.getD_cons_zero, List.getD_cons_succ]
          go_wp2
          obtain ⟨c1, hcb', hnn, hn', hr⟩ := HR9.out.avoid' hcb (.cells #[.slice none 0 0, .slice none 0 0, .int .i64 0] 33)
          replace HR9 := Lib.hid hr
          replace hcb := hcb'
          have hnx := Lib.hid hn'
          have HA := Lib.hid (BoxA.new X0 (.slice none 0 0) (.slice none 0 0) (.int .i64 0) 33)
          have hgx : Z.heap.size ≤ X0.heap.size := HZ.out.size
          replace HZ := Lib.hid (ext_alloc (.cells #[.slice none 0 0, .slice none 0 0, .int .i64 0] 33) HZ.out)
          clear hr hcb' hnn hn'
          refine mixQ_mk (over_of HZ.out) ?_
          generalize X0.alloc (.cells #[.slice none 0 0, .slice none 0 0, .int .i64 0] 33) = X1 at HR9 HA HZ ⊢
          generalize X0.heap.size = bx at HA hgx hnx ⊢
          refine ways_fork 7 (by kernel_rfl) ?_ (ways_act 13 (by kernel_rfl) ?_)
          · simp only [pickL, List.map_cons, List.map_nil, List.getD_cons_zero, List.getD_cons_succ]
            go_wp2_with (go_at_call 14; refine (E1.out _ _ _ HR9.out).mono ?_; rintro e X2 ⟨R', rfl, hr, hx⟩; replace HR9 := Lib.hid hr; replace HZ := Lib.hid (ext_trans HZ.out hx); replace HA := Lib.hid (HA.out.ext hx); clear hr hx E1; unfold refV)
            refine mixQ_mk (over_of HZ.out) (ways_reads [8, 9, 10, 11] (by kernel_rfl) ?_)
            simp only [pickL, List.map_cons, List.map_nil, List.getD_cons_zero, List.getD_cons_succ]
            repeat (go_big_quiet_step (fail))
            refine wpQuiet_nil ?_
            refine ways_act 13 (by kernel_rfl) ?_
            simp only [pickL, List.map_cons, List.map_nil, List.getD_cons_zero, List.getD_cons_succ]
            go_wp2
            obtain ⟨c3, hcb', hnn, hn', hr⟩ := HR9.out.avoid' hcb (.cells #[.int .i64 0, .int .u64 0] 38)
            replace HR9 := Lib.hid hr
            replace hcb := hcb'
            have hnd := Lib.hid hn'
            have HD := Lib.hid (BoxD.new X2 (.int .i64 0) (.int .u64 0) 38)
            have hgd : Z.heap.size ≤ X2.heap.size := HZ.out.size
            have hxd : bx ≠ X2.heap.size := Nat.ne_of_lt (cell_lt HA.out.k0)
            replace HA := Lib.hid (HA.out.ext (ext_alloc (.cells #[.int .i64 0, .int .u64 0] 38) (ext_refl _)))
            replace hnx := Lib.hid (hnn.out _ hnx.out)
            replace HZ := Lib.hid (ext_alloc (.cells #[.int .i64 0, .int .u64 0] 38) HZ.out)
            clear hr hcb' hnn hn'
            refine mixQ_mk (over_of HZ.out) ?_
            generalize X2.alloc (.cells #[.int .i64 0, .int .u64 0] 38) = X3 at HR9 HD HZ HA ⊢
            generalize X2.heap.size = bd at HD hgd hnd hxd ⊢
            refine ways_act 14 (by kernel_rfl) ?_
            simp only [pickL, List.map_cons, List.map_nil, List.getD_cons_zero, List.getD_cons_succ]
            obtain ⟨p0, p1, p2, pz⟩ := HA.out
            have la := cell_lt p0
            go_wp2
            replace HZ := Lib.hid (ext_set (.int .i64 M'.ct) (p := ⟨bx, 2, none⟩) hgx (ext_set (.slice R'.ea M'.n R'.ec) (p := ⟨bx, 1, none⟩) hgx (ext_set (.slice R'.wa M'.n R'.wc) (p := ⟨bx, 0, none⟩) hgx HZ.out)))
            refine mixQ_mk (over_of HZ.out) (ways_act 15 (by kernel_rfl) ?_)
            simp only [pickL, List.map_cons, List.map_nil, List.getD_cons_zero, List.getD_cons_succ]
            replace HR9 := Lib.hid ((((HR9.out.setOut (.slice R'.wa M'.n R'.wc) (p := ⟨bx, 0, none⟩) hnx.out).setOut (.slice R'.ea M'.n R'.ec) (p := ⟨bx, 1, none⟩) hnx.out).setOut (.int .i64 M'.ct) (p := ⟨bx, 2, none⟩) hnx.out))
            replace HD := Lib.hid (((HD.out.far (.slice R'.wa M'.n R'.wc) (p := ⟨bx, 0, none⟩) hxd.symm).far (.slice R'.ea M'.n R'.ec) (p := ⟨bx, 1, none⟩) hxd.symm).far (.int .i64 M'.ct) (p := ⟨bx, 2, none⟩) hxd.symm)
            have HV := Lib.hid (boxA_put HA.out R' M')
            clear p0 p1 p2 pz la HA
            generalize ((X3.setCell ⟨bx, 0, none⟩ (.slice R'.wa M'.n R'.wc)).setCell ⟨bx, 1, none⟩ (.slice R'.ea M'.n R'.ec)).setCell ⟨bx, 2, none⟩ (.int .i64 M'.ct) = X4 at HR9 HD HV HZ ⊢
            obtain ⟨c0, c1, cz⟩ := HD.out
            have ld := cell_lt c0
            go_wp2
            replace HZ := Lib.hid (ext_set (.int .u64 (U y)) (p := ⟨bd, 1, none⟩) hgd (ext_set (.int .i64 x) (p := ⟨bd, 0, none⟩) hgd HZ.out))
            refine mixQ_mk (over_of HZ.out) (ways_reads [16] (by kernel_rfl) ?_)
            simp only [pickL, List.map_cons, List.map_nil, List.getD_cons_zero, List.getD_cons_succ]
            repeat (go_big_quiet_step (fail))
            refine wpQuiet_nil (ways_end (by kernel_rfl) ?_)
            replace HR9 := Lib.hid (((HR9.out.setOut (.int .i64 x) (p := ⟨bd, 0, none⟩) hnd.out).setOut (.int .u64 (U y)) (p := ⟨bd, 1, none⟩) hnd.out).mono hcb.out)
            replace HV := Lib.hid ((HV.out.far (.int .i64 x) (p := ⟨bd, 0, none⟩) hxd).far (.int .u64 (U y)) (p := ⟨bd, 1, none⟩) hxd)
            replace HD := Lib.hid (boxD_put HD.out (.int .i64 x) (.int .u64 (U y)))
            have HB9 := Lib.hid (HB8.out.ext HZ.out)
            have HM9 := Lib.hid (HM8.out.ext HZ.out)
            have HC9 := Lib.hid (HC8.out.ext HZ.out)
            have HY9 := Lib.hid (ext_trans HX8.out HZ.out)
            have hsx : bs ≠ bx := Nat.ne_of_lt (Nat.lt_of_lt_of_le l8 hgx)
            have hsd : bs ≠ bd := Nat.ne_of_lt (Nat.lt_of_lt_of_le l8 hgd)
            clear HB8 HM8 HC8 HR8 HX8 HZ c0 c1 cz ld C hbw8 l8 l9
            generalize (X4.setCell ⟨bd, 0, none⟩ (.int .i64 x)).setCell ⟨bd, 1, none⟩ (.int .u64 (U y)) = T at HR9 HV HD HB9 HM9 HC9 HY9 ⊢
            obtain ⟨k0, k1, k2, kz⟩ := HB9.out
            obtain ⟨p0, p1, p2, pz⟩ := HV.out
            obtain ⟨c0, c1, cz⟩ := HC9.out
            obtain ⟨e0, e1, ez⟩ := HD.out
            have l8 := cell_lt k0
            go_wp2
            exact plays_next hlt HB9 HM9 HR9 HY9 hs12 hbs hws
          · simp only [pickL, List.map_cons, List.map_nil, List.getD_cons_zero, List.getD_cons_succ]
            go_wp2
            obtain ⟨c2, hcb', hnn, hn', hr⟩ := HR9.out.avoid' hcb (.cells #[.int .i64 0, .int .u64 0] 38)
            replace HR9 := Lib.hid hr
            replace hcb := hcb'
            have hnd := Lib.hid hn'
            have HD := Lib.hid (BoxD.new X1 (.int .i64 0) (.int .u64 0) 38)
            have hgd : Z.heap.size ≤ X1.heap.size := HZ.out.size
            have hxd : bx ≠ X1.heap.size := Nat.ne_of_lt (cell_lt HA.out.k0)
            replace HA := Lib.hid (HA.out.ext (ext_alloc (.cells #[.int .i64 0, .int .u64 0] 38) (ext_refl _)))
            replace hnx := Lib.hid (hnn.out _ hnx.out)
            replace HZ := Lib.hid (ext_alloc (.cells #[.int .i64 0, .int .u64 0] 38) HZ.out)
            clear hr hcb' hnn hn'
            refine mixQ_mk (over_of HZ.out) ?_
            generalize X1.alloc (.cells #[.int .i64 0, .int .u64 0] 38) = X2 at HR9 HD HZ HA ⊢
            generalize X1.heap.size = bd at HD hgd hnd hxd ⊢
            refine ways_act 7 (by kernel_rfl) ?_
            simp only [pickL, List.map_cons, List.map_nil, List.getD_cons_zero, List.getD_cons_succ]
            go_wp2_with (go_at_call 14; refine (E1.out _ _ _ HR9.out).mono ?_; rintro e X3 ⟨R', rfl, hr, hx⟩; replace HR9 := Lib.hid hr; replace HZ := Lib.hid (ext_trans HZ.out hx); replace HA := Lib.hid (HA.out.ext hx); replace HD := Lib.hid (HD.out.ext hx); clear hr hx E1; unfold refV)
            refine mixQ_mk (over_of HZ.out) (ways_reads [8, 9, 10, 11] (by kernel_rfl) ?_)
            simp only [pickL, List.map_cons, List.map_nil, List.getD_cons_zero, List.getD_cons_succ]
            repeat (go_big_quiet_step (fail))
            refine wpQuiet_nil ?_
            refine ways_act 14 (by kernel_rfl) ?_
            simp only [pickL, List.map_cons, List.map_nil, List.getD_cons_zero, List.getD_cons_succ]
            obtain ⟨p0, p1, p2, pz⟩ := HA.out
            have la := cell_lt p0
            go_wp2
            replace HZ := Lib.hid (ext_set (.int .i64 M'.ct) (p := ⟨bx, 2, none⟩) hgx (ext_set (.slice R'.ea M'.n R'.ec) (p := ⟨bx, 1, none⟩) hgx (ext_set (.slice R'.wa M'.n R'.wc) (p := ⟨bx, 0, none⟩) hgx HZ.out)))
            refine mixQ_mk (over_of HZ.out) (ways_act 15 (by kernel_rfl) ?_)
            simp only [pickL, List.map_cons, List.map_nil, List.getD_cons_zero, List.getD_cons_succ]
            replace HR9 := Lib.hid ((((HR9.out.setOut (.slice R'.wa M'.n R'.wc) (p := ⟨bx, 0, none⟩) hnx.out).setOut (.slice R'.ea M'.n R'.ec) (p := ⟨bx, 1, none⟩) hnx.out).setOut (.int .i64 M'.ct) (p := ⟨bx, 2, none⟩) hnx.out))
            replace HD := Lib.hid (((HD.out.far (.slice R'.wa M'.n R'.wc) (p := ⟨bx, 0, none⟩) hxd.symm).far (.slice R'.ea M'.n R'.ec) (p := ⟨bx, 1, none⟩) hxd.symm).far (.int .i64 M'.ct) (p := ⟨bx, 2, none⟩) hxd.symm)
            have HV := Lib.hid (boxA_put HA.out R' M')
            clear p0 p1 p2 pz la HA
            generalize ((X3.setCell ⟨bx, 0, none⟩ (.slice R'.wa M'.n R'.wc)).setCell ⟨bx, 1, none⟩ (.slice R'.ea M'.n R'.ec)).setCell ⟨bx, 2, none⟩ (.int .i64 M'.ct) = X4 at HR9 HD HV HZ ⊢
            obtain ⟨c0, c1, cz⟩ := HD.out
            have ld := cell_lt c0
            go_wp2
            replace HZ := Lib.hid (ext_set (.int .u64 (U y)) (p := ⟨bd, 1, none⟩) hgd (ext_set (.int .i64 x) (p := ⟨bd, 0, none⟩) hgd HZ.out))
            refine mixQ_mk (over_of HZ.out) (ways_reads [16] (by kernel_rfl) ?_)
            simp only [pickL, List.map_cons, List.map_nil, List.getD_cons_zero, List.getD_cons_succ]
            repeat (go_big_quiet_step (fail))
            refine wpQuiet_nil (ways_end (by kernel_rfl) ?_)
            replace HR9 := Lib.hid (((HR9.out.setOut (.int .i64 x) (p := ⟨bd, 0, none⟩) hnd.out).setOut (.int .u64 (U y)) (p := ⟨bd, 1, none⟩) hnd.out).mono hcb.out)
            replace HV := Lib.hid ((HV.out.far (.int .i64 x) (p := ⟨bd, 0, none⟩) hxd).far (.int .u64 (U y)) (p := ⟨bd, 1, none⟩) hxd)
            replace HD := Lib.hid (boxD_put HD.out (.int .i64 x) (.int .u64 (U y)))
            have HB9 := Lib.hid (HB8.out.ext HZ.out)
            have HM9 := Lib.hid (HM8.out.ext HZ.out)
            have HC9 := Lib.hid (HC8.out.ext HZ.out)
            have HY9 := Lib.hid (ext_trans HX8.out HZ.out)
            have hsx : bs ≠ bx := Nat.ne_of_lt (Nat.lt_of_lt_of_le l8 hgx)
            have hsd : bs ≠ bd := Nat.ne_of_lt (Nat.lt_of_lt_of_le l8 hgd)
            clear HB8 HM8 HC8 HR8 HX8 HZ c0 c1 cz ld C hbw8 l8 l9
            generalize (X4.setCell ⟨bd, 0, none⟩ (.int .i64 x)).setCell ⟨bd, 1, none⟩ (.int .u64 (U y)) = T at HR9 HV HD HB9 HM9 HC9 HY9 ⊢
            obtain ⟨k0, k1, k2, kz⟩ := HB9.out
            obtain ⟨p0, p1, p2, pz⟩ := HV.out
            obtain ⟨c0, c1, cz⟩ := HC9.out
            obtain ⟨e0, e1, ez⟩ := HD.out
            have l8 := cell_lt k0
            go_wp2
            exact plays_next hlt HB9 HM9 HR9 HY9 hs12 hbs hws
        · simp only [pickL, List.map_cons, List.map_nil, List.getD_cons_zero, List.getD_cons_succ]
          go_wp2
          obtain ⟨c1, hcb', hnn, hn', hr⟩ := HR9.out.avoid' hcb (.cells #[.int .i64 0, .int .u64 0] 38)
          replace HR9 := Lib.hid hr
          replace hcb := hcb'
          have hnd := Lib.hid hn'
          have HD := Lib.hid (BoxD.new X0 (.int .i64 0) (.int .u64 0) 38)
          have hgd : Z.heap.size ≤ X0.heap.size := HZ.out.size
          replace HZ := Lib.hid (ext_alloc (.cells #[.int .i64 0, .int .u64 0] 38) HZ.out)
          clear hr hcb' hnn hn'
          refine mixQ_mk (over_of HZ.out) ?_
          generalize X0.alloc (.cells #[.int .i64 0, .int .u64 0] 38) = X1 at HR9 HD HZ ⊢
          generalize X0.heap.size = bd at HD hgd hnd ⊢
          refine ways_fork 7 (by kernel_rfl) ?_ (ways_act 12 (by kernel_rfl) ?_)
          · simp only [pickL, List.map_cons, List.map_nil, List.getD_cons_zero, List.getD_cons_succ]
            go_wp2_with (go_at_call 14; refine (E1.out _ _ _ HR9.out).mono ?_; rintro e X2 ⟨R', rfl, hr, hx⟩; replace HR9 := Lib.hid hr; replace HZ := Lib.hid (ext_trans HZ.out hx); replace HD := Lib.hid (HD.out.ext hx); clear hr hx E1; unfold refV)
            refine mixQ_mk (over_of HZ.out) (ways_reads [8, 9, 10, 11] (by kernel_rfl) ?_)
            simp only [pickL, List.map_cons, List.map_nil, List.getD_cons_zero, List.getD_cons_succ]
            repeat (go_big_quiet_step (fail))
            refine wpQuiet_nil ?_
            refine ways_act 12 (by kernel_rfl) ?_
            simp only [pickL, List.map_cons, List.map_nil, List.getD_cons_zero, List.getD_cons_succ]
            go_wp2
            obtain ⟨c3, hcb', hnn, hn', hr⟩ := HR9.out.avoid' hcb (.cells #[.slice none 0 0, .slice none 0 0, .int .i64 0] 33)
            replace HR9 := Lib.hid hr
            replace hcb := hcb'
            have hnx := Lib.hid hn'
            have HA := Lib.hid (BoxA.new X2 (.slice none 0 0) (.slice none 0 0) (.int .i64 0) 33)
            have hgx : Z.heap.size ≤ X2.heap.size := HZ.out.size
            have hxd : bd ≠ X2.heap.size := Nat.ne_of_lt (cell_lt HD.out.c0)
            replace HD := Lib.hid (HD.out.ext (ext_alloc (.cells #[.slice none 0 0, .slice none 0 0, .int .i64 0] 33) (ext_refl _)))
            replace hnd := Lib.hid (hnn.out _ hnd.out)
            replace HZ := Lib.hid (ext_alloc (.cells #[.slice none 0 0, .slice none 0 0, .int .i64 0] 33) HZ.out)
            clear hr hcb' hnn hn'
            refine mixQ_mk (over_of HZ.out) ?_
            generalize X2.alloc (.cells #[.slice none 0 0, .slice none 0 0, .int .i64 0] 33) = X3 at HR9 HA HZ HD ⊢
            generalize X2.heap.size = bx at HA hgx hnx hxd ⊢
            replace hxd := Ne.symm hxd
            refine ways_act 14 (by kernel_rfl) ?_
            simp only [pickL, List.map_cons, List.map_nil, List.getD_cons_zero, List.getD_cons_succ]
            obtain ⟨p0, p1, p2, pz⟩ := HA.out
            have la := cell_lt p0
            go_wp2
            replace HZ := Lib.hid (ext_set (.int .i64 M'.ct) (p := ⟨bx, 2, none⟩) hgx (ext_set (.slice R'.ea M'.n R'.ec) (p := ⟨bx, 1, none⟩) hgx (ext_set (.slice R'.wa M'.n R'.wc) (p := ⟨bx, 0, none⟩) hgx HZ.out)))
            refine mixQ_mk (over_of HZ.out) (ways_act 15 (by kernel_rfl) ?_)
            simp only [pickL, List.map_cons, List.map_nil, List.getD_cons_zero, List.getD_cons_succ]
            replace HR9 := Lib.hid ((((HR9.out.setOut (.slice R'.wa M'.n R'.wc) (p := ⟨bx, 0, none⟩) hnx.out).setOut (.slice R'.ea M'.n R'.ec) (p := ⟨bx, 1, none⟩) hnx.out).setOut (.int .i64 M'.ct) (p := ⟨bx, 2, none⟩) hnx.out))
            replace HD := Lib.hid (((HD.out.far (.slice R'.wa M'.n R'.wc) (p := ⟨bx, 0, none⟩) hxd.symm).far (.slice R'.ea M'.n R'.ec) (p := ⟨bx, 1, none⟩) hxd.symm).far (.int .i64 M'.ct) (p := ⟨bx, 2, none⟩) hxd.symm)
            have HV := Lib.hid (boxA_put HA.out R' M')
            clear p0 p1 p2 pz la HA
            generalize ((X3.setCell ⟨bx, 0, none⟩ (.slice R'.wa M'.n R'.wc)).setCell ⟨bx, 1, none⟩ (.slice R'.ea M'.n R'.ec)).setCell ⟨bx, 2, none⟩ (.int .i64 M'.ct) = X4 at HR9 HD HV HZ ⊢
            obtain ⟨c0, c1, cz⟩ := HD.out
            have ld := cell_lt c0
            go_wp2
            replace HZ := Lib.hid (ext_set (.int .u64 (U y)) (p := ⟨bd, 1, none⟩) hgd (ext_set (.int .i64 x) (p := ⟨bd, 0, none⟩) hgd HZ.out))
            refine mixQ_mk (over_of HZ.out) (ways_reads [16] (by kernel_rfl) ?_)
            simp only [pickL, List.map_cons, List.map_nil, List.getD_cons_zero, List.getD_cons_succ]
            repeat (go_big_quiet_step (fail))
            refine wpQuiet_nil (ways_end (by kernel_rfl) ?_)
            replace HR9 := Lib.hid (((HR9.out.setOut (.int .i64 x) (p := ⟨bd, 0, none⟩) hnd.out).setOut (.int .u64 (U y)) (p := ⟨bd, 1, none⟩) hnd.out).mono hcb.out)
            replace HV := Lib.hid ((HV.out.far (.int .i64 x) (p := ⟨bd, 0, none⟩) hxd).far (.int .u64 (U y)) (p := ⟨bd, 1, none⟩) hxd)
            replace HD := Lib.hid (boxD_put HD.out (.int .i64 x) (.int .u64 (U y)))
            have HB9 := Lib.hid (HB8.out.ext HZ.out)
            have HM9 := Lib.hid (HM8.out.ext HZ.out)
            have HC9 := Lib.hid (HC8.out.ext HZ.out)
            have HY9 := Lib.hid (ext_trans HX8.out HZ.out)
            have hsx : bs ≠ bx := Nat.ne_of_lt (Nat.lt_of_lt_of_le l8 hgx)
            have hsd : bs ≠ bd := Nat.ne_of_lt (Nat.lt_of_lt_of_le l8 hgd)
            clear HB8 HM8 HC8 HR8 HX8 HZ c0 c1 cz ld C hbw8 l8 l9
            generalize (X4.setCell ⟨bd, 0, none⟩ (.int .i64 x)).setCell ⟨bd, 1, none⟩ (.int .u64 (U y)) = T at HR9 HV HD HB9 HM9 HC9 HY9 ⊢
            obtain ⟨k0, k1, k2, kz⟩ := HB9.out
            obtain ⟨p0, p1, p2, pz⟩ := HV.out
            obtain ⟨c0, c1, cz⟩ := HC9.out
            obtain ⟨e0, e1, ez⟩ := HD.out
            have l8 := cell_lt k0
            go_wp2
            exact plays_next hlt HB9 HM9 HR9 HY9 hs12 hbs hws
          · simp only [pickL, List.map_cons, List.map_nil, List.getD_cons_zero, List.getD_cons_succ]
            go_wp2
            obtain ⟨c2, hcb', hnn, hn', hr⟩ := HR9.out.avoid' hcb (.cells #[.slice none 0 0, .slice none 0 0, .int .i64 0] 33)
            replace HR9 := Lib.hid hr
            replace hcb := hcb'
            have hnx := Lib.hid hn'
            have HA := Lib.hid (BoxA.new X1 (.slice none 0 0) (.slice none 0 0) (.int .i64 0) 33)
            have hgx : Z.heap.size ≤ X1.heap.size := HZ.out.size
            have hxd : bd ≠ X1.heap.size := Nat.ne_of_lt (cell_lt HD.out.c0)
            replace HD := Lib.hid (HD.out.ext (ext_alloc (.cells #[.slice none 0 0, .slice none 0 0, .int .i64 0] 33) (ext_refl _)))
            replace hnd := Lib.hid (hnn.out _ hnd.out)
            replace HZ := Lib.hid (ext_alloc (.cells #[.slice none 0 0, .slice none 0 0, .int .i64 0] 33) HZ.out)
            clear hr hcb' hnn hn'
            refine mixQ_mk (over_of HZ.out) ?_
            generalize X1.alloc (.cells #[.slice none 0 0, .slice none 0 0, .int .i64 0] 33) = X2 at HR9 HA HZ HD ⊢
            generalize X1.heap.size = bx at HA hgx hnx hxd ⊢
            replace hxd := Ne.symm hxd
            refine ways_act 7 (by kernel_rfl) ?_
            simp only [pickL, List.map_cons, List.map_nil, List.getD_cons_zero, List.getD_cons_succ]
            go_wp2_with (go_at_call 14; refine (E1.out _ _ _ HR9.out).mono ?_; rintro e X3 ⟨R', rfl, hr, hx⟩; replace HR9 := Lib.hid hr; replace HZ := Lib.hid (ext_trans HZ.out hx); replace HA := Lib.hid (HA.out.ext hx); replace HD := Lib.hid (HD.out.ext hx); clear hr hx E1; unfold refV)
            refine mixQ_mk (over_of HZ.out) (ways_reads [8, 9, 10, 11] (by kernel_rfl) ?_)
            simp only [pickL, List.map_cons, List.map_nil, List.getD_cons_zero, List.getD_cons_succ]
            repeat (go_big_quiet_step (fail))
            refine wpQuiet_nil ?_
            refine ways_act 14 (by kernel_rfl) ?_
            simp only [pickL, List.map_cons, List.map_nil, List.getD_cons_zero, List.getD_cons_succ]
            obtain ⟨p0, p1, p2, pz⟩ := HA.out
            have la := cell_lt p0
            go_wp2
            replace HZ := Lib.hid (ext_set (.int .i64 M'.ct) (p := ⟨bx, 2, none⟩) hgx (ext_set (.slice R'.ea M'.n R'.ec) (p := ⟨bx, 1, none⟩) hgx (ext_set (.slice R'.wa M'.n R'.wc) (p := ⟨bx, 0, none⟩) hgx HZ.out)))
            refine mixQ_mk (over_of HZ.out) (ways_act 15 (by kernel_rfl) ?_)
            simp only [pickL, List.map_cons, List.map_nil, List.getD_cons_zero, List.getD_cons_succ]
            replace HR9 := Lib.hid ((((HR9.out.setOut (.slice R'.wa M'.n R'.wc) (p := ⟨bx, 0, none⟩) hnx.out).setOut (.slice R'.ea M'.n R'.ec) (p := ⟨bx, 1, none⟩) hnx.out).setOut (.int .i64 M'.ct) (p := ⟨bx, 2, none⟩) hnx.out))
            replace HD := Lib.hid (((HD.out.far (.slice R'.wa M'.n R'.wc) (p := ⟨bx, 0, none⟩) hxd.symm).far (.slice R'.ea M'.n R'.ec) (p := ⟨bx, 1, none⟩) hxd.symm).far (.int .i64 M'.ct) (p := ⟨bx, 2, none⟩) hxd.symm)
            have HV := Lib.hid (boxA_put HA.out R' M')
            clear p0 p1 p2 pz la HA
            generalize ((X3.setCell ⟨bx, 0, none⟩ (.slice R'.wa M'.n R'.wc)).setCell ⟨bx, 1, none⟩ (.slice R'.ea M'.n R'.ec)).setCell ⟨bx, 2, none⟩ (.int .i64 M'.ct) = X4 at HR9 HD HV HZ ⊢
            obtain ⟨c0, c1, cz⟩ := HD.out
            have ld := cell_lt c0
            go_wp2
            replace HZ := Lib.hid (ext_set (.int .u64 (U y)) (p := ⟨bd, 1, none⟩) hgd (ext_set (.int .i64 x) (p := ⟨bd, 0, none⟩) hgd HZ.out))
            refine mixQ_mk (over_of HZ.out) (ways_reads [16] (by kernel_rfl) ?_)
            simp only [pickL, List.map_cons, List.map_nil, List.getD_cons_zero, List.getD_cons_succ]
            repeat (go_big_quiet_step (fail))
            refine wpQuiet_nil (ways_end (by kernel_rfl) ?_)
            replace HR9 := Lib.hid (((HR9.out.setOut (.int .i64 x) (p := ⟨bd, 0, none⟩) hnd.out).setOut (.int .u64 (U y)) (p := ⟨bd, 1, none⟩) hnd.out).mono hcb.out)
            replace HV := Lib.hid ((HV.out.far (.int .i64 x) (p := ⟨bd, 0, none⟩) hxd).far (.int .u64 (U y)) (p := ⟨bd, 1, none⟩) hxd)
            replace HD := Lib.hid (boxD_put HD.out (.int .i64 x) (.int .u64 (U y)))
            have HB9 := Lib.hid (HB8.out.ext HZ.out)
            have HM9 := Lib.hid (HM8.out.ext HZ.out)
            have HC9 := Lib.hid (HC8.out.ext HZ.out)
            have HY9 := Lib.hid (ext_trans HX8.out HZ.out)
            have hsx : bs ≠ bx := Nat.ne_of_lt (Nat.lt_of_lt_of_le l8 hgx)
            have hsd : bs ≠ bd := Nat.ne_of_lt (Nat.lt_of_lt_of_le l8 hgd)
            clear HB8 HM8 HC8 HR8 HX8 HZ c0 c1 cz ld C hbw8 l8 l9
            generalize (X4.setCell ⟨bd, 0, none⟩ (.int .i64 x)).setCell ⟨bd, 1, none⟩ (.int .u64 (U y)) = T at HR9 HV HD HB9 HM9 HC9 HY9 ⊢
            obtain ⟨k0, k1, k2, kz⟩ := HB9.out
            obtain ⟨p0, p1, p2, pz⟩ := HV.out
            obtain ⟨c0, c1, cz⟩ := HC9.out
            obtain ⟨e0, e1, ez⟩ := HD.out
            have l8 := cell_lt k0
            go_wp2
            exact plays_next hlt HB9 HM9 HR9 HY9 hs12 hbs hws
      · have d0 := ext_cell HX.out C.out.1
        have d1 := ext_cell HX.out C.out.2.1
        have d2 := ext_cell HX.out C.out.2.2.1
        have d3 := ext_cell HX.out C.out.2.2.2.1
        have d4 := ext_cell HX.out C.out.2.2.2.2.1
        have d5 := ext_cell HX.out C.out.2.2.2.2.2.1
        have d6 := ext_cell HX.out C.out.2.2.2.2.2.2
        obtain ⟨k0, k1, k2, kz⟩ := HB.out
        have q2 : ((f k).kind == 1) = false := by simpa using hkd
        clear hkd
        obtain ⟨g, hg⟩ : ∃ g : Bool, g = true ↔ Good M (f k).reg (f k).ep := by
          by_cases h : Good M (f k).reg (f k).ep
          · exact ⟨true, by simp [h]⟩
          · exact ⟨false, by simp [h]⟩
        have HG1 : Hid (∀ Y, MemIn lo hi L M Y → Calls Try.prog 15 #[.pointer (some ⟨L.bm, 0, none⟩), .agg #[.int .i64 (f k).reg, .int .u64 (U (f k).ep)]] Y (Ret (.bool g) Y)) := by
          refine Lib.hid fun Y hY => ?_
          cases g with
          | true =>
            obtain ⟨h1, h2, h3⟩ := hg.1 rfl
            obtain ⟨r, hr⟩ := Int.eq_ofNat_of_zero_le h1
            rw [hr] at h2 h3 ⊢
            exact good_yes hY r _ (by omega) (Lib.hid (by rw [show ((r : Nat) : Int).toNat = r by omega] at h3; exact h3))
          | false => exact good_no hY _ _ (fun hh => by have := hg.2 hh; cases this)
        have HG2 : Hid (∀ Y, RefIn b0 R M Y → Calls Try.prog 16 #[.agg #[.slice R.wa M.n R.wc, .slice R.ea M.n R.ec, .int .i64 M.ct], .agg #[.int .i64 (f k).reg, .int .u64 (U (f k).ep)]] Y (Ret (.bool g) Y)) := by
          refine Lib.hid fun Y hY => ?_
          cases g with
          | true =>
            obtain ⟨h1, h2, h3⟩ := hg.1 rfl
            obtain ⟨r, hr⟩ := Int.eq_ofNat_of_zero_le h1
            rw [hr] at h2 h3 ⊢
            exact rgood_yes hY r _ (by omega) (Lib.hid (by rw [show ((r : Nat) : Int).toNat = r by omega] at h3; exact h3))
          | false => exact rgood_no hY _ _ (fun hh => by have := hg.2 hh; cases this)
        clear hg
        go_wp2
        refine wp_region_over (by kernel_rfl) (by kernel_rfl) ?_
        repeat (go_big_quiet_step ((first | (go_at_call 15; exact over_call (HG1.out _ (HM.out.over _))) | (go_at_call 16; exact over_call (HG2.out _ (HR.out.over _))))))
        refine wpQuiet_nil ?_
        intro _ hw'
        obtain ⟨s2, hw''⟩ := hw'
        subst hw''
        have HM5 := Lib.hid (HM.out.over s2)
        have HR5 := Lib.hid (HR.out.over s2)
        have HB5 := Lib.hid (HB.out.ext (over_below wr s2))
        have HX5 := Lib.hid (ext_over s2 HX.out)
        have hbw5 : b < (over wr s2).heap.size := Nat.lt_of_lt_of_le hbw (over_size wr s2)
        clear HM HR HB HX d0 d1 d2 d3 d4 d5 d6 k0 k1 k2 kz hbw l0
        generalize over wr s2 = Z at HM5 HR5 HB5 HX5 hbw5 ⊢
        have d0 := ext_cell HX5.out C.out.1
        have d1 := ext_cell HX5.out C.out.2.1
        have d2 := ext_cell HX5.out C.out.2.2.1
        have d3 := ext_cell HX5.out C.out.2.2.2.1
        have d4 := ext_cell HX5.out C.out.2.2.2.2.1
        have d5 := ext_cell HX5.out C.out.2.2.2.2.2.1
        have d6 := ext_cell HX5.out C.out.2.2.2.2.2.2
        go_wp2
        refine wp_region_mix (fun x => ∃ s, x = off lo hi Z s) [(0, [0, 1, 2, 3, 4, 5, 6, 7, 8, 9, 10]), (1, [11]), (0, [12, 13, 14, 15, 16])] (by kernel_rfl) (by kernel_rfl) (off_of (Fr.refl _ _ Z).drew) ?_
        simp only [pieces, pickL, List.map_cons, List.map_nil, List.getD_cons_zero, List.getD_cons_succ]
        refine mix_reads ?_
        repeat (go_big_quiet_step (fail))
        refine wpQuiet_nil (mix_acts ?_)
        go_wp2_with (go_at_call 17; refine (do_any HM5.out.drew (f k).reg (f k).ep (f k).acc).mono ?_; rintro e Y ⟨M', v, ok, rfl, hd, hm, hf⟩; have HM6 := Lib.hid hm; have HF6 := Lib.hid ((Fr.refl lo hi Z).drew.trans hf); have HD6 := Lib.hid hd; clear hm hf hd)
        refine mixQ_mk (off_of HF6.out) (mix_reads ?_)
        repeat (go_big_quiet_step (fail))
        refine wpQuiet_nil (mix_end ?_)
        have HR6 := Lib.hid (HR5.out.fr HF6.out (fun x hx => .inr (hb0.out x hx)))
        have HB6 := Lib.hid (HB5.out.fr HF6.out (.inr hs12))
        have HX6 := Lib.hid (HF6.out.below HX5.out hlo)
        have hbw6 : b < Y.heap.size := Nat.lt_of_lt_of_le hbw5 HF6.out.size
        clear HM5 HR5 HB5 HX5 HF6 d0 d1 d2 d3 d4 d5 d6 hbw5
        have E1 : Hid (∀ (b0 : Nat → Prop) V, RefIn b0 R M V → Calls Try.prog 18 #[.agg #[.slice R.wa M.n R.wc, .slice R.ea M.n R.ec, .int .i64 M.ct], .agg #[.int .i64 (f k).reg, .int .u64 (U (f k).ep)], .agg #[.int .i64 (f k).acc.op, .int .i64 (f k).acc.at_, .int .u64 (U (f k).acc.a), .int .u64 (U (f k).acc.b)]] V (RetRef b0 M' #[.int .u64 (U v), .bool ok] V)) :=
          Lib.hid fun b0 V hV => rdo_any hV _ _ _ _ _ HD6.out
        have d0 := ext_cell HX6.out C.out.1
        have d1 := ext_cell HX6.out C.out.2.1
        have d2 := ext_cell HX6.out C.out.2.2.1
        have d3 := ext_cell HX6.out C.out.2.2.2.1
        have d4 := ext_cell HX6.out C.out.2.2.2.2.1
        have d5 := ext_cell HX6.out C.out.2.2.2.2.2.1
        have d6 := ext_cell HX6.out C.out.2.2.2.2.2.2
        obtain ⟨k0, k1, k2, kz⟩ := HB6.out
        have l6 := cell_lt k0
        go_wp2
        refine wp_region_ways (fun x => ∃ s, x = over Y s) (by kernel_rfl) (over_of (ext_drew (ext_refl Y))) ?_
        refine ways_reads [0, 1, 2, 3, 4, 5, 6, 7, 8, 9, 10] (by kernel_rfl) ?_
        simp only [pickL, List.map_cons, List.map_nil, List.getD_cons_zero, List.getD_cons_succ]
        repeat (go_big_quiet_step (fail))
        refine wpQuiet_nil ?_
        clear d0 d1 d2 d3 d4 d5 d6 k0 k1 k2 kz
        refine ways_fork 11 (by kernel_rfl) ?_ (ways_act 16 (by kernel_rfl) ?_)
        · simp only [pickL, List.map_cons, List.map_nil, List.getD_cons_zero, List.getD_cons_succ]
          go_wp2_with (go_at_call 18; refine (E1.out _ _ (HR6.out.ext (ext_drew (ext_refl Y)))).mono ?_; rintro e V ⟨R', rfl, hr, hx⟩; have HR7 := Lib.hid hr; have HX7 := Lib.hid (ext_trans (ext_drew (ext_refl Y)) hx); clear hr hx; unfold refV)
          refine mixQ_mk (over_of HX7.out) (ways_reads [12, 13, 14, 15] (by kernel_rfl) ?_)
          simp only [pickL, List.map_cons, List.map_nil, List.getD_cons_zero, List.getD_cons_succ]
          repeat (go_big_quiet_step (fail))
          refine wpQuiet_nil (ways_act 16 (by kernel_rfl) ?_)
          simp only [pickL, List.map_cons, List.map_nil, List.getD_cons_zero, List.getD_cons_succ]
          go_wp2
          refine mixQ_mk (over_of (ext_alloc _ HX7.out)) (ways_act 17 (by kernel_rfl) ?_)
          simp only [pickL, List.map_cons, List.map_nil, List.getD_cons_zero, List.getD_cons_succ]
          go_wp2
          have HX8 := Lib.hid (ext_alloc (.cells #[.slice R'.wa M'.n R'.wc, .slice R'.ea M'.n R'.ec, .int .i64 M'.ct] 33) HX7.out)
          refine mixQ_mk (over_of HX8.out) (ways_reads [18, 19] (by kernel_rfl) ?_)
          simp only [pickL, List.map_cons, List.map_nil, List.getD_cons_zero, List.getD_cons_succ]
          repeat (go_big_quiet_step (fail))
          refine wpQuiet_nil (ways_end (by kernel_rfl) ?_)
          have hne : bs ≠ V.heap.size := Nat.ne_of_lt (Nat.lt_of_lt_of_le l6 HX7.out.size)
          have HB8 := Lib.hid (HB6.out.ext HX8.out)
          have HM8 := Lib.hid (HM6.out.ext HX8.out)
          have HR8 := Lib.hid (HR7.out.alloc (.cells #[.slice R'.wa M'.n R'.wc, .slice R'.ea M'.n R'.ec, .int .i64 M'.ct] 33))
          have HD8 := box_new V R' M' 33
          have HY8 := Lib.hid (ext_trans HX6.out HX8.out)
          clear HM6 HR6 HB6 HX6 E1 HR7 HX7 HX8 hbw6 l6
          generalize V.alloc (.cells #[.slice R'.wa M'.n R'.wc, .slice R'.ea M'.n R'.ec, .int .i64 M'.ct] 33) = T at HB8 HM8 HR8 HD8 HY8 ⊢
          generalize V.heap.size = bd at HD8 hne ⊢
          clear C HD6
          obtain ⟨k0, k1, k2, kz⟩ := HB8.out
          obtain ⟨p0, p1, p2, pz⟩ := HD8.out
          have l8 := cell_lt k0
          go_wp2
          exact plays_next hlt HB8 HM8 HR8 HY8 hs12 hbs hws
        · simp only [pickL, List.map_cons, List.map_nil, List.getD_cons_zero, List.getD_cons_succ]
          go_wp2
          have HA := Lib.hid ((BoxA.new Y (.slice none 0 0) (.slice none 0 0) (.int .i64 0) 33).ext (ext_drew (ext_refl _)))
          have HY0 := Lib.hid (ext_drew (ext_alloc (.cells #[.slice none 0 0, .slice none 0 0, .int .i64 0] 33) (ext_refl Y)))
          have HR0 := Lib.hid ((HR6.out.avoid (.cells #[.slice none 0 0, .slice none 0 0, .int .i64 0] 33)).ext (ext_drew (ext_refl _)))
          have hne : bs ≠ Y.heap.size := Nat.ne_of_lt l6
          have hge : Y.heap.size ≤ Y.heap.size := Nat.le_refl _
          refine mixQ_mk (over_of HY0.out) (ways_act 11 (by kernel_rfl) ?_)
          simp only [pickL, List.map_cons, List.map_nil, List.getD_cons_zero, List.getD_cons_succ]
          generalize (Y.alloc (.cells #[.slice none 0 0, .slice none 0 0, .int .i64 0] 33)).drew = Y0 at HA HY0 HR0 ⊢
          generalize hbd : Y.heap.size = bd at HA hne HR0 ⊢
          replace hge : Y.heap.size ≤ bd := by rw [hbd]; exact Nat.le_refl _
          clear hbd
          go_wp2_with (go_at_call 18; refine (E1.out _ _ HR0.out).mono ?_; rintro e V ⟨R', rfl, hr, hx⟩; have HR7 := Lib.hid hr; have HX7 := Lib.hid (ext_trans HY0.out hx); have HA7 := Lib.hid (HA.out.ext hx); clear hr hx HA HY0; unfold refV)
          refine mixQ_mk (over_of HX7.out) (ways_reads [12, 13, 14, 15] (by kernel_rfl) ?_)
          simp only [pickL, List.map_cons, List.map_nil, List.getD_cons_zero, List.getD_cons_succ]
          repeat (go_big_quiet_step (fail))
          refine wpQuiet_nil (ways_act 17 (by kernel_rfl) ?_)
          simp only [pickL, List.map_cons, List.map_nil, List.getD_cons_zero, List.getD_cons_succ]
          obtain ⟨p0, p1, p2, pz⟩ := HA7.out
          have l7 := cell_lt p0
          clear C HD6 HR0 E1 hbw6
          go_wp2
          have HX8 := Lib.hid (ext_set (.int .i64 M'.ct) (p := ⟨bd, 2, none⟩) hge (ext_set (.slice R'.ea M'.n R'.ec) (p := ⟨bd, 1, none⟩) hge (ext_set (.slice R'.wa M'.n R'.wc) (p := ⟨bd, 0, none⟩) hge HX7.out)))
          refine mixQ_mk (over_of HX8.out) (ways_reads [18, 19] (by kernel_rfl) ?_)
          simp only [pickL, List.map_cons, List.map_nil, List.getD_cons_zero, List.getD_cons_succ]
          repeat (go_big_quiet_step (fail))
          refine wpQuiet_nil (ways_end (by kernel_rfl) ?_)
          have HB8 := Lib.hid (HB6.out.ext HX8.out)
          have HM8 := Lib.hid (HM6.out.ext HX8.out)
          have HR8 := Lib.hid (((((HR7.out.setOut (.slice R'.wa M'.n R'.wc) (p := ⟨bd, 0, none⟩) (fun h => h.2 rfl)).setOut (.slice R'.ea M'.n R'.ec) (p := ⟨bd, 1, none⟩) (fun h => h.2 rfl)).setOut (.int .i64 M'.ct) (p := ⟨bd, 2, none⟩) (fun h => h.2 rfl))).mono (b0 := b0) (fun b h => h.1))
          have HD8 := Lib.hid (boxA_put HA7.out R' M')
          have HY8 := Lib.hid (ext_trans HX6.out HX8.out)
          clear HM6 HR6 HB6 HX6 HR7 HX7 HX8 HA7 p0 p1 p2 pz
          generalize ((V.setCell ⟨bd, 0, none⟩ (.slice R'.wa M'.n R'.wc)).setCell ⟨bd, 1, none⟩ (.slice R'.ea M'.n R'.ec)).setCell ⟨bd, 2, none⟩ (.int .i64 M'.ct) = T at HB8 HM8 HR8 HD8 HY8 ⊢
          obtain ⟨k0, k1, k2, kz⟩ := HB8.out
          obtain ⟨p0, p1, p2, pz⟩ := HD8.out
          have l8 := cell_lt k0
          go_wp2
          exact plays_next hlt HB8 HM8 HR8 HY8 hs12 hbs hws
    · obtain ⟨k0, k1, k2, kz⟩ := HB.out
      have HS := Lib.hid (same_yes HM.out HR.out)
      unfold refV at HS
      go_wp2_with (go_at_call 19; refine HS.out.mono ?_; rintro e w' hr'; obtain ⟨rfl, s1, rfl⟩ := hr'.over; clear hr')
      go_ret
      exact Ret.mk (ext_over _ HX.out)
theorem memPlays_any (l : List Int) (v0 : Value) (f : Nat → CallR) (n : Nat) (v1 : Value) (w : World) (hl : Is w v0 l) (hb : ∀ i, i < l.length → -9223372036854775808 ≤ iN l i ∧ iN l i ≤ 9223372036854775807) (hf : Cs w v1 n f) :
    Calls Try.prog 3 #[v0, v1] w (Ret (.bool true) w) := by
  have HI := Lib.hid hl
  have HC := Lib.hid hf
  obtain ⟨a0, cap, rfl, _⟩ := hl
  obtain ⟨a1, cap1, rfl, _⟩ := hf
  by_cases h1 : FewOk l ∧ n ≤ 60
  · by_cases h2 : SizesOk l
    · exact memPlays_good l f n a0 a1 cap cap1 w HI (Lib.hid hb) (Lib.hid h1.1) h1.2 (Lib.hid h2) HC
    · exact memPlays_bad l n a0 a1 cap cap1 w HI (Lib.hid hb) (Lib.hid h1.1) h1.2 (Lib.hid h2)
  · exact memPlays_none l n a0 a1 cap cap1 w HI (Lib.hid hb) h1
end Go.Proofs.Ytjogjmlabcfkfaa
