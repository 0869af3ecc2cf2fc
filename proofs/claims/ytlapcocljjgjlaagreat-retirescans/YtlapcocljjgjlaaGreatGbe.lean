/-
  What the law's awake comes to; runs of Pop and Push, as calls. Conditions: those of each theorem.
-/
import Derived.Test.YtlapcocljjgjlaaGreatGbd
import Derived.Deep.Cut
import Derived.ProofKit
import Derived.OpenShut
import Derived.Lib.SmallJoins
namespace Go.Proofs.YtlapcocljjgjlaaGreat
open Go Go.RowKit

theorem p2ok : Pl.ok ⟨2, 1, 4, 0, 1, 1⟩ := by unfold Pl.ok; decide
/-- What a Pop that is run alone comes to. -/
def PopSpec (l : List Int) (T : Nat) (r : Int) (k : Nat) (l' : List Int) (T' : Nat) : Prop := (l = [] ∧ r = -1 ∧ k = 1 ∧ l' = [] ∧ T' = T) ∨ (l = r :: l' ∧ k = 3 ∧ T' = T + 1)
def RetPop (p : Pl) (lo hi : Nat) (L : Lay) (M : MS) (l : List Int) (T : Nat) (w : World) (e : Ending) (w' : World) : Prop :=
  ∃ M' r k l' T', e = .returned (.tuple #[.int .i64 r, .int .i64 ((k : Nat) : Int), .bool true]) ∧ MemIn lo hi L M' w' ∧ Fr lo hi w w' ∧ FL p M' l' T' ∧ PopSpec l T r k l' T' ∧ Keeps p M T M' T' none
theorem runPop {lo hi : Nat} {L : Lay} {M : MS} (p : Pl) (hp : p.ok) (l : List Int) (T : Nat) (hT : T < 8796093022207) (F : Nat → Prop) (v : Value) (w : World) (hL : FL p M l T) (hP : PT kI (popT p 3) F v w) (hF : Bnd F w) (hO : ∀ j, F j → j < lo ∨ hi ≤ j) (hM : MemIn lo hi L M w) :
    Calls Tryz.prog 12 #[v, .pointer (some ⟨L.bm, 0, none⟩), .agg #[.int .i64 0, .int .u64 (U 1#64)], .int .i64 9] w (RetPop p lo hi L M l T w) := by
  cases l with
  | nil =>
    obtain ⟨M', h1, h2, h3⟩ := pop_none hp hL 2 8
    exact (run_I (popT p 3) F v 0 1#64 9 w _ (by omega) h1 hP hF hO hM).mono fun e w' ⟨g1, g2, g3⟩ => ⟨M', -1, 1, [], T, g1, g2, g3, h2, .inl ⟨rfl, rfl, rfl, rfl, rfl⟩, h3⟩
  | cons n l =>
    obtain ⟨M', h1, h2, h3⟩ := pop_some hp hL hT 1 6
    exact (run_I (popT p 3) F v 0 1#64 9 w _ (by omega) h1 hP hF hO hM).mono fun e w' ⟨g1, g2, g3⟩ => ⟨M', n, 3, l, T + 1, g1, g2, g3, h2, .inr ⟨rfl, rfl, rfl⟩, h3⟩
def RetPush (p : Pl) (lo hi : Nat) (L : Lay) (M : MS) (n : Int) (l : List Int) (T : Nat) (w : World) (e : Ending) (w' : World) : Prop :=
  ∃ M', e = .returned (.tuple #[.int .i64 n, .int .i64 3, .bool true]) ∧ MemIn lo hi L M' w' ∧ Fr lo hi w w' ∧ FL p M' (n :: l) (T + 1) ∧ Keeps p M T M' (T + 1) (some n)
theorem runPush {lo hi : Nat} {L : Lay} {M : MS} (p : Pl) (hp : p.ok) (n : Int) (hn : InR p n) (l : List Int) (hnl : n ∉ l) (T : Nat) (hT : T < 8796093022207) (F : Nat → Prop) (v : Value) (w : World) (hL : FL p M l T) (hP : PT kI (pushT p n 3) F v w) (hF : Bnd F w) (hO : ∀ j, F j → j < lo ∨ hi ≤ j) (hM : MemIn lo hi L M w) :
    Calls Tryz.prog 12 #[v, .pointer (some ⟨L.bm, 0, none⟩), .agg #[.int .i64 0, .int .u64 (U 1#64)], .int .i64 9] w (RetPush p lo hi L M n l T w) := by
  obtain ⟨M', h1, h2, h3⟩ := push_run hp hL hT hn hnl 1 6
  exact (run_I (pushT p n 3) F v 0 1#64 9 w _ (by omega) h1 hP hF hO hM).mono fun e w' ⟨g1, g2, g3⟩ => ⟨M', g1, g2, g3, h2, h3⟩
end Go.Proofs.YtlapcocljjgjlaaGreat

/-
  What the calls of Step and Over come to (B). Conditions: those of each theorem.
-/
namespace Go.Proofs.YtlapcocljjgjlaaGreat
open Go Go.RowKit

theorem over_B (t : Tr (Bool)) (F : Nat → Prop) (v : Value) (w : World) (hP : PT kB t F v w) (y : Bool) (b : Bool) (hy : Hid (ansT kB t = .bool y)) (hb : Hid (ovT t = b)) : Calls Tryz.prog 127 #[v] w (Ret (.tuple #[.bool y, .bool b]) w) := by
  rw [← hb.out, ← hy.out]
  cases t with
  | done x => cases hP; exact overYB x _ _ _ _ w
  | ask a f => obtain ⟨g, caps, rfl, _⟩ := hP; exact ovnB a _ _ _ w
  | more => obtain ⟨a, g, caps, rfl, _⟩ := hP; exact ovnB a _ _ _ w
theorem ans_B (t : Tr (Bool)) : ∃ y, ansT kB t = .bool y := by
  cases t with
  | done x => exact ⟨_, rfl⟩
  | ask a f => exact ⟨_, rfl⟩
  | more => exact ⟨_, rfl⟩
end Go.Proofs.YtlapcocljjgjlaaGreat

/-
  What the calls of Run come to (B). Conditions: those of each theorem.
-/
namespace Go.Proofs.YtlapcocljjgjlaaGreat
open Go Go.RowKit

structure RunN_B (lo hi : Nat) (L : Lay) (r : Int) (e : BitVec 64) (x : MS × Nat × Tr (Bool)) (m : Nat) (B : Nat) (w : World) (n : Nat) (t : Tr (Bool)) (M : MS) (v : Value) (F : Nat → Prop) (wr : World) : Prop where
  km : n ≤ m
  res : ∃ y, runT r e (m - n) t M = some y ∧ x = (y.1, y.2.1 + n, y.2.2)
  p : PT kB t F v wr
  bnd : Bnd F wr
  off : ∀ j, F j → (j < lo ∨ hi ≤ j) ∧ j ≠ B
  mem : MemIn lo hi L M wr
  fr : Fr lo hi w wr
  box : ∃ (y : Bool) (a : Acc) (fn : Value), v = .agg #[.bool y, .int .i64 a.op, .int .i64 a.at_, .int .u64 (U a.a), .int .u64 (U a.b), fn, .pointer none] ∧ (fn = .nilFunc ∨ ∃ g caps, fn = .func (.func g) #[] caps) ∧ wr.heap[B]? = some (.cells #[.bool y, .int .i64 a.op, .int .i64 a.at_, .int .u64 (U a.a), .int .u64 (U a.b), fn, .pointer none] 150)
  cap : wr.heap[B + 1]? = some (.cells #[.int .i64 r, .int .u64 (U e)] 44)
def RunL_B (lo hi : Nat) (L : Lay) (r : Int) (e : BitVec 64) (x : MS × Nat × Tr (Bool)) (m : Nat) (B : Nat) (w : World) (i : Value) (wr : World) : Prop :=
  ∃ (n : Nat) (t : Tr (Bool)) (M : MS) (v : Value) (F : Nat → Prop), i = .int .i64 (n : Int) ∧ RunN_B lo hi L r e x m B w n t M v F wr
end Go.Proofs.YtlapcocljjgjlaaGreat

/-
  What the laws of hazard share: their awake and fits, runs of Set, Clear and Held as calls, what a word names, the reference's Held, and what stands in the midst of a law. Conditions: those of each theorem.
-/
namespace Go.Proofs.YtlapcocljjgjlaaGreat
open Go Go.RowKit

/-! Runs. -/
def RetSetH (p : Pl) (lo hi : Nat) (L : Lay) (M : MS) (i : Nat) (x : BitVec 64) (w : World) (e : Ending) (w' : World) : Prop :=
  ∃ M', e = .returned (.tuple #[.agg #[], .int .i64 1, .bool true]) ∧ MemIn lo hi L M' w' ∧ Fr lo hi w w' ∧ HzTo p M M' (fun j => if j = i then x else hzW p M j)
theorem runSetH {lo hi : Nat} {L : Lay} {M : MS} (p : Pl) (hp : p.ok) (hG : Mg p M) (t s : Int) (x : BitVec 64) (h0 : 0 ≤ t) (h1 : t < p.t) (h2 : 0 ≤ s) (h3 : s < 3) (F : Nat → Prop) (v : Value) (w : World) (hP : PT kN (setT (p.hazF t s) x) F v w) (hF : Bnd F w) (hO : ∀ j, F j → j < lo ∨ hi ≤ j) (hM : MemIn lo hi L M w) :
    Calls Tryz.prog 15 #[v, .pointer (some ⟨L.bm, 0, none⟩), .agg #[.int .i64 0, .int .u64 (U 1#64)], .int .i64 9] w (RetSetH p lo hi L M (3 * t + s).toNat x w) := by
  obtain ⟨M', r1, r2⟩ := set_run hp hG x h0 h1 h2 h3 8
  exact (run_N (setT (p.hazF t s) x) F v 0 1#64 9 w _ (by omega) r1 hP hF hO hM).mono fun e w' ⟨g1, g2, g3⟩ => ⟨M', g1, g2, g3, r2⟩
def RetClrH (p : Pl) (lo hi : Nat) (L : Lay) (M : MS) (t : Int) (w : World) (e : Ending) (w' : World) : Prop :=
  ∃ M', e = .returned (.tuple #[.agg #[], .int .i64 3, .bool true]) ∧ MemIn lo hi L M' w' ∧ Fr lo hi w w' ∧ HzTo p M M' (fun i => if (3 * t).toNat ≤ i ∧ i < (3 * t + 3).toNat then 0#64 else hzW p M i)
theorem runClrH {lo hi : Nat} {L : Lay} {M : MS} (p : Pl) (hp : p.ok) (hG : Mg p M) (t : Int) (h0 : 0 ≤ t) (h1 : t < p.t) (F : Nat → Prop) (v : Value) (w : World) (hP : PT kN (clrT p t 3 0) F v w) (hF : Bnd F w) (hO : ∀ j, F j → j < lo ∨ hi ≤ j) (hM : MemIn lo hi L M w) :
    Calls Tryz.prog 15 #[v, .pointer (some ⟨L.bm, 0, none⟩), .agg #[.int .i64 0, .int .u64 (U 1#64)], .int .i64 9] w (RetClrH p lo hi L M t w) := by
  obtain ⟨M', r1, r2⟩ := clr_run hp h0 h1 3 0 M 6 (by omega) (by omega) hG
  rw [Int.add_zero] at r2
  exact (run_N (clrT p t 3 0) F v 0 1#64 9 w _ (by omega) r1 hP hF hO hM).mono fun e w' ⟨g1, g2, g3⟩ => ⟨M', g1, g2, g3, r2⟩
def RetHldH (p : Pl) (lo hi : Nat) (L : Lay) (M : MS) (n : Int) (w : World) (e : Ending) (w' : World) : Prop :=
  ∃ (M' : MS) (b : Bool) (c : Nat), e = .returned (.tuple #[.bool b, .int .i64 (c : Int), .bool true]) ∧ MemIn lo hi L M' w' ∧ Fr lo hi w w' ∧ (Mg p M' ∧ ∀ j, M'.wd 0 j = M.wd 0 j) ∧ heldR (hzW p M) (nameW n) (3 * p.t).toNat 0 = (b, c)
/-! In the midst of a law: the memory, the plan's box B. -/
structure HIn (p : Pl) (lo hi : Nat) (L : Lay) (B : Nat) (w0 : World) (M : MS) (wr : World) : Prop where
  m : MemIn lo hi L M wr
  mg : Mg p M
  ex : Ext w0 wr
  pb : PBox B p wr
section
variable {p : Pl} {lo hi : Nat} {L : Lay} {B : Nat} {w0 : World} {M M' : MS} {wr wr' : World}
theorem HIn.ext (h : HIn p lo hi L B w0 M wr) (hx : Ext wr wr') : HIn p lo hi L B w0 M wr' := ⟨h.m.ext hx, h.mg, ext_trans h.ex hx, h.pb.ext hx⟩
theorem HIn.ran (h : HIn p lo hi L B w0 M wr) (hm : MemIn lo hi L M' wr') (hf : Fr lo hi wr wr') (hG : Mg p M') (h1 : w0.heap.size ≤ lo) (h2 : B < lo) : HIn p lo hi L B w0 M' wr' :=
  ⟨hm, hG, hf.below h.ex h1, (hf.block _ (heap_lt h.pb) (.inl h2)).trans h.pb⟩
end
theorem h64 (n : Nat) (h : n ≤ 2000000) : wrap64 ((n : Int) + 1) = ((n + 1 : Nat) : Int) := by
  unfold wrap64
  omega
theorem p2nm : nameW 1 ≠ 0#64 := nameW_ne0 (by omega) (by omega)

/-- What fits asks. -/
def FitsP (p : Pl) (t s n : Int) : Prop := p.few ∧ p.ok ∧ 0 ≤ t ∧ t < p.t ∧ 0 ≤ s ∧ s < 3 ∧ -1 ≤ n ∧ n < p.n
/-! The reference. -/
def HelRel (l : List (BitVec 64)) (m : BitVec 64) (vi : Value) : Prop := ∃ k : Nat, k ≤ l.length ∧ vi = .int .i64 (k : Int) ∧ heldR (uN l) m l.length 0 = heldR (uN l) m (l.length - k) k
end Go.Proofs.YtlapcocljjgjlaaGreat

/-
  What the laws of retire share: their awake and few, runs as calls, and a memory whose nodes are all popped. Conditions: those of each theorem.
-/
namespace Go.Proofs.YtlapcocljjgjlaaGreat
open Go Go.RowKit

/-! Runs. -/
def RetRI (lo hi : Nat) (L : Lay) (M' : MS) (k : Nat) (x : Int) (w : World) (e : Ending) (w' : World) : Prop :=
  e = .returned (.tuple #[.int .i64 x, .int .i64 (k : Int), .bool true]) ∧ MemIn lo hi L M' w' ∧ Fr lo hi w w'
theorem runI_any {lo hi : Nat} {L : Lay} {M M' : MS} {t : Tr Int} {k : Nat} {x : Int} (hR : Runs t M k M' x) (most : Int) (hk : (k : Int) ≤ most) (hmo : most ≤ 1099511627776) (F : Nat → Prop) (v : Value) (w : World) (hP : PT kI t F v w) (hF : Bnd F w) (hO : ∀ j, F j → j < lo ∨ hi ≤ j) (hM : MemIn lo hi L M w) :
    Calls Tryz.prog 12 #[v, .pointer (some ⟨L.bm, 0, none⟩), .agg #[.int .i64 0, .int .u64 (U 1#64)], .int .i64 most] w (RetRI lo hi L M' k x w) :=
  (run_I t F v 0 1#64 most w _ hmo (hR.run (by omega)) hP hF hO hM).mono fun _ _ h => h
theorem zer_low {p : Pl} (hp : p.ok) {M : MS} (hz : Zer p M) : ∀ j : Nat, 1 ≤ j → (j : Int) < p.nod 0 → M.wd 0 j = 0#64 := fun j h0 h1 => hz j (by omega) fun m hm => by
  obtain ⟨_, h2, _, _, _⟩ := node_pl hp hm
  have := hm.1
  unfold nxN
  omega
theorem low_rts {p : Pl} (hp : p.ok) {M : MS} (hz : ∀ j : Nat, 1 ≤ j → (j : Int) < p.nod 0 → M.wd 0 j = 0#64) {t : Int} (h0 : 0 ≤ t) (h1 : t < p.t) : RTs p M t [] := by
  obtain ⟨q1, q2, q3, q4, q5, q6⟩ := thr_pl hp h0 h1
  have hr : 1 ≤ p.r := by unfold Pl.ok at hp; omega
  refine ⟨by simp; omega, ?_, fun i hi => by simp at hi, fun n hn => by simp at hn⟩
  rw [hz _ (by unfold cnN; omega) (by unfold cnN; omega)]
  exact nameH_none.symm
theorem low_hz {p : Pl} (hp : p.ok) {M : MS} (hz : ∀ j : Nat, 1 ≤ j → (j : Int) < p.nod 0 → M.wd 0 j = 0#64) {i : Nat} (h : (i : Int) < 3 * p.t) : hzW p M i = 0#64 := by
  have h1 := hz_pl hp h
  obtain ⟨q1, q2, q3, q4, q5, q6⟩ := thr_pl hp (t := 0) (by omega) (by have := hp.2.1; omega)
  have hr : 1 ≤ p.r := by unfold Pl.ok at hp; omega
  exact hz _ h1.1 (by omega)

set_option maxRecDepth 8000 in
set_option maxHeartbeats 4000000 in
theorem r11few_any (p : Pl) (w : World) (r : Bool) (hr : Hid (r = true ↔ (p.few ∧ p.ok))) : Calls Tryz.prog 9 #[plV p] w (Ret (.bool r) w) := by
  by_cases hf : p.few
  · have HF := Lib.hid hf
    by_cases hp : p.ok
    · obtain rfl : r = true := hr.out.2 ⟨hf, hp⟩
      have HP := Lib.hid hp
      clear hf hp hr
      go_enter Tryz.func9, Tryz.ntmps9
      go_wp2_with (first
        | (go_at_call 31; refine (few_any p _ true (hid_yes HF.out)).mono ?_; rintro e w' hr; obtain ⟨rfl, s1, rfl⟩ := hr.over; clear hr)
        | (go_at_call 32; refine (rformed_any p _ true (hid_yes HP.out)).mono ?_; rintro e w' hr; obtain ⟨rfl, s2, rfl⟩ := hr.over; clear hr))
      go_ret
      exact Ret.bool (by first | rfl | simp) (by repeat (first | exact ext_refl _ | apply ext_over | apply ext_alloc))
    · obtain rfl : r = false := Bool.eq_false_iff.2 fun h => hp (hr.out.1 h).2
      have HP := Lib.hid hp
      clear hf hp hr
      go_enter Tryz.func9, Tryz.ntmps9
      go_wp2_with (first
        | (go_at_call 31; refine (few_any p _ true (hid_yes HF.out)).mono ?_; rintro e w' hr; obtain ⟨rfl, s1, rfl⟩ := hr.over; clear hr)
        | (go_at_call 32; refine (rformed_any p _ false (hid_no HP.out)).mono ?_; rintro e w' hr; obtain ⟨rfl, s2, rfl⟩ := hr.over; clear hr))
      go_ret
      exact Ret.bool (by first | rfl | simp) (by repeat (first | exact ext_refl _ | apply ext_over | apply ext_alloc))
  · obtain rfl : r = false := Bool.eq_false_iff.2 fun h => hf (hr.out.1 h).1
    have HF := Lib.hid hf
    clear hf hr
    go_enter Tryz.func9, Tryz.ntmps9
    go_wp2_with (go_at_call 31; refine (few_any p _ false (hid_no HF.out)).mono ?_; rintro e w' hr; obtain ⟨rfl, s1, rfl⟩ := hr.over; clear hr)
    go_ret
    exact Ret.bool (by first | rfl | simp) (by repeat (first | exact ext_refl _ | apply ext_over | apply ext_alloc))

set_option maxRecDepth 8000 in
set_option maxHeartbeats 4000000 in
theorem r11wake_any (w : World) : Calls Tryz.prog 8 #[] w (Ret (.bool true) w) := by
  have hL := fun W => laidZ_any ⟨2, 1, 4, 0, 1, 1⟩ p2ok W
  have HL := Lib.hid hL
  have hS := fun W => rput_PT ⟨2, 1, 4, 0, 1, 1⟩ 0 1 W p2ok (by omega) (by omega)
  have HS := Lib.hid hS
  clear hL hS
  go_enter Tryz.func8, Tryz.ntmps8
  go_wp2_with (go_at_call 30; refine Hid.out ?_)
  refine Lib.hid ?_
  refine (HL.out _).mono ?_
  rintro e w1 ⟨lo, hi, L, M, rfl, hM, hF, hx, hlo⟩
  have hb0 : PBox w.heap.size ⟨2, 1, 4, 0, 1, 1⟩ w1 := (hx.block _ (by simp)).trans (heap_at w _ _ rfl)
  have hlo1 : w.heap.size < lo := by simp at hlo; omega
  have hhi := hM.top
  have HI := Lib.hid (HIn.mk hM hF.1.mg (ext_trans (ext_alloc _ (ext_refl w)) hx) hb0)
  have hpr := put_run p2ok hF.1.mg (t := 0) (by omega) (show (0 : Int) < 1 by omega) (low_rts p2ok (zer_low p2ok hF.2) (t := 0) (by omega) (show (0 : Int) < 1 by omega)) (n := 1) ⟨by omega, show (1 : Int) < 2 by omega⟩
  rw [if_neg (by show ¬ ((([] : List Int).length : Int) = 4); simp)] at hpr
  obtain ⟨M1, r1, r2, r3, _⟩ := hpr
  have HR1 := Lib.hid r1
  have HG1 := Lib.hid r2
  have HT1 := Lib.hid r3
  clear hM hF hx hb0 hlo HL r1 r2 r3
  have ⟨c0, c1, c2, c3, c4, c5, lt⟩ := HI.out.pb.plc

  go_wp2_with (go_at_call 13; refine (HS.out _).mono ?_; rintro e w2 ⟨v1, F1, rfl, hx2, hp1, hbn1, hsub1⟩; refine Hid.out ?_)
  refine Lib.hid ?_
  have HOF1 := Lib.hid (fun j (hj : F1 j) => (hsub1 j hj).elim (fun h => h.elim) fun h => (.inr (Nat.le_trans HI.out.m.top h) : j < lo ∨ hi ≤ j))
  have HI2 := Lib.hid (HI.out.ext hx2)
  have HP1 := Lib.hid hp1
  have HBN1 := Lib.hid hbn1
  clear hx2 hp1 hbn1 hsub1
  go_wp2_with (go_at_call 14; refine (cap_int HI2.out.m 0 1#64 (by omega) (by rw [HI2.out.mg.n]; omega) (Lib.hid HI2.out.mg.e)).mono ?_; rintro e w3 ⟨rfl, hx3⟩; refine Hid.out ?_)
  refine Lib.hid ?_
  have HI3 := Lib.hid (HI2.out.ext hx3)
  replace HP1 := Lib.hid (HP1.out.agr (Agr.of_ext hx3 HBN1.out))
  replace HBN1 := Lib.hid (HBN1.out.ext hx3.size)
  clear hx3
  go_wp2_with (go_at_call 12; refine (runI_any HR1.out 9 (by omega) (by omega) F1 v1 w3 HP1.out HBN1.out HOF1.out HI3.out.m).mono ?_; rintro e w4 ⟨rfl, hm4, hf4⟩; refine Hid.out ?_)
  refine Lib.hid ?_
  have HI4 := Lib.hid (HI3.out.ran hm4 hf4 HG1.out (by omega) hlo1)
  have hhi4 := hm4.top
  clear hm4 hf4 HP1 HBN1 HOF1 HI HI2 HI3 c0 c1 c2 c3 c4 c5 lt HR1
  have ⟨c0, c1, c2, c3, c4, c5, lt⟩ := HI4.out.pb.plc
  go_wp2_with (go_at_call 21; refine (rlist_any ⟨2, 1, 4, 0, 1, 1⟩ p2ok 0 (by omega) (show (0 : Int) < 1 by omega) _ HG1.out HT1.out HI4.out.m).mono ?_; rintro e w5 ⟨v, rfl, hv, hx⟩; have HX5 := Lib.hid (ext_trans HI4.out.ex hx); obtain ⟨va, vc, rfl⟩ := hv.slice; clear hv hx)
  go_ret
  exact Ret.mk HX5.out
end Go.Proofs.YtlapcocljjgjlaaGreat

/-
  A memory whose nodes are all popped. Conditions: those of each theorem.
-/
namespace Go.Proofs.YtlapcocljjgjlaaGreat
open Go Go.RowKit

/-! A memory whose nodes are all popped. -/
/-- So many nodes are popped, with the state's word and fields of 7. -/
structure PopIn (p : Pl) (s : St) (M : MS) (k : Nat) : Prop where
  fl : FL p M (rfr (p.n.toNat - k) (k : Int)) k
  sd : ∀ m, InR p m → m < (k : Int) → M.wd 0 (sdN p m) = s.word
  low : ∀ j : Nat, 1 ≤ j → (j : Int) < p.nod 0 → M.wd 0 j = 0#64
theorem pop_at {p : Pl} (hp : p.ok) {s : St} {M : MS} {k : Nat} (h : PopIn p s M k) (hk : k < p.n.toNat) :
    ∃ M1, Runs (popT p 3) M 3 M1 (k : Int) ∧ FL p M1 (rfr (p.n.toNat - (k + 1)) ((k + 1 : Nat) : Int)) (k + 1) ∧ ∀ j, j ≠ 0 → M1.wd 0 j = M.wd 0 j := by
  have hfl := h.fl
  have hn := hp.1
  rw [show p.n.toNat - k = (p.n.toNat - (k + 1)) + 1 by omega, rfr] at hfl
  obtain ⟨M1, r1, r2, _⟩ := pop_some hp hfl (by omega) 1 0
  have r := runs_of _ _ _ _ _ _ r1
  exact ⟨M1, r, r2, fun j hj => r.only (S := fun j => j = 0) (only_pop hp (S := fun j => j = 0) rfl _) j hj⟩
/-- Behind the state's store; behind so many fields'. -/
def fldW (p : Pl) (k : Nat) (M : MS) (f : Nat) (j : Nat) : BitVec 64 := if p.nod 0 + k * 5 + 2 ≤ j ∧ (j : Int) < p.nod 0 + k * 5 + 2 + f then 7#64 else M.wd 0 j
theorem pop_next {p : Pl} (hp : p.ok) {s : St} {M M1 M2 M3 : MS} {k : Nat} (h : PopIn p s M k) (hk : k < p.n.toNat) (h1 : FL p M1 (rfr (p.n.toNat - (k + 1)) ((k + 1 : Nat) : Int)) (k + 1)) (h2 : ∀ j, j ≠ 0 → M1.wd 0 j = M.wd 0 j)
    (h3 : ∀ j, M2.wd 0 j = if j = (p.stF k).toNat then s.word else M1.wd 0 j) (g3 : Mg p M3) (h4 : ∀ j, M3.wd 0 j = fldW p k M2 3 j) : PopIn p s M3 (k + 1) := by
  have hkr : InR p (k : Int) := ⟨by omega, by omega⟩
  obtain ⟨e1, e2, e3, e4, e5⟩ := node_pl hp hkr
  have W : ∀ j : Nat, ((j : Int) < p.nod 0 + k * 5 ∨ p.nod 0 + k * 5 + 5 ≤ j ∨ (j : Int) = p.nod 0 + k * 5 + 1) → M3.wd 0 j = M1.wd 0 j := fun j hj => by
    rw [h4]
    unfold fldW
    rw [if_neg (by omega), h3, if_neg (by omega)]
  refine ⟨h1.of g3 (W 0 (by omega)) fun m hm => ?_, fun m hm hmk => ?_, fun j hj0 hj1 => ?_⟩
  · obtain ⟨_, f2, _, _, _⟩ := node_pl hp hm
    have := hm.1
    refine W _ ?_
    unfold nxN
    omega
  · obtain ⟨f1, _, _, _, _⟩ := node_pl hp hm
    have := hm.1
    by_cases e : m = k
    · subst e
      rw [h4]
      unfold fldW
      rw [if_neg (by unfold sdN; omega), h3]
      exact if_pos rfl
    · rw [W _ (by unfold sdN; omega), h2 _ (by unfold sdN; omega)]
      exact h.sd m hm (by omega)
  · rw [W _ (by omega), h2 _ (by omega)]
    exact h.low j hj0 hj1
theorem U_7r : (7 : Int) = U 7#64 := by rw [U_toNat]; rfl
def RetPopd (p : Pl) (s : St) (w : World) (e : Ending) (w' : World) : Prop :=
  ∃ lo hi L M, e = .returned (.pointer (some ⟨L.bm, 0, none⟩)) ∧ MemIn lo hi L M w' ∧ PopIn p s M p.n.toNat ∧ Ext w w' ∧ w.heap.size ≤ lo
/-- In popped's midst: the state's box beside the plan's. -/
structure PoIn (p : Pl) (s : St) (lo hi : Nat) (L : Lay) (w : World) (M : MS) (wr : World) : Prop where
  h : HIn p lo hi L w.heap.size w M wr
  sb : wr.heap[w.heap.size + 1]? = some (.cells #[.int .i64 s.g, .int .i64 s.m, .int .i64 s.k] 29 (0, 0))
theorem PoIn.ext {p : Pl} {s : St} {lo hi : Nat} {L : Lay} {w : World} {M : MS} {wr wr' : World} (h : PoIn p s lo hi L w M wr) (hx : Ext wr wr') : PoIn p s lo hi L w M wr' := ⟨h.h.ext hx, (hx.block _ (heap_lt h.sb)).trans h.sb⟩
theorem PoIn.ran {p : Pl} {s : St} {lo hi : Nat} {L : Lay} {w : World} {M M' : MS} {wr wr' : World} (h : PoIn p s lo hi L w M wr) (hm : MemIn lo hi L M' wr') (hf : Fr lo hi wr wr') (hG : Mg p M') (h1 : w.heap.size + 1 < lo) : PoIn p s lo hi L w M' wr' :=
  ⟨h.h.ran hm hf hG (by omega) (by omega), (hf.block _ (heap_lt h.sb) (.inl h1)).trans h.sb⟩
def PoRel (p : Pl) (s : St) (lo hi : Nat) (L : Lay) (w : World) (vi : Value) (wr : World) : Prop := ∃ (k : Nat) (M : MS), vi = .int .i64 (k : Int) ∧ k ≤ p.n.toNat ∧ PoIn p s lo hi L w M wr ∧ PopIn p s M k
def PfRel (p : Pl) (s : St) (lo hi : Nat) (L : Lay) (w : World) (k : Nat) (M2 : MS) (vi : Value) (wr : World) : Prop := ∃ (f : Nat) (M : MS), vi = .int .i64 (f : Int) ∧ f ≤ 3 ∧ PoIn p s lo hi L w M wr ∧ ∀ j, M.wd 0 j = fldW p k M2 f j

set_option maxRecDepth 8000 in
set_option maxHeartbeats 4000000 in
theorem popped_any (p : Pl) (hp : p.ok) (s : St) (w : World) : Calls Tryz.prog 10 #[plV p, .agg #[.int .i64 s.g, .int .i64 s.m, .int .i64 s.k]] w (RetPopd p s w) := by
  have HP := Lib.hid hp
  have hn1 := hp.1
  clear hp
  go_enter Tryz.func10, Tryz.ntmps10
  go_wp2_with (go_at_call 30; refine Hid.out ?_)
  refine Lib.hid ?_
  have hb0 : ((w.alloc (.cells #[.int .i64 p.n, .int .i64 p.t, .int .i64 p.r, .int .i64 p.d, .int .i64 p.b, .int .i64 p.g] 23)).alloc (.cells #[.int .i64 s.g, .int .i64 s.m, .int .i64 s.k] 29)).heap[w.heap.size]? = some (.cells #[.int .i64 p.n, .int .i64 p.t, .int .i64 p.r, .int .i64 p.d, .int .i64 p.b, .int .i64 p.g] 23) := (Below.heap_alloc _ _ _ (by simp)).trans (heap_at _ _ _ rfl)
  have hb1 : ((w.alloc (.cells #[.int .i64 p.n, .int .i64 p.t, .int .i64 p.r, .int .i64 p.d, .int .i64 p.b, .int .i64 p.g] 23)).alloc (.cells #[.int .i64 s.g, .int .i64 s.m, .int .i64 s.k] 29)).heap[w.heap.size + 1]? = some (.cells #[.int .i64 s.g, .int .i64 s.m, .int .i64 s.k] 29) := heap_at _ _ _ (by simp)
  have hE : Ext w ((w.alloc (.cells #[.int .i64 p.n, .int .i64 p.t, .int .i64 p.r, .int .i64 p.d, .int .i64 p.b, .int .i64 p.g] 23)).alloc (.cells #[.int .i64 s.g, .int .i64 s.m, .int .i64 s.k] 29)) := ext_alloc _ (ext_alloc _ (ext_refl w))
  generalize ((w.alloc (.cells #[.int .i64 p.n, .int .i64 p.t, .int .i64 p.r, .int .i64 p.d, .int .i64 p.b, .int .i64 p.g] 23)).alloc (.cells #[.int .i64 s.g, .int .i64 s.m, .int .i64 s.k] 29)) = W at hb0 hb1 hE ⊢
  refine (laidZ_any p HP.out W).mono ?_
  rintro e w1 ⟨lo, hi, L, M, rfl, hM, hF, hx, hlo⟩
  have hl1 := heap_lt hb1
  have hlo1 : w.heap.size + 1 < lo := by omega
  have hlo0 : w.heap.size < lo := by omega
  have hhi := hM.top
  have HI : Hid (PoIn p s lo hi L w M w1) := Lib.hid ⟨⟨hM, hF.1.mg, ext_trans hE hx, (hx.block _ (heap_lt hb0)).trans hb0⟩, (hx.block _ hl1).trans hb1⟩
  have HS : Hid (PopIn p s M 0) := Lib.hid ⟨hF.1, fun m hm h => by have := hm.1; omega, zer_low HP.out hF.2⟩
  clear hM hF hx hlo hb0 hb1 hE hl1
  go_wp2
  go_loopw [6] (fun vi wr => PoRel p s lo hi L w vi wr) (fun vi _ => (p.n - intOf vi).toNat)
  case atStart => exact ⟨0, M, rfl, Nat.zero_le _, HI.out, HS.out⟩
  case round =>
    obtain ⟨k, M, rfl, hkm, hG, hS⟩ := hrel
    have HR := Lib.hid hG
    have HS := Lib.hid hS
    clear hG hS HI
    have ⟨c0, c1, c2, c3, c4, c5, lt⟩ := HR.out.h.pb.plc
    by_cases hlt : k < p.n.toNat
    · have hlt' : (k : Int) < p.n := by omega
      obtain ⟨M1, r1, hfl, hw1⟩ := pop_at HP.out HS.out hlt
      have HR1 := Lib.hid r1
      have HFL := Lib.hid hfl
      have HW1 := Lib.hid hw1
      clear r1 hfl hw1
      have HH := Lib.hid HR.out.h
      go_wp2_with (go_at_call 33; refine (pop_PT p 3 _).mono ?_; rintro e w2 ⟨v1, F1, rfl, hx2, hp1, hbn1, hsub1⟩; refine Hid.out ?_)
      refine Lib.hid ?_
      have HOF1 := Lib.hid (fun j (hj : F1 j) => (hsub1 j hj).elim (fun h => h.elim) fun h => (.inr (Nat.le_trans HH.out.m.top h) : j < lo ∨ hi ≤ j))
      have HH2 := Lib.hid (HH.out.ext hx2)
      have HP1 := Lib.hid hp1
      have HBN1 := Lib.hid hbn1
      have HRb := Lib.hid (HR.out.ext hx2)
      clear hx2 hp1 hbn1 hsub1
      go_wp2_with (go_at_call 14; refine (cap_int HH2.out.m 0 1#64 (by omega) (by rw [HH2.out.mg.n]; omega) (Lib.hid HH2.out.mg.e)).mono ?_; rintro e w3 ⟨rfl, hx3⟩; refine Hid.out ?_)
      refine Lib.hid ?_
      have HH3 := Lib.hid (HH2.out.ext hx3)
      replace HP1 := Lib.hid (HP1.out.agr (Agr.of_ext hx3 HBN1.out))
      replace HBN1 := Lib.hid (HBN1.out.ext hx3.size)
      have HRc := Lib.hid (HRb.out.ext hx3)
      clear hx3
      go_wp2_with (go_at_call 12; refine (runI_any HR1.out 9 (by omega) (by omega) F1 v1 w3 HP1.out HBN1.out HOF1.out HH3.out.m).mono ?_; rintro e w4 ⟨rfl, hm4, hf4⟩; refine Hid.out ?_)
      refine Lib.hid ?_
      have HR4 := Lib.hid (HRc.out.ran hm4 hf4 HFL.out.mg hlo1)
      clear hm4 hf4 HP1 HBN1 HOF1 HR HRb HRc HH HH2 HH3 HR1 c0 c1 c2 c3 c4 c5 lt
      have ⟨c0, c1, c2, c3, c4, c5, lt⟩ := HR4.out.h.pb.plc
      have d0 := cell_at (o := 0) HR4.out.sb rfl
      have d1 := cell_at (o := 1) HR4.out.sb rfl
      have d2 := cell_at (o := 2) HR4.out.sb rfl
      have dl := cell_lt d0
      have hkr : InR p (k : Int) := ⟨by omega, by omega⟩
      obtain ⟨e1, e2, e3, e4, e5⟩ := node_pl HP.out hkr
      have HE3 := Lib.hid e3
      have hst0 : 0 ≤ p.stF (k : Int) := by omega
      have hst1 : p.stF (k : Int) < p.sizeF := by omega
      have hE5 := Lib.hid e5
      clear e3 e2 e1 e5
      have hWd : ∀ W, Calls Tryz.prog 25 #[.agg #[.int .i64 s.g, .int .i64 s.m, .int .i64 s.k]] W (Ret (.int .u64 (U s.word)) W) := fun W => word_any s W
      replace hWd := Lib.hid hWd
      go_wp2
      refine wp_region_mix (fun w' => ∃ q, w' = off lo hi w4 q) [(0, [0, 1, 3, 4, 6]), (1, [2]), (1, [5]), (1, [7]), (0, [8]), (1, [9])] (by kernel_rfl) (by kernel_rfl) (off_of ((Fr.refl lo hi w4).drew)) ?_
      simp only [pieces, pickL, List.map_cons, List.map_nil, List.getD_cons_zero, List.getD_cons_succ]
      refine mix_reads ?_
      repeat (go_big_quiet_step (fail))
      refine wpQuiet_nil (mix_acts ?_)
      have HX0 := Lib.hid ((Fr.refl lo hi w4).drew)
      have HI0 := Lib.hid (HR4.out.ext (ext_drew (ext_refl w4)))
      go_wp2_with (go_at_call 14; refine (cap_int HI0.out.h.m 0 1#64 (by omega) (by rw [HI0.out.h.mg.n]; omega) (Lib.hid HI0.out.h.mg.e)).mono ?_; rintro e w5 ⟨rfl, hx⟩; refine Hid.out ?_)
      refine Lib.hid ?_
      have HX1 := Lib.hid (HX0.out.ext hx)
      have HI1 := Lib.hid (HI0.out.ext hx)
      clear hx HI0 HX0
      go_wp2
      refine mixQ_mk (off_of HX1.out) (mix_acts ?_)
      go_wp2_with (go_at_call 24; refine (state_any p (k : Int) _).mono ?_; rintro e w6 ⟨rfl, hx⟩; refine Hid.out ?_)
      refine Lib.hid ?_
      have HX2 := Lib.hid (HX1.out.ext hx)
      have HI2 := Lib.hid (HI1.out.ext hx)
      clear hx HI1 HX1
      go_wp2
      refine mixQ_mk (off_of HX2.out) (mix_acts ?_)
      go_wp2_with (go_at_call 25; refine (hWd.out _).mono ?_; rintro e w7 ⟨rfl, hx⟩; refine Hid.out ?_)
      refine Lib.hid ?_
      have HX3 := Lib.hid (HX2.out.ext hx)
      have HI3 := Lib.hid (HI2.out.ext hx)
      clear hx HI2 HX2
      go_wp2
      refine mixQ_mk (off_of HX3.out) (mix_reads ?_)
      repeat (go_big_quiet_step (fail))
      refine wpQuiet_nil (mix_acts ?_)
      go_wp2_with (go_at_call 34; refine (do_int HI3.out.h.m 0 1 (p.stF (k : Int)) _ _ 0 _ 1#64 s.word 0#64 _ rfl rfl U_0.symm (HI3.out.h.mg.ok hst0 hst1 (by omega) (by omega)) (Lib.hid rfl) (Lib.hid rfl)).mono ?_; rintro e w8 ⟨rfl, hm8, hf8⟩; refine Hid.out ?_)
      refine Lib.hid ?_
      have HX4 := Lib.hid (HX3.out.trans hf8)
      have HI4 := Lib.hid (HI3.out.ran hm8 hf8 (HI3.out.h.mg.done _ _ _ _ _) hlo1)
      have HWB := Lib.hid (fun j => wd_store M1 (p.stF (k : Int)) s.word 0#64 j)
      generalize M1.done 0 1 (p.stF (k : Int)) s.word 0#64 = M2 at HI4 HWB ⊢
      clear hm8 hf8 HI3 HX3 HR4
      go_wp2
      refine mixQ_mk (off_of HX4.out) (mix_end ?_)
      clear c0 c1 c2 c3 c4 c5 lt d0 d1 d2 dl
      go_wp2
      go_loopw [7] (fun vi wr => PfRel p s lo hi L w k M2 vi wr) (fun vi _ => (3 - intOf vi).toNat)
      case atStart => exact ⟨0, M2, rfl, by omega, HI4.out, fun j => by unfold fldW; rw [if_neg (by omega)]⟩
      case round =>
        clear HI4 HX4
        obtain ⟨f, M3, rfl, hf3, hG, hw3⟩ := hrel
        have HR := Lib.hid hG
        have HW3 := Lib.hid hw3
        clear hG hw3
        have ⟨c0, c1, c2, c3, c4, c5, lt⟩ := HR.out.h.pb.plc
        by_cases hlf : f < 3
        · have hlf' : (f : Int) < 3 := by omega
          have hfd0 : 0 ≤ p.fdF (k : Int) (f : Int) := by have := HE3.out (f : Int) (by omega) hlf'; omega
          have hfd1 : p.fdF (k : Int) (f : Int) < p.sizeF := by have := HE3.out (f : Int) (by omega) hlf'; have := hE5.out; omega
          go_wp2
          refine wp_region_mix (fun w' => ∃ q, w' = off lo hi wr q) [(0, [0, 1, 3, 4, 5]), (1, [2]), (1, [6]), (0, [7]), (1, [8])] (by kernel_rfl) (by kernel_rfl) (off_of ((Fr.refl lo hi wr).drew)) ?_
          simp only [pieces, pickL, List.map_cons, List.map_nil, List.getD_cons_zero, List.getD_cons_succ]
          refine mix_reads ?_
          repeat (go_big_quiet_step (fail))
          refine wpQuiet_nil (mix_acts ?_)
          have HX0 := Lib.hid ((Fr.refl lo hi wr).drew)
          have HI0 := Lib.hid (HR.out.ext (ext_drew (ext_refl wr)))
          go_wp2_with (go_at_call 14; refine (cap_int HI0.out.h.m 0 1#64 (by omega) (by rw [HI0.out.h.mg.n]; omega) (Lib.hid HI0.out.h.mg.e)).mono ?_; rintro e w9 ⟨rfl, hx⟩; refine Hid.out ?_)
          refine Lib.hid ?_
          have HX1 := Lib.hid (HX0.out.ext hx)
          have HI1 := Lib.hid (HI0.out.ext hx)
          clear hx HI0 HX0
          go_wp2
          refine mixQ_mk (off_of HX1.out) (mix_acts ?_)
          go_wp2_with (go_at_call 26; refine (field_any p (k : Int) (f : Int) _).mono ?_; rintro e w10 ⟨rfl, hx⟩; refine Hid.out ?_)
          refine Lib.hid ?_
          have HX2 := Lib.hid (HX1.out.ext hx)
          have HI2 := Lib.hid (HI1.out.ext hx)
          clear hx HI1 HX1
          go_wp2
          refine mixQ_mk (off_of HX2.out) (mix_reads ?_)
          repeat (go_big_quiet_step (fail))
          refine wpQuiet_nil (mix_acts ?_)
          go_wp2_with (go_at_call 34; refine (do_int HI2.out.h.m 0 1 (p.fdF (k : Int) (f : Int)) _ _ 0 _ 1#64 7#64 0#64 _ rfl U_7r U_0.symm (HI2.out.h.mg.ok hfd0 hfd1 (by omega) (by omega)) (Lib.hid rfl) (Lib.hid rfl)).mono ?_; rintro e w11 ⟨rfl, hm8, hf8⟩; refine Hid.out ?_)
          refine Lib.hid ?_
          have HX4 := Lib.hid (HX2.out.trans hf8)
          have HI4 := Lib.hid (HI2.out.ran hm8 hf8 (HI2.out.h.mg.done _ _ _ _ _) hlo1)
          have HW4 : Hid (∀ j, (M3.done 0 1 (p.fdF (k : Int) (f : Int)) 7#64 0#64).wd 0 j = fldW p k M2 (f + 1) j) := Lib.hid fun j => by
            have eF := HE3.out (f : Int) (by omega) hlf'
            rw [wd_store, HW3.out]
            unfold fldW
            by_cases h1 : j = (p.fdF (k : Int) (f : Int)).toNat
            · rw [if_pos h1, if_pos (by omega)]
            · rw [if_neg h1]
              by_cases h2 : (p.nod 0 + k * 5 + 2 ≤ j) ∧ ((j : Int) < p.nod 0 + k * 5 + 2 + f)
              · rw [if_pos h2, if_pos (by omega)]
              · rw [if_neg h2, if_neg (by omega)]
          clear hm8 hf8 HI2 HX2
          go_wp2
          refine mixQ_mk (off_of HX4.out) (mix_end ?_)
          clear c0 c1 c2 c3 c4 c5 lt
          go_wp2
          exact ⟨⟨f + 1, _, by go_num, by omega, HI4.out, HW4.out⟩, by simp [intOf]; omega⟩
        · obtain rfl : f = 3 := by omega
          have HN := Lib.hid (pop_next HP.out HS.out hlt HFL.out HW1.out HWB.out HR.out.h.mg HW3.out)
          go_wp2
          exact ⟨⟨k + 1, M3, by go_num, by omega, HR.out, HN.out⟩, by simp [intOf]; omega⟩
    · obtain rfl : k = p.n.toNat := by omega
      have hlt' : p.n ≤ ((p.n.toNat : Nat) : Int) := by omega
      go_wp2
      go_ret
      exact ⟨lo, hi, L, M, rfl, HR.out.h.m, HS.out, HR.out.h.ex, by omega⟩

end Go.Proofs.YtlapcocljjgjlaaGreat

/-
  A law's row, once for all: whoever shows that the call returns true and turns nothing old has the row's post; the arguments read as they did. Conditions: the row names no variable; its result is one bool; its parameters' types can be read.
-/
namespace Go.Proofs.YtlapcocljjgjlaaGreat
open Go Go.ChangeShapes Go.WideShapes Go.ChangeAt Go.RowKit Go.Joins

section
variable {H : Type} {enc : TypeId × Value → H} {P : Program}

/-- What reads in W reads in W' likewise, argument by argument. -/
theorem trodAll_below (hl : laidOutB P = true) {W W' : World} (hb : Below W.heap.size W W') :
    ∀ (ts : List TypeId) (vs : List Value) (ds : List (DataW H)) (ps : List MemPlace), (∀ t ∈ ts, P.readableRec t = true ∧ t < P.types.size) → (∀ x ∈ ps, x.block < W.heap.size) →
      DataW.TrodAll enc P W 0 (fun _ => true) true ts vs ds ps → DataW.TrodAll enc P W' 0 (fun b => decide (b < W.heap.size)) true ts vs ds ps
  | [], vs, ds, ps, _, _, h => by
    obtain ⟨rfl, rfl, rfl⟩ := trodAll_nil h
    exact trodAll_mk0
  | t :: ts, vs, ds, ps, hr, hlt, h => by
    obtain ⟨v, vs', d, ds', p, q, rfl, rfl, rfl, h1, h2⟩ := trodAll_cons h
    exact trodAll_cons_mk (Below.trod hl (hr t (by simp)).1 (hr t (by simp)).2 h1 hb (fun x hx => hlt x (List.mem_append.2 (.inl hx))))
      (trodAll_below hl hb ts vs' ds' q (fun t' ht => hr t' (by simp [ht])) (fun x hx => hlt x (List.mem_append.2 (.inr hx))) h2)

/-- The post of a law's row. -/
theorem law_post {f : Func} {s : ChangeSpec} {apart : Bool} {tb : TypeId} {W W' : World} {args : Array Value} {ds gs : List (DataW H)} {before : List MemPlace}
    (hl : laidOutB P = true) (hr : (f.params.toList.all fun t => P.readableRec t && decide (t < P.types.size)) = true) (hvars : s.vars = []) (hrt : f.resultTypes = #[tb]) (hub : P.underlying tb = some .bool)
    (hW : DataW.Whole enc P f.params.toList s.vars apart W args.toList ds gs before) (hspec : s.fn H (ds ++ gs) = { results := [.lit (.bool true)], args := ds })
    (hb : Below W.heap.size W W') : s.post enc P f apart true false false W args (.bool true) W' := by
  have hr' : ∀ t ∈ f.params.toList, P.readableRec t = true ∧ t < P.types.size := fun t ht => by simpa using List.all_eq_true.1 hr t ht
  have hlt := hW.lt
  have hW2 := hW
  obtain ⟨p, q, hA, hV, rfl, _, _⟩ := hW2
  rw [hvars] at hV
  obtain ⟨rfl, rfl⟩ := trodVars_none hV
  refine ⟨ds, [], p ++ [], [], p, [], hW, ?_, ?_, ?_, hb.frame _, fun h => by cases h⟩
  · rw [hspec, hrt]
    exact trodAll_mk1 (shut_bool hub true)
  · rw [hspec]
    exact trodAll_below hl hb _ _ _ _ hr' (fun x hx => hlt x (List.mem_append.2 (.inl hx))) hA
  · rw [hspec, hvars]
    rfl
end
end Go.Proofs.YtlapcocljjgjlaaGreat
