/-
  What the calls of Run come to (B). Conditions: those of each theorem.
-/
import Derived.Test.YtkjbfhcgldgkaaaGau
import Derived.ProofKit
import Derived.OpenShut
import Derived.Lib.SmallJoins
namespace Go.Proofs.Ytkjbfhcgldgkaaa
open Go Go.RowKit

structure RunN_B (lo hi : Nat) (L : Lay) (r : Int) (e : BitVec 64) (x : MS × Nat × Tr (Bool)) (m : Nat) (B : Nat) (w : World) (n : Nat) (t : Tr (Bool)) (M : MS) (v : Value) (F : Nat → Prop) (wr : World) : Prop where
  km : n ≤ m
  res : ∃ y, runT r e (m - n) t M = some y ∧ x = (y.1, y.2.1 + n, y.2.2)
  p : PT kB t F v wr
  bnd : Bnd F wr
  off : ∀ j, F j → (j < lo ∨ hi ≤ j) ∧ j ≠ B
  mem : MemIn lo hi L M wr
  fr : Fr lo hi w wr
  box : ∃ (y : Bool) (a : Acc) (fn : Value), v = .agg #[.bool y, .int .i64 a.op, .int .i64 a.at_, .int .u64 (U a.a), .int .u64 (U a.b), fn, .pointer none] ∧ (fn = .nilFunc ∨ ∃ g caps, fn = .func (.func g) #[] caps) ∧ wr.heap[B]? = some (.cells #[.bool y, .int .i64 a.op, .int .i64 a.at_, .int .u64 (U a.a), .int .u64 (U a.b), fn, .pointer none] 68)
  cap : wr.heap[B + 1]? = some (.cells #[.int .i64 r, .int .u64 (U e)] 62)
def RunL_B (lo hi : Nat) (L : Lay) (r : Int) (e : BitVec 64) (x : MS × Nat × Tr (Bool)) (m : Nat) (B : Nat) (w : World) (i : Value) (wr : World) : Prop :=
  ∃ (n : Nat) (t : Tr (Bool)) (M : MS) (v : Value) (F : Nat → Prop), i = .int .i64 (n : Int) ∧ RunN_B lo hi L r e x m B w n t M v F wr
set_option maxRecDepth 8000 in
set_option maxHeartbeats 4000000 in
theorem run_B {lo hi : Nat} {L : Lay} {M : MS} (t : Tr (Bool)) (F : Nat → Prop) (v : Value) (r : Int) (e : BitVec 64) (most : Int) (w : World) (x : MS × Nat × Tr (Bool)) (hmo : most ≤ 1099511627776) (hx : runT r e most.toNat t M = some x) (hP : PT kB t F v w) (hF : Bnd F w) (hO : ∀ j, F j → j < lo ∨ hi ≤ j) (hM : MemIn lo hi L M w) :
    Calls Try.prog 22 #[v, .pointer (some ⟨L.bm, 0, none⟩), .agg #[.int .i64 r, .int .u64 (U e)], .int .i64 most] w (RetR kB lo hi L x w) := by
  have HP := Lib.hid hP
  have HM := Lib.hid hM
  have hhi := hM.top
  obtain ⟨y, a, fn, rfl, hfn⟩ := shB hP
  have HFN := Lib.hid hfn
  clear hfn hP hM
  have HI : Hid (RunN_B lo hi L r e x most.toNat w.heap.size w 0 t M (.agg #[.bool y, .int .i64 a.op, .int .i64 a.at_, .int .u64 (U a.a), .int .u64 (U a.b), fn, .pointer none]) F ((w.alloc (.cells #[.bool y, .int .i64 a.op, .int .i64 a.at_, .int .u64 (U a.a), .int .u64 (U a.b), fn, .pointer none] 68)).alloc (.cells #[.int .i64 r, .int .u64 (U e)] 62))) := by
    refine Lib.hid ⟨Nat.zero_le _, ⟨x, hx, rfl⟩, ?_, ?_, fun j hj => ⟨hO j hj, fun h => by have := hF j hj; omega⟩, ?_, ?_, ⟨y, a, fn, rfl, HFN.out, ?_⟩, ?_⟩
    · exact HP.out.agr (Agr.of_ext (by repeat (first | exact ext_refl _ | apply ext_alloc)) hF)
    · exact hF.ext (by simp; omega)
    · exact HM.out.ext (by repeat (first | exact ext_refl _ | apply ext_alloc))
    · exact .of_ext (by repeat (first | exact ext_refl _ | apply ext_alloc))
    · rw [Below.heap_alloc _ _ _ (by simp)]
      exact heap_at w _ _ rfl
    · exact heap_at _ _ _ (by simp)
  clear HP HM hF hO hx
  go_enter Try.func22, Try.ntmps22
  go_wp2
  go_loopw [11] (fun i wr => RunL_B lo hi L r e x most.toNat w.heap.size w i wr) (fun i _ => (most - intOf i).toNat)
  case atStart => exact ⟨0, _, _, _, _, rfl, HI.out⟩
  case round =>
    obtain ⟨n, t', M', v, F', rfl, hR⟩ := hrel
    have HR := Lib.hid hR
    obtain ⟨y1, a1, fn1, rfl, hfn1, hblk⟩ := hR.box
    have HFN1 := Lib.hid hfn1
    have HBK := Lib.hid hblk
    obtain ⟨c0, c1, c2, c3, c4, c5, c6, cz, ll⟩ := sev_of hblk
    have cp0 := cell_at (o := 0) hR.cap rfl
    have cp1 := cell_at (o := 1) hR.cap rfl
    have lp := heap_lt hR.cap
    have hsz := hR.fr.size
    have hkm := hR.km
    clear hR hfn1 hblk HI HFN
    by_cases hlt : (n : Int) < most
    · by_cases hst : Stays r e M' t'
      · have hE : x = (M', n, t') := by
          obtain ⟨y', h1, h2⟩ := HR.out.res
          rw [runT_stays hst] at h1
          cases h1
          simpa using h2
        have HE := Lib.hid hE
        have HST := Lib.hid hst
        clear hE hst
        obtain ⟨z1, hz1⟩ := ans_B t'
        have HZ1 := Lib.hid hz1
        clear hz1
        rcases HFN1.out with rfl | ⟨g', caps', rfl⟩
        all_goals
          go_wp2_with (first
            | (go_at_call 54; refine (stay_B t' F' _ r e _ HR.out.p HR.out.mem HST.out).mono ?_; rintro e1 w1 ⟨rfl, hx⟩; have HX := Lib.hid hx; clear hx; have c0 := ext_cell HX.out c0; have c1 := ext_cell HX.out c1; have c2 := ext_cell HX.out c2; have c3 := ext_cell HX.out c3; have c4 := ext_cell HX.out c4; have c5 := ext_cell HX.out c5; have c6 := ext_cell HX.out c6; have ll1 := Nat.lt_of_lt_of_le ll HX.out.size)
            | (go_at_call 55; refine (over_B t' F' _ _ (HR.out.p.agr (Agr.of_ext (ext_trans HX.out (by repeat (first | exact ext_refl _ | apply ext_alloc))) HR.out.bnd)) z1 _ HZ1 (Lib.hid rfl)).mono ?_; rintro e1 w1' ⟨rfl, hx⟩; replace hx := ext_trans (ext_trans HX.out (by repeat (first | exact ext_refl _ | apply ext_alloc))) hx))
          exact bodyPost_ret (v := .tuple #[.bool z1, .int .i64 (n : Int), .bool (ovT t')]) (by simp [results, Try.results22, go_sem]) rfl (by rw [HE.out]; exact ⟨by rw [← HZ1.out], HR.out.mem.ext (by first | exact hx | exact ext_trans hx (by repeat (first | exact ext_refl _ | apply ext_alloc))), HR.out.fr.ext (by first | exact hx | exact ext_trans hx (by repeat (first | exact ext_refl _ | apply ext_alloc)))⟩)
      · have hE : ∃ a f, t' = .ask a f ∧ DoOk M' r e a.op a.at_ := by
          obtain ⟨y', h1, h2⟩ := HR.out.res
          rw [show most.toNat - n = (most.toNat - (n + 1)) + 1 by omega] at h1
          cases t' with
          | done x => exact (hst trivial).elim
          | ask a f => exact ⟨a, f, rfl, by by_cases hd : DoOk M' r e a.op a.at_; exact hd; exact (hst hd).elim⟩
          | more => simp [runT] at h1
        obtain ⟨a3, f3, rfl, hd⟩ := hE
        have HD := Lib.hid hd
        obtain ⟨x3, hx3⟩ : ∃ x3, Hid (M'.wd r.toNat a3.at_.toNat = x3) := ⟨_, Lib.hid rfl⟩
        clear hd hst
        go_wp2_with (go_at_call 54; refine (stepA_B a3 f3 F' _ r e _ HR.out.p HR.out.bnd (fun j hj => (HR.out.off j hj).1) HR.out.mem HD.out x3 hx3).mono ?_; rintro e1 w1 ⟨v2, F2, rfl, hp, hbn, hsub, hm, hf⟩; refine Hid.out ?_)
        refine Lib.hid ?_
        have hs1 := hf.size
        have hB1 := (hf.block _ ll (.inr hhi)).trans HBK.out
        have hC1 := (hf.block _ lp (.inr (by omega))).trans HR.out.cap
        obtain ⟨y2, a2, fn2, rfl, hfn2⟩ := shB hp
        have HFN2 := Lib.hid hfn2
        clear c0 c1 c2 c3 c4 c5 c6 cz cp0 cp1 hfn2
        obtain ⟨c0, c1, c2, c3, c4, c5, c6, cz, ll1⟩ := sev_of hB1
        have HS : Hid (∀ o, RunN_B lo hi L r e x most.toNat w.heap.size w (n + 1) (f3 x3) (M'.done r a3.op a3.at_ a3.a a3.b) (.agg #[.bool y2, .int .i64 a2.op, .int .i64 a2.at_, .int .u64 (U a2.a), .int .u64 (U a2.b), fn2, .pointer none]) F2 ((put7 w.heap.size (.bool y2) (.int .i64 a2.op) (.int .i64 a2.at_) (.int .u64 (U a2.a)) (.int .u64 (U a2.b)) (fn2) (.pointer none) w1).alloc o)) := by
          refine Lib.hid fun o => ⟨by omega, ?_, ?_, ?_, ?_, ?_, ?_, ⟨y2, a2, fn2, rfl, HFN2.out, ?_⟩, ?_⟩
          · obtain ⟨y', h1, h2⟩ := HR.out.res
            rw [show most.toNat - n = (most.toNat - (n + 1)) + 1 by omega, runT, if_pos HD.out, hx3.out] at h1
            obtain ⟨y3, h3, h4⟩ := Option.map_eq_some_iff.1 h1
            subst h4
            exact ⟨y3, h3, by rw [h2]; simp; omega⟩
          · have hnB : ¬ F2 w.heap.size := fun h => by
              rcases hsub _ h with h | h
              · exact (HR.out.off _ h).2 rfl
              · omega
            exact (hp.agr (Agr.of_put7 _ _ _ _ _ _ _ hnB)).agr (Agr.of_ext (ext_alloc o (ext_refl _)) (hbn.ext (by rw [put7_size]; exact Nat.le_refl _)))
          · exact hbn.ext (by simp [put7_size])
          · intro j hj
            rcases hsub j hj with h | h
            · exact HR.out.off j h
            · exact ⟨.inr (by omega), by omega⟩
          · exact (put7_mem _ _ _ _ _ _ _ hm hhi).alloc o
          · exact (put7_frNew _ _ _ _ _ _ _ (HR.out.fr.trans hf) (Nat.le_refl _)).alloc o
          · exact (Below.heap_alloc _ _ _ (by rw [put7_size]; exact ll1)).trans (put7_block _ _ _ _ _ _ _ hB1)
          · rw [Below.heap_alloc _ _ _ (by rw [put7_size]; exact heap_lt hC1), put7_other _ _ _ _ _ _ _ (by omega)]
            exact hC1
        rw [put7] at HS
        clear hp hm hf hB1 hC1 HD hbn hsub
        rcases HFN2.out with rfl | ⟨g', caps', rfl⟩
        all_goals
          go_wp2
          exact ⟨⟨n + 1, _, _, _, _, by go_num, HS.out _⟩, by simp [intOf]; omega⟩
    · have hE : x = (M', n, t') := by
        obtain ⟨y', h1, h2⟩ := HR.out.res
        rw [show most.toNat - n = 0 by omega, runT] at h1
        cases h1
        simpa using h2
      have HE := Lib.hid hE
      clear hE
      obtain ⟨z1, hz1⟩ := ans_B t'
      have HZ1 := Lib.hid hz1
      clear hz1
      rcases HFN1.out with rfl | ⟨g', caps', rfl⟩
      all_goals
        go_wp2_with (go_at_call 55; refine (over_B t' F' _ _ HR.out.p z1 _ HZ1 (Lib.hid rfl)).mono ?_; rintro e1 w1 ⟨rfl, hx⟩)
        exact bodyPost_ret (v := .tuple #[.bool z1, .int .i64 (n : Int), .bool (ovT t')]) (by simp [results, Try.results22, go_sem]) rfl (by rw [HE.out]; exact ⟨by rw [← HZ1.out], HR.out.mem.ext (by first | exact hx | exact ext_trans hx (by repeat (first | exact ext_refl _ | apply ext_alloc))), HR.out.fr.ext (by first | exact hx | exact ext_trans hx (by repeat (first | exact ext_refl _ | apply ext_alloc)))⟩)
end Go.Proofs.Ytkjbfhcgldgkaaa

/-
  What the laws of hazard share: their awake and fits, runs of Set, Clear and Held as calls, what a word names, the reference's Held, and what stands in the midst of a law. Conditions: those of each theorem.
-/
namespace Go.Proofs.Ytkjbfhcgldgkaaa
open Go Go.RowKit

/-! Runs. -/
def RetSetH (p : Pl) (lo hi : Nat) (L : Lay) (M : MS) (i : Nat) (x : BitVec 64) (w : World) (e : Ending) (w' : World) : Prop :=
  ∃ M', e = .returned (.tuple #[.agg #[], .int .i64 1, .bool true]) ∧ MemIn lo hi L M' w' ∧ Fr lo hi w w' ∧ HzTo p M M' (fun j => if j = i then x else hzW p M j)
theorem runSetH {lo hi : Nat} {L : Lay} {M : MS} (p : Pl) (hp : p.ok) (hG : Mg p M) (t s : Int) (x : BitVec 64) (h0 : 0 ≤ t) (h1 : t < p.t) (h2 : 0 ≤ s) (h3 : s < 3) (F : Nat → Prop) (v : Value) (w : World) (hP : PT kN (setT (p.hazF t s) x) F v w) (hF : Bnd F w) (hO : ∀ j, F j → j < lo ∨ hi ≤ j) (hM : MemIn lo hi L M w) :
    Calls Try.prog 19 #[v, .pointer (some ⟨L.bm, 0, none⟩), .agg #[.int .i64 0, .int .u64 (U 1#64)], .int .i64 9] w (RetSetH p lo hi L M (3 * t + s).toNat x w) := by
  obtain ⟨M', r1, r2⟩ := set_run hp hG x h0 h1 h2 h3 8
  exact (run_N (setT (p.hazF t s) x) F v 0 1#64 9 w _ (by omega) r1 hP hF hO hM).mono fun e w' ⟨g1, g2, g3⟩ => ⟨M', g1, g2, g3, r2⟩
def RetClrH (p : Pl) (lo hi : Nat) (L : Lay) (M : MS) (t : Int) (w : World) (e : Ending) (w' : World) : Prop :=
  ∃ M', e = .returned (.tuple #[.agg #[], .int .i64 3, .bool true]) ∧ MemIn lo hi L M' w' ∧ Fr lo hi w w' ∧ HzTo p M M' (fun i => if (3 * t).toNat ≤ i ∧ i < (3 * t + 3).toNat then 0#64 else hzW p M i)
theorem runClrH {lo hi : Nat} {L : Lay} {M : MS} (p : Pl) (hp : p.ok) (hG : Mg p M) (t : Int) (h0 : 0 ≤ t) (h1 : t < p.t) (F : Nat → Prop) (v : Value) (w : World) (hP : PT kN (clrT p t 3 0) F v w) (hF : Bnd F w) (hO : ∀ j, F j → j < lo ∨ hi ≤ j) (hM : MemIn lo hi L M w) :
    Calls Try.prog 19 #[v, .pointer (some ⟨L.bm, 0, none⟩), .agg #[.int .i64 0, .int .u64 (U 1#64)], .int .i64 9] w (RetClrH p lo hi L M t w) := by
  obtain ⟨M', r1, r2⟩ := clr_run hp h0 h1 3 0 M 6 (by omega) (by omega) hG
  rw [Int.add_zero] at r2
  exact (run_N (clrT p t 3 0) F v 0 1#64 9 w _ (by omega) r1 hP hF hO hM).mono fun e w' ⟨g1, g2, g3⟩ => ⟨M', g1, g2, g3, r2⟩
def RetHldH (p : Pl) (lo hi : Nat) (L : Lay) (M : MS) (n : Int) (w : World) (e : Ending) (w' : World) : Prop :=
  ∃ (M' : MS) (b : Bool) (c : Nat), e = .returned (.tuple #[.bool b, .int .i64 (c : Int), .bool true]) ∧ MemIn lo hi L M' w' ∧ Fr lo hi w w' ∧ (Mg p M' ∧ ∀ j, M'.wd 0 j = M.wd 0 j) ∧ heldR (hzW p M) (nameW n) (3 * p.t).toNat 0 = (b, c)
theorem runHldH {lo hi : Nat} {L : Lay} {M : MS} (p : Pl) (hp : p.ok) (hG : Mg p M) (n : Int) (hn : 0 ≤ n) (most : Int) (h1 : 3 * p.t ≤ most) (h2 : most ≤ 1099511627776) (F : Nat → Prop) (v : Value) (w : World) (hP : PT kB (hldT p n (p.t * 3 - 1).toNat 0) F v w) (hF : Bnd F w) (hO : ∀ j, F j → j < lo ∨ hi ≤ j) (hM : MemIn lo hi L M w) :
    Calls Try.prog 22 #[v, .pointer (some ⟨L.bm, 0, none⟩), .agg #[.int .i64 0, .int .u64 (U 1#64)], .int .i64 most] w (RetHldH p lo hi L M n w) := by
  have ht := hp.2.1
  obtain ⟨M', b, c, r1, r2, r3⟩ := hld_run hp hn (p.t * 3 - 1).toNat 0 M (most.toNat - ((p.t * 3 - 1).toNat + 1)) (by omega) hG
  rw [show (p.t * 3 - 1).toNat + 1 + (most.toNat - ((p.t * 3 - 1).toNat + 1)) = most.toNat by omega] at r1
  rw [show (p.t * 3 - 1).toNat + 1 = (3 * p.t).toNat by omega, Nat.zero_add] at r3
  exact (run_B (hldT p n (p.t * 3 - 1).toNat 0) F v 0 1#64 most w _ h2 r1 hP hF hO hM).mono fun e w' ⟨g1, g2, g3⟩ => ⟨M', b, c, g1, g2, g3, r2, r3⟩

/-! In the midst of a law: the memory, the plan's box B. -/
structure HIn (p : Pl) (lo hi : Nat) (L : Lay) (B : Nat) (w0 : World) (M : MS) (wr : World) : Prop where
  m : MemIn lo hi L M wr
  mg : Mg p M
  ex : Ext w0 wr
  pb : PBox B p wr
section
variable {p : Pl} {lo hi : Nat} {L : Lay} {B : Nat} {w0 : World} {M M' : MS} {wr wr' : World}
theorem HIn.ext (h : HIn p lo hi L B w0 M wr) (hx : Ext wr wr') : HIn p lo hi L B w0 M wr' := ⟨h.m.ext hx, h.mg, ext_trans h.ex hx, h.pb.ext hx⟩
theorem HIn.ran (h : HIn p lo hi L B w0 M wr) (hm : MemIn lo hi L M' wr') (hf : Fr lo hi wr wr') (hG : Mg p M') (h1 : w0.heap.size ≤ lo) (h2 : B < lo) : HIn p lo hi L B w0 M' wr' :=
  ⟨hm, hG, hf.below h.ex h1, (hf.block _ (heap_lt h.pb) (.inl h2)).trans h.pb⟩
end
theorem h64 (n : Nat) (h : n ≤ 2000000) : wrap64 ((n : Int) + 1) = ((n + 1 : Nat) : Int) := by
  unfold wrap64
  omega
theorem p2nm : nameW 1 ≠ 0#64 := nameW_ne0 (by omega) (by omega)

set_option maxRecDepth 8000 in
set_option maxHeartbeats 4000000 in
theorem hwake_any (w : World) : Calls Try.prog 17 #[] w (Ret (.bool true) w) := by
  have hL := fun W => laidZ_any ⟨2, 1, 4, 0, 1, 1⟩ p2ok W
  have HL := Lib.hid hL
  have hS := fun W => hset_PT ⟨2, 1, 4, 0, 1, 1⟩ 0 1 1 (by omega) (by omega) W
  have HS := Lib.hid hS
  have hH := fun W => hheld_PT ⟨2, 1, 4, 0, 1, 1⟩ p2ok 1 (by omega) W
  have HH := Lib.hid hH
  clear hL hS hH
  go_enter Try.func17, Try.ntmps17
  go_wp2_with (go_at_call 12; refine Hid.out ?_)
  refine Lib.hid ?_
  refine (HL.out _).mono ?_
  rintro e w1 ⟨lo, hi, L, M, rfl, hM, hF, hx, hlo⟩
  have hb0 : PBox w.heap.size ⟨2, 1, 4, 0, 1, 1⟩ w1 := (hx.block _ (by simp)).trans (heap_at w _ _ rfl)
  have hlo1 : w.heap.size < lo := by simp at hlo; omega
  have hhi := hM.top
  have HI := Lib.hid (HIn.mk hM hF.1.mg (ext_trans (ext_alloc _ (ext_refl w)) hx) hb0)
  clear hM hF hx hb0 hlo HL
  have ⟨c0, c1, c2, c3, c4, c5, lt⟩ := HI.out.pb.plc
  go_wp2_with (go_at_call 20; refine (HS.out _).mono ?_; rintro e w2 ⟨v1, F1, rfl, hx2, hp1, hbn1, hsub1⟩; refine Hid.out ?_)
  refine Lib.hid ?_
  have HOF1 := Lib.hid (fun j (hj : F1 j) => (hsub1 j hj).elim (fun h => h.elim) fun h => (.inr (by omega) : j < lo ∨ hi ≤ j))
  have HI2 := Lib.hid (HI.out.ext hx2)
  have HP1 := Lib.hid hp1
  have HBN1 := Lib.hid hbn1
  clear hx2 hp1 hbn1 hsub1
  go_wp2_with (go_at_call 21; refine (cap_int HI2.out.m 0 1#64 (by omega) (by rw [HI2.out.mg.n]; omega) (Lib.hid HI2.out.mg.e)).mono ?_; rintro e w3 ⟨rfl, hx3⟩; refine Hid.out ?_)
  refine Lib.hid ?_
  have HI3 := Lib.hid (HI2.out.ext hx3)
  replace HP1 := Lib.hid (HP1.out.agr (Agr.of_ext hx3 HBN1.out))
  replace HBN1 := Lib.hid (HBN1.out.ext hx3.size)
  clear hx3 HI2
  go_wp2_with (go_at_call 19; refine (runSetH ⟨2, 1, 4, 0, 1, 1⟩ p2ok HI3.out.mg 0 1 (nameW 1) (by omega) (show (0 : Int) < 1 by omega) (by omega) (by omega) F1 v1 w3 HP1.out HBN1.out HOF1.out HI3.out.m).mono ?_; rintro e w4 ⟨M1, rfl, hm4, hf4, hz4⟩; refine Hid.out ?_)
  refine Lib.hid ?_
  have HI4 := Lib.hid (HI3.out.ran hm4 hf4 hz4.mg (by omega) hlo1)
  have HZ4 := Lib.hid hz4
  have hhi4 := hm4.top
  clear hm4 hf4 hz4 HP1 HBN1 HOF1 HI HI3 c0 c1 c2 c3 c4 c5 lt
  have ⟨c0, c1, c2, c3, c4, c5, lt⟩ := HI4.out.pb.plc
  go_wp2_with (go_at_call 23; refine (HH.out _).mono ?_; rintro e w5 ⟨v1, F1, rfl, hx2, hp1, hbn1, hsub1⟩; refine Hid.out ?_)
  refine Lib.hid ?_
  have HOF1 := Lib.hid (fun j (hj : F1 j) => (hsub1 j hj).elim (fun h => h.elim) fun h => (.inr (by omega) : j < lo ∨ hi ≤ j))
  have HI2 := Lib.hid (HI4.out.ext hx2)
  have HP1 := Lib.hid hp1
  have HBN1 := Lib.hid hbn1
  clear hx2 hp1 hbn1 hsub1
  go_wp2_with (go_at_call 21; refine (cap_int HI2.out.m 0 1#64 (by omega) (by rw [HI2.out.mg.n]; omega) (Lib.hid HI2.out.mg.e)).mono ?_; rintro e w6 ⟨rfl, hx3⟩; refine Hid.out ?_)
  refine Lib.hid ?_
  have HI3 := Lib.hid (HI2.out.ext hx3)
  replace HP1 := Lib.hid (HP1.out.agr (Agr.of_ext hx3 HBN1.out))
  replace HBN1 := Lib.hid (HBN1.out.ext hx3.size)
  clear hx3 HI2
  go_wp2_with (go_at_call 22; refine (runHldH ⟨2, 1, 4, 0, 1, 1⟩ p2ok HI3.out.mg 1 (by omega) 9 (show 3 * (1 : Int) ≤ 9 by omega) (by omega) F1 v1 w6 HP1.out HBN1.out HOF1.out HI3.out.m).mono ?_; rintro e w7 ⟨M2, b, c, rfl, hm7, hf7, hz7, hr7⟩; refine Hid.out ?_)
  refine Lib.hid ?_
  have HI7 := Lib.hid (HI3.out.ran hm7 hf7 hz7.1 (by omega) hlo1)
  have hb : b = true := by
    have h1 : hzW ⟨2, 1, 4, 0, 1, 1⟩ M1 1 = nameW 1 := by rw [HZ4.out.hz 1 (show ((1 : Nat) : Int) < 3 * 1 by omega)]; rfl
    have h2 := heldR_yes h1 3 0 (by omega) (by omega)
    have h3 : heldR (hzW ⟨2, 1, 4, 0, 1, 1⟩ M1) (nameW 1) 3 0 = (b, c) := hr7
    rw [h3] at h2
    exact h2
  subst hb
  clear hm7 hf7 hz7 hr7 HZ4 HI4 HI3 HP1 HBN1 HOF1
  go_wp2
  go_ret
  exact Ret.mk HI7.out.ex


/-- What fits asks. -/
def FitsP (p : Pl) (t s n : Int) : Prop := p.few ∧ p.ok ∧ 0 ≤ t ∧ t < p.t ∧ 0 ≤ s ∧ s < 3 ∧ -1 ≤ n ∧ n < p.n
set_option maxRecDepth 8000 in
set_option maxHeartbeats 2000000 in
theorem fits_any (p : Pl) (t s n : Int) (w : World) (b : Bool) (hb : Hid (b = true ↔ FitsP p t s n)) : Calls Try.prog 18 #[plV p, .int .i64 t, .int .i64 s, .int .i64 n] w (Ret (.bool b) w) := by
  by_cases h0 : p.few
  · by_cases h1 : p.ok
    · by_cases h2 : 0 ≤ t
      · by_cases h3 : t < p.t
        · by_cases h4 : 0 ≤ s
          · by_cases h5 : s < 3
            · by_cases h6 : -1 ≤ n
              · by_cases h7 : n < p.n
                · obtain rfl : b = true := by
                    exact hb.out.2 ⟨h0, h1, h2, h3, h4, h5, h6, h7⟩
                  clear hb
                  replace h0 := Lib.hid h0
                  replace h1 := Lib.hid h1
                  have d2 : decide (0 ≤ t) = true := by simp; omega
                  have d3 : decide (t < p.t) = true := by simp; omega
                  have d4 : decide (0 ≤ s) = true := by simp; omega
                  have d5 : decide (s < 3) = true := by simp; omega
                  have d6 : decide (-1 ≤ n) = true := by simp; omega
                  have d7 : decide (n < p.n) = true := by simp; omega
                  go_enter Try.func18, Try.ntmps18
                  go_wp2_with (first
                    | (go_at_call 10; refine (few_any p _ true (hid_yes h0.out)).mono ?_; rintro e w' hr; obtain ⟨rfl, s1, rfl⟩ := hr.over; clear hr)
                    | (go_at_call 11; refine (rformed_any p _ true (hid_yes h1.out)).mono ?_; rintro e w' hr; obtain ⟨rfl, s2, rfl⟩ := hr.over; clear hr))
                  go_ret
                  exact Ret.bool (by first | rfl | simp; omega) (by repeat (first | exact ext_refl _ | apply ext_over | apply ext_alloc))
                · obtain rfl : b = false := by
                    exact Bool.eq_false_iff.2 fun h => h7 (hb.out.1 h).2.2.2.2.2.2.2
                  clear hb
                  replace h0 := Lib.hid h0
                  replace h1 := Lib.hid h1
                  have d2 : decide (0 ≤ t) = true := by simp; omega
                  have d3 : decide (t < p.t) = true := by simp; omega
                  have d4 : decide (0 ≤ s) = true := by simp; omega
                  have d5 : decide (s < 3) = true := by simp; omega
                  have d6 : decide (-1 ≤ n) = true := by simp; omega
                  have d7 : decide (n < p.n) = false := by simp; omega
                  go_enter Try.func18, Try.ntmps18
                  go_wp2_with (first
                    | (go_at_call 10; refine (few_any p _ true (hid_yes h0.out)).mono ?_; rintro e w' hr; obtain ⟨rfl, s1, rfl⟩ := hr.over; clear hr)
                    | (go_at_call 11; refine (rformed_any p _ true (hid_yes h1.out)).mono ?_; rintro e w' hr; obtain ⟨rfl, s2, rfl⟩ := hr.over; clear hr))
                  go_ret
                  exact Ret.bool (by first | rfl | simp; omega) (by repeat (first | exact ext_refl _ | apply ext_over | apply ext_alloc))
              · obtain rfl : b = false := by
                  exact Bool.eq_false_iff.2 fun h => h6 (hb.out.1 h).2.2.2.2.2.2.1
                clear hb
                replace h0 := Lib.hid h0
                replace h1 := Lib.hid h1
                have d2 : decide (0 ≤ t) = true := by simp; omega
                have d3 : decide (t < p.t) = true := by simp; omega
                have d4 : decide (0 ≤ s) = true := by simp; omega
                have d5 : decide (s < 3) = true := by simp; omega
                have d6 : decide (-1 ≤ n) = false := by simp; omega
                go_enter Try.func18, Try.ntmps18
                go_wp2_with (first
                  | (go_at_call 10; refine (few_any p _ true (hid_yes h0.out)).mono ?_; rintro e w' hr; obtain ⟨rfl, s1, rfl⟩ := hr.over; clear hr)
                  | (go_at_call 11; refine (rformed_any p _ true (hid_yes h1.out)).mono ?_; rintro e w' hr; obtain ⟨rfl, s2, rfl⟩ := hr.over; clear hr))
                go_ret
                exact Ret.bool (by first | rfl | simp; omega) (by repeat (first | exact ext_refl _ | apply ext_over | apply ext_alloc))
            · obtain rfl : b = false := by
                exact Bool.eq_false_iff.2 fun h => h5 (hb.out.1 h).2.2.2.2.2.1
              clear hb
              replace h0 := Lib.hid h0
              replace h1 := Lib.hid h1
              have d2 : decide (0 ≤ t) = true := by simp; omega
              have d3 : decide (t < p.t) = true := by simp; omega
              have d4 : decide (0 ≤ s) = true := by simp; omega
              have d5 : decide (s < 3) = false := by simp; omega
              go_enter Try.func18, Try.ntmps18
              go_wp2_with (first
                | (go_at_call 10; refine (few_any p _ true (hid_yes h0.out)).mono ?_; rintro e w' hr; obtain ⟨rfl, s1, rfl⟩ := hr.over; clear hr)
                | (go_at_call 11; refine (rformed_any p _ true (hid_yes h1.out)).mono ?_; rintro e w' hr; obtain ⟨rfl, s2, rfl⟩ := hr.over; clear hr))
              go_ret
              exact Ret.bool (by first | rfl | simp; omega) (by repeat (first | exact ext_refl _ | apply ext_over | apply ext_alloc))
          · obtain rfl : b = false := by
              exact Bool.eq_false_iff.2 fun h => h4 (hb.out.1 h).2.2.2.2.1
            clear hb
            replace h0 := Lib.hid h0
            replace h1 := Lib.hid h1
            have d2 : decide (0 ≤ t) = true := by simp; omega
            have d3 : decide (t < p.t) = true := by simp; omega
            have d4 : decide (0 ≤ s) = false := by simp; omega
            go_enter Try.func18, Try.ntmps18
            go_wp2_with (first
              | (go_at_call 10; refine (few_any p _ true (hid_yes h0.out)).mono ?_; rintro e w' hr; obtain ⟨rfl, s1, rfl⟩ := hr.over; clear hr)
              | (go_at_call 11; refine (rformed_any p _ true (hid_yes h1.out)).mono ?_; rintro e w' hr; obtain ⟨rfl, s2, rfl⟩ := hr.over; clear hr))
            go_ret
            exact Ret.bool (by first | rfl | simp; omega) (by repeat (first | exact ext_refl _ | apply ext_over | apply ext_alloc))
        · obtain rfl : b = false := by
            exact Bool.eq_false_iff.2 fun h => h3 (hb.out.1 h).2.2.2.1
          clear hb
          replace h0 := Lib.hid h0
          replace h1 := Lib.hid h1
          have d2 : decide (0 ≤ t) = true := by simp; omega
          have d3 : decide (t < p.t) = false := by simp; omega
          go_enter Try.func18, Try.ntmps18
          go_wp2_with (first
            | (go_at_call 10; refine (few_any p _ true (hid_yes h0.out)).mono ?_; rintro e w' hr; obtain ⟨rfl, s1, rfl⟩ := hr.over; clear hr)
            | (go_at_call 11; refine (rformed_any p _ true (hid_yes h1.out)).mono ?_; rintro e w' hr; obtain ⟨rfl, s2, rfl⟩ := hr.over; clear hr))
          go_ret
          exact Ret.bool (by first | rfl | simp; omega) (by repeat (first | exact ext_refl _ | apply ext_over | apply ext_alloc))
      · obtain rfl : b = false := by
          exact Bool.eq_false_iff.2 fun h => h2 (hb.out.1 h).2.2.1
        clear hb
        replace h0 := Lib.hid h0
        replace h1 := Lib.hid h1
        have d2 : decide (0 ≤ t) = false := by simp; omega
        go_enter Try.func18, Try.ntmps18
        go_wp2_with (first
          | (go_at_call 10; refine (few_any p _ true (hid_yes h0.out)).mono ?_; rintro e w' hr; obtain ⟨rfl, s1, rfl⟩ := hr.over; clear hr)
          | (go_at_call 11; refine (rformed_any p _ true (hid_yes h1.out)).mono ?_; rintro e w' hr; obtain ⟨rfl, s2, rfl⟩ := hr.over; clear hr))
        go_ret
        exact Ret.bool (by first | rfl | simp; omega) (by repeat (first | exact ext_refl _ | apply ext_over | apply ext_alloc))
    · obtain rfl : b = false := by
        exact Bool.eq_false_iff.2 fun h => h1 (hb.out.1 h).2.1
      clear hb
      replace h0 := Lib.hid h0
      replace h1 := Lib.hid h1
      go_enter Try.func18, Try.ntmps18
      go_wp2_with (first
        | (go_at_call 10; refine (few_any p _ true (hid_yes h0.out)).mono ?_; rintro e w' hr; obtain ⟨rfl, s1, rfl⟩ := hr.over; clear hr)
        | (go_at_call 11; refine (rformed_any p _ false (hid_no h1.out)).mono ?_; rintro e w' hr; obtain ⟨rfl, s2, rfl⟩ := hr.over; clear hr))
      go_ret
      exact Ret.bool (by first | rfl | simp; omega) (by repeat (first | exact ext_refl _ | apply ext_over | apply ext_alloc))
  · obtain rfl : b = false := by
      exact Bool.eq_false_iff.2 fun h => h0 (hb.out.1 h).1
    clear hb
    replace h0 := Lib.hid h0
    go_enter Try.func18, Try.ntmps18
    go_wp2_with (go_at_call 10; refine (few_any p _ false (hid_no h0.out)).mono ?_; rintro e w' hr; obtain ⟨rfl, s1, rfl⟩ := hr.over; clear hr)
    go_ret
    exact Ret.bool (by first | rfl | simp; omega) (by repeat (first | exact ext_refl _ | apply ext_over | apply ext_alloc))

/-! The reference. -/
set_option maxRecDepth 8000 in
set_option maxHeartbeats 2000000 in
theorem rnamed_any (x : BitVec 64) (sh : Nat) (hs : sh < 64) (hx : U x < 9223372036854775808) (w : World) : Calls Try.prog 34 #[.int .u64 (U x), .int .i64 (sh : Int)] w (Ret (.int .i64 (U (x >>> sh) - 1)) w) := by
  have e := div_shr x sh
  have hy : 0 ≤ U (x >>> sh) ∧ U (x >>> sh) ≤ U x := by
    rw [U_toNat, U_toNat, BitVec.toNat_ushiftRight]
    have h := Nat.shiftRight_le x.toNat sh
    generalize x.toNat >>> sh = q at h
    omega
  have ew : wrap64 (U (x >>> sh) - 1) = U (x >>> sh) - 1 := by unfold wrap64; omega
  have ew2 : wrap64 (U (x >>> sh)) = U (x >>> sh) := by unfold wrap64; omega
  have g2 : ¬ (sh : Int) < 0 := by omega
  have g3 : (sh : Int) < 64 := by omega
  replace ew := Lib.hid ew
  replace ew2 := Lib.hid ew2
  clear hy
  go_enter Try.func34, Try.ntmps34
  go_wp2
  go_ret
  exact Ret.int (by rw [ew2.out]; exact ew.out) (by repeat (first | exact ext_refl _ | apply ext_alloc))
def HelRel (l : List (BitVec 64)) (m : BitVec 64) (vi : Value) : Prop := ∃ k : Nat, k ≤ l.length ∧ vi = .int .i64 (k : Int) ∧ heldR (uN l) m l.length 0 = heldR (uN l) m (l.length - k) k
set_option maxRecDepth 8000 in
set_option maxHeartbeats 2000000 in
theorem rheld_any (l : List (BitVec 64)) (n : Int) (hn0 : 0 ≤ n) (hn1 : n < 4611686018427387904) (v : Value) (w : World) (hl : l.length ≤ 2000) (hI : Us w v l) :
    Calls Try.prog 24 #[v, .int .i64 n] w (Ret (.tuple #[.bool (heldR (uN l) (nameW n) l.length 0).1, .int .i64 ((heldR (uN l) (nameW n) l.length 0).2 : Int)]) w) := by
  have HI := Lib.hid hI
  obtain ⟨a0, cap, rfl, hc, hcell⟩ := hI
  clear hcell
  have eN := U_nameH (n := n) (by omega) hn1
  replace eN := Lib.hid eN
  obtain ⟨R, hR⟩ : ∃ R, Hid (heldR (uN l) (nameW n) l.length 0 = R) := ⟨_, Lib.hid rfl⟩
  rw [hR.out]
  go_enter Try.func24, Try.ntmps24
  go_wp2
  go_loop [6] (fun i => HelRel l (nameW n) i) (fun i => (l.length - intOf i).toNat)
  case atStart => exact ⟨0, Nat.zero_le _, rfl, rfl⟩
  case round =>
    obtain ⟨k, hk, rfl, hf⟩ := hrel
    have HF := Lib.hid hf
    clear hf
    have e1 : wrap64 ((k : Int) + 1) = ((k + 1 : Nat) : Int) := by unfold wrap64; omega
    replace e1 := Lib.hid e1
    by_cases hlt : k < l.length
    · obtain ⟨b, off, rfl, hb, hcells⟩ := HI.out.at (by omega)
      have c1 := hcells k hlt
      clear hcells
      have hlt' : (k : Int) < l.length := by omega
      by_cases hy : uN l k = nameW n
      · have E : R = (true, k + 1) := by
          rw [← hR.out, HF.out, show l.length - k = (l.length - (k + 1)) + 1 by omega, heldR, if_pos hy]
        subst E
        rw [hy, eN.out] at c1
        clear hy
        go_wp2
        exact bodyPost_ret (v := .tuple #[.bool true, .int .i64 ((k : Int) + 1)]) (by simp [results, Try.results24, go_sem]) rfl (Ret.mk (ext_refl w))
      · have E : heldR (uN l) (nameW n) l.length 0 = heldR (uN l) (nameW n) (l.length - (k + 1)) (k + 1) := by
          rw [HF.out, show l.length - k = (l.length - (k + 1)) + 1 by omega, heldR, if_neg hy]
        have hne : ¬ U (uN l k) = n + 1 := fun h => hy (U_inj (h.trans eN.out.symm))
        have hne2 : (U (uN l k) == n + 1) = false := beq_eq_false_iff_ne.2 hne
        replace E := Lib.hid E
        clear hy
        go_wp2
        exact ⟨⟨k + 1, by omega, by first | rfl | exact congrArg _ e1.out, E.out⟩, by simp [intOf]; omega⟩
    · obtain rfl : k = l.length := by omega
      have E : R = (false, l.length) := by
        rw [← hR.out, HF.out, Nat.sub_self, heldR]
      subst E
      go_wp2
      exact bodyPost_ret (v := .tuple #[.bool false, .int .i64 (l.length : Int)]) (by simp [results, Try.results24, go_sem]) rfl (Ret.mk (ext_refl w))
end Go.Proofs.Ytkjbfhcgldgkaaa

/-
  A law's row, once for all: whoever shows that the call returns true and turns nothing old has the row's post; the arguments read as they did. Conditions: the row names no variable; its result is one bool; its parameters' types can be read.
-/
namespace Go.Proofs.Ytkjbfhcgldgkaaa
open Go Go.ChangeShapes Go.WideShapes Go.ChangeAt Go.RowKit Go.Joins

section
variable {H : Type} {enc : TypeId × Value → H} {P : Program}

/-- What reads in W reads in W' likewise, argument by argument. -/
theorem trodAll_below (hl : laidOutB P = true) {W W' : World} (hb : Below W.heap.size W W') :
    ∀ (ts : List TypeId) (vs : List Value) (ds : List (DataW H)) (ps : List MemPlace), (∀ t ∈ ts, P.readableRec t = true ∧ t < P.types.size) → (∀ x ∈ ps, x.block < W.heap.size) →
      DataW.TrodAll enc P W 0 (fun _ => true) true ts vs ds ps → DataW.TrodAll enc P W' 0 (fun b => decide (b < W.heap.size)) true ts vs ds ps
  | [], vs, ds, ps, _, _, h => by
    obtain ⟨rfl, rfl, rfl⟩ := trodAll_nil h
    exact trodAll_mk0
  | t :: ts, vs, ds, ps, hr, hlt, h => by
    obtain ⟨v, vs', d, ds', p, q, rfl, rfl, rfl, h1, h2⟩ := trodAll_cons h
    exact trodAll_cons_mk (Below.trod hl (hr t (by simp)).1 (hr t (by simp)).2 h1 hb (fun x hx => hlt x (List.mem_append.2 (.inl hx))))
      (trodAll_below hl hb ts vs' ds' q (fun t' ht => hr t' (by simp [ht])) (fun x hx => hlt x (List.mem_append.2 (.inr hx))) h2)

/-- The post of a law's row. -/
theorem law_post {f : Func} {s : ChangeSpec} {apart : Bool} {tb : TypeId} {W W' : World} {args : Array Value} {ds gs : List (DataW H)} {before : List MemPlace}
    (hl : laidOutB P = true) (hr : (f.params.toList.all fun t => P.readableRec t && decide (t < P.types.size)) = true) (hvars : s.vars = []) (hrt : f.resultTypes = #[tb]) (hub : P.underlying tb = some .bool)
    (hW : DataW.Whole enc P f.params.toList s.vars apart W args.toList ds gs before) (hspec : s.fn H (ds ++ gs) = { results := [.lit (.bool true)], args := ds })
    (hb : Below W.heap.size W W') : s.post enc P f apart true false false W args (.bool true) W' := by
  have hr' : ∀ t ∈ f.params.toList, P.readableRec t = true ∧ t < P.types.size := fun t ht => by simpa using List.all_eq_true.1 hr t ht
  have hlt := hW.lt
  have hW2 := hW
  obtain ⟨p, q, hA, hV, rfl, _, _⟩ := hW2
  rw [hvars] at hV
  obtain ⟨rfl, rfl⟩ := trodVars_none hV
  refine ⟨ds, [], p ++ [], [], p, [], hW, ?_, ?_, ?_, hb.frame _, fun h => by cases h⟩
  · rw [hspec, hrt]
    exact trodAll_mk1 (shut_bool hub true)
  · rw [hspec]
    exact trodAll_below hl hb _ _ _ _ hr' (fun x hx => hlt x (List.mem_append.2 (.inl hx))) hA
  · rw [hspec, hvars]
    rfl
end
end Go.Proofs.Ytkjbfhcgldgkaaa
