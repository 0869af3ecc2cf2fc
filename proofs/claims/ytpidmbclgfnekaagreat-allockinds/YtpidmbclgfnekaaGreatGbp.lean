/-
  The law AllocKinds, walked. Conditions: those of each theorem.
-/
import Derived.Test.YtpidmbclgfnekaaGreatGbo
namespace Go.Proofs.YtpidmbclgfnekaaGreat
open Go Go.RowKit

/-- So many nodes are live, of the kind. -/
def sfK (kd : Int) (k : Nat) : Int → St := fun m => if 0 ≤ m ∧ m < (k : Int) then ⟨0, 1, kd⟩ else ⟨0, 0, 0⟩
theorem sfK_up (kd : Int) (k : Nat) : upS (sfK kd k) (k : Int) (liveF kd (sfK kd k (k : Int))) = sfK kd (k + 1) := by
  funext m
  unfold upS sfK liveF
  by_cases h : m = (k : Int)
  · subst h
    rw [if_pos rfl, if_neg (by omega), if_pos (by omega)]
  · rw [if_neg h]
    by_cases h2 : 0 ≤ m ∧ m < (k : Int)
    · rw [if_pos h2, if_pos (by omega)]
    · rw [if_neg h2, if_neg (by omega)]
theorem sfK_g (kd : Int) (k : Nat) (m : Int) : (sfK kd k m).g = 0 := by
  unfold sfK
  split <;> rfl
theorem sfK_zero (kd : Int) : sfK kd 0 = fun _ => ⟨0, 0, 0⟩ := by
  funext m
  unfold sfK
  rw [if_neg (by omega)]
/-- In the loop's midst: the memory, the box of the last grant. -/
def AkRel (p : Pl) (lo hi : Nat) (L : Lay) (w : World) (kd : Int) (bg : Nat) (m : Int) (vi : Value) (wr : World) : Prop := ∃ (k : Nat) (M : MS) (g0 : Int), vi = .int .i64 (k : Int) ∧ (k : Int) ≤ m + 1 ∧ (1 ≤ k → g0 = (k : Int) - 1) ∧
  HBs p lo hi L w.heap.size w [(bg, .cells #[.int .i64 g0, .int .i64 0, .int .i64 0] 37)] M wr ∧ AIn p 0 M (rfr (p.n.toNat - k) (k : Int)) [] k (sfK kd k) (fun _ => 0#64)
theorem HBs.put3 {p : Pl} {lo hi : Nat} {L : Lay} {B : Nat} {w0 : World} {b : Nat} {x0 x1 x2 : Value} {t : TypeId} {M : MS} {wr : World} (h : HBs p lo hi L B w0 [(b, .cells #[x0, x1, x2] t)] M wr) (hB : B ≠ b) (y0 y1 y2 : Value) : HBs p lo hi L B w0 [(b, .cells #[y0, y1, y2] t)] M (put3 b y0 y1 y2 wr) := by
  obtain ⟨⟨h1, h2⟩, h3⟩ := h.bx (b, .cells #[x0, x1, x2] t) (List.mem_singleton.2 rfl)
  refine ⟨put3_mem _ _ _ h.m h1, h.mg, put3_ext _ _ _ h.ex h2, (put3_other _ _ _ hB).trans h.pb, fun x hx => ?_⟩
  obtain rfl := List.mem_singleton.1 hx
  exact ⟨⟨h1, h2⟩, put3_block _ _ _ h3⟩
/-- What Peek tells of a node's state. -/
theorem peek_st {p : Pl} (hp : p.ok) {lo hi : Nat} {L : Lay} {M : MS} {fs rs : List Int} {T : Nat} {sf : Int → St} {hd : Nat → BitVec 64} (h : AIn p 0 M fs rs T sf hd) {n : Int} (hn : InR p n) {s : St} (hs : sf n = s) (W : World) (hm : MemIn lo hi L M W) :
    Calls Tryz.prog 16 #[.pointer (some ⟨L.bm, 0, none⟩), .int .i64 0, .int .i64 (p.stF n)] W (Ret (.int .u64 (U s.word)) W) := by
  obtain ⟨a1, _, _, a4, a5⟩ := node_pl hp hn
  have := hn.1
  refine peek_int hm 0 (p.stF n) _ (by omega) (by rw [h.fl.mg.n]; omega) (by omega) (by show p.stF n < (M.sz 0 : Int); rw [h.fl.mg.s]; omega) (Lib.hid ?_)
  have e := h.st n hn
  rw [hs] at e
  exact congrArg U e
set_option maxRecDepth 8000 in
set_option maxHeartbeats 1000000 in
theorem akd_nofew (p : Pl) (kind n : Int) (hf : ¬ (p.few ∧ p.ok)) (w : World) : Calls Tryz.prog 7 #[plV p, .int .u8 kind, .int .u8 n] w (Ret (.bool true) w) := by
  have HFP := Lib.hid hf
  clear hf
  go_enter Tryz.func7, Tryz.ntmps7
  go_wp2_with (first
    | (go_at_call 8; refine (r12wake_any _).mono ?_; rintro e w' hr; obtain ⟨rfl, sA, rfl⟩ := hr.over; clear hr)
    | (go_at_call 9; refine (r12few_any p _ false (hid_no HFP.out)).mono ?_; rintro e w' hr; obtain ⟨rfl, sA, rfl⟩ := hr.over; clear hr))
  go_ret
  exact Ret.mk (by repeat (first | exact ext_refl _ | apply ext_over | apply ext_alloc))
set_option maxRecDepth 8000 in
set_option maxHeartbeats 4000000 in
theorem akd_yes (p : Pl) (hf : p.few ∧ p.ok) (kind n : Int) (hk0 : 0 ≤ kind) (_ : kind < 256) (hn0 : 0 ≤ n) (hn1 : n < 256) (w : World) : Calls Tryz.prog 7 #[plV p, .int .u8 kind, .int .u8 n] w (Ret (.bool true) w) := by
  have HFP := Lib.hid hf
  have HP := Lib.hid hf.2
  have hpn : 1 ≤ p.n ∧ p.n ≤ 40 := ⟨hf.2.1.1, (hf.1 hf.2).1⟩
  have hrr : 4 ≤ p.r ∧ p.r ≤ 1024 := by have := hf.2.2.2.1; have := hf.2.2.1; omega
  have hpt : 0 < p.t := by have := hf.2.2.1; omega
  clear hf
  obtain ⟨kk, hkk⟩ : ∃ kk : Int, Hid (Int.tmod n p.n = kk) := ⟨_, Lib.hid rfl⟩
  have hkr : 0 ≤ kk ∧ kk < p.n := by
    have h1 := hkk.out
    rw [Int.tmod_eq_emod_of_nonneg hn0] at h1
    have h2 := Int.emod_nonneg n (show p.n ≠ 0 by omega)
    have h3 := Int.emod_lt_of_pos n (show 0 < p.n by omega)
    omega
  obtain ⟨kd, hkd⟩ : ∃ kd : Int, Hid (Int.tmod kind 3 = kd) := ⟨_, Lib.hid rfl⟩
  have hdr : 0 ≤ kd ∧ kd ≤ 2 := by
    have h1 := hkd.out
    rw [Int.tmod_eq_emod_of_nonneg hk0] at h1
    omega
  obtain ⟨n2, hn2⟩ : ∃ n2 : Int, Hid (Int.tmod n 2 = n2) := ⟨_, Lib.hid rfl⟩
  have hnr : n2 = 0 ∨ n2 = 1 := by
    have h1 := hn2.out
    rw [Int.tmod_eq_emod_of_nonneg hn0] at h1
    omega
  have hWd : ∀ (m : Int) W, Calls Tryz.prog 18 #[.agg #[.int .i64 0, .int .i64 m, .int .i64 kd]] W (Ret (.int .u64 (U (St.word ⟨0, m, kd⟩))) W) := fun m W => word_any ⟨0, m, kd⟩ W
  replace hWd := Lib.hid hWd
  have hLd : ∀ W, Calls Tryz.prog 10 #[plV p] W (RetLaidZ p W) := fun W => laidZ_any p HP.out W
  replace hLd := Lib.hid hLd
  go_enter Tryz.func7, Tryz.ntmps7
  go_wp2_with (first
    | (go_at_call 8; refine (r12wake_any _).mono ?_; rintro e w' hr; obtain ⟨rfl, sA, rfl⟩ := hr.over; clear hr)
    | (go_at_call 9; refine (r12few_any p _ true (hid_yes HFP.out)).mono ?_; rintro e w' hr; obtain ⟨rfl, sA, rfl⟩ := hr.over; clear hr)
    | (go_at_call 10; refine Hid.out ?_))
  refine Lib.hid ?_
  refine (hLd.out _).mono ?_
  rintro e w1 ⟨lo, hi, L, M, rfl, hM, hF, hx, hlo⟩
  have hx1 : Ext (w.alloc (.cells #[.int .i64 p.n, .int .i64 p.t, .int .i64 p.r, .int .i64 p.d, .int .i64 p.b, .int .i64 p.g] 23)) w1 := by
    refine ext_trans ?_ hx
    repeat (first | exact ext_refl _ | apply ext_over)
  have hlo1 : w.heap.size < lo := by
    refine Nat.lt_of_lt_of_le ?_ hlo
    refine Nat.lt_of_lt_of_le (m := (w.alloc (.cells #[.int .i64 p.n, .int .i64 p.t, .int .i64 p.r, .int .i64 p.d, .int .i64 p.b, .int .i64 p.g] 23)).heap.size) (by simp) ?_
    first | exact over_size _ _ | exact Nat.le_trans (over_size _ _) (over_size _ _) | exact Nat.le_trans (over_size _ _) (Nat.le_trans (over_size _ _) (over_size _ _))
  have hb0 : PBox w.heap.size p w1 := (hx1.block _ (by simp)).trans (heap_at w _ _ rfl)
  have hhi := hM.top
  have HI := Lib.hid (HIn.mk hM hF.1.mg (ext_trans (ext_alloc _ (ext_refl w)) hx1) hb0)
  have HAI := Lib.hid (AIn.fresh HP.out hF.1 hF.2 (t := 0) (by omega) (by have := HP.out.2.1; omega))
  clear hM hF hx hx1 hlo hb0 hLd
  have hA0 := HAI.out
  rw [← sfK_zero kd] at hA0
  have HA0 := Lib.hid hA0
  have ekd := hkd.out
  have ewk : wrap64 kd = kd := by unfold wrap64; omega
  clear hA0 HAI
  go_upto_region 8 with (fail)
  have hbg : w.heap.size ≠ w1.heap.size := Nat.ne_of_lt (heap_lt HI.out.pb)
  have HJ := Lib.hid ((HBs.of HI.out).new (.cells #[.int .i64 0, .int .i64 0, .int .i64 0] 37))
  clear HI
  generalize w1.alloc (.cells #[.int .i64 0, .int .i64 0, .int .i64 0] 37) = w2 at HJ ⊢
  generalize w1.heap.size = bg at HJ hbg ⊢
  have HS : Hid (AkRel p lo hi L w kd bg kk (.int .i64 0) w2) := Lib.hid ⟨0, M, 0, rfl, by omega, by omega, HJ.out, HA0.out⟩
  clear HJ HA0 ekd ewk
  go_wp2
  go_loopw [10] (fun vi wr => AkRel p lo hi L w kd bg kk vi wr) (fun vi _ => (kk + 1 - intOf vi).toNat)
  case atStart => exact HS.out
  case round =>
    clear HS
    obtain ⟨k, M, g0, rfl, hk, hgk, hS, hA⟩ := hrel
    have HR := Lib.hid hS
    clear hS
    have ⟨c0, c1, c2, c3, c4, c5, lt⟩ := HR.out.pb.plc
    have e5 : wrap64 n = n := by unfold wrap64; omega
    have hkm := hkk.out
    have hpn0 : p.n ≠ 0 := by omega
    by_cases hlt : (k : Int) ≤ kk
    · rw [show p.n.toNat - k = (p.n.toNat - (k + 1)) + 1 by omega, rfr] at hA
      obtain ⟨M1, r1, a1⟩ := new_take HP.out (by omega) hpt hA (by omega) (kd := kd) hdr 0
      rw [sfK_up] at a1
      rw [sfK_g] at r1
      have HR1 := Lib.hid r1
      have HA1 := Lib.hid a1
      have hPk : Hid (∀ W, MemIn lo hi L M1 W → Calls Tryz.prog 16 #[.pointer (some ⟨L.bm, 0, none⟩), .int .i64 0, .int .i64 (p.stF (k : Int))] W (Ret (.int .u64 (U (St.word ⟨0, 1, kd⟩))) W)) := Lib.hid fun W hm => peek_st HP.out a1 (n := (k : Int)) ⟨by omega, by omega⟩ (by unfold sfK; rw [if_pos (by omega)]) W hm
      have hg := gdGr
      have e3 : ∀ y, (binOp .neq 37 (.agg #[.int .i64 (k : Int), .int .i64 0, .int .i64 0]) (.agg #[.int .i64 (k : Int), .int .i64 0, .int .i64 0])).run Tryz.prog y = .ok (.bool false) y := fun y => by
        have := neGr ⟨(k : Int), 0, 0⟩ ⟨(k : Int), 0, 0⟩ y
        rw [decide_eq_true rfl] at this
        exact this
      clear r1 a1 hA hgk
      go_wp2_with (go_at_call 13; refine (new_PT p 0 kd 2 _ HP.out hdr).mono ?_; rintro e w2 ⟨v1, F1, rfl, hx2, hp1, hbn1, hsub1⟩; refine Hid.out ?_)
      refine Lib.hid ?_
      have HOF1 := Lib.hid (fun j (hj : F1 j) => (hsub1 j hj).elim (fun h => h.elim) fun h => (.inr (Nat.le_trans HR.out.m.top h) : j < lo ∨ hi ≤ j))
      have HR2 := Lib.hid (HR.out.ext hx2)
      have HP1 := Lib.hid hp1
      have HBN1 := Lib.hid hbn1
      clear hx2 hp1 hbn1 hsub1
      go_wp2_with (go_at_call 14; refine (cap_int HR2.out.m 0 1#64 (by omega) (by rw [HR2.out.mg.n]; omega) (Lib.hid HR2.out.mg.e)).mono ?_; rintro e w3 ⟨rfl, hx3⟩; refine Hid.out ?_)
      refine Lib.hid ?_
      have HR3 := Lib.hid (HR2.out.ext hx3)
      replace HP1 := Lib.hid (HP1.out.agr (Agr.of_ext hx3 HBN1.out))
      replace HBN1 := Lib.hid (HBN1.out.ext hx3.size)
      clear hx3
      go_wp2_with (go_at_call 12; refine (runG_any HR1.out 99 (by omega) (by omega) F1 v1 w3 HP1.out HBN1.out HOF1.out HR3.out.m).mono ?_; rintro e w4 ⟨rfl, hm4, hf4⟩; refine Hid.out ?_)
      refine Lib.hid ?_
      have HI4 := Lib.hid (HR3.out.ran hm4 hf4 HA1.out.fl.mg (by omega) hlo1)
      have hP3 : Hid (∀ o, HBs p lo hi L w.heap.size w [(bg, .cells #[.int .i64 (k : Int), .int .i64 0, .int .i64 0] 37)] M1 ((put3 bg (.int .i64 (k : Int)) (.int .i64 0) (.int .i64 0) w4).alloc o)) := Lib.hid fun o => (HI4.out.put3 hbg _ _ _).ext (ext_alloc o (ext_refl _))
      rw [put3] at hP3
      have hbx : w4.heap[bg]? = _ := (HI4.out.bx (bg, .cells #[.int .i64 g0, .int .i64 0, .int .i64 0] 37) (by simp)).2
      have x0 := cell_at (o := 0) hbx rfl
      have x1 := cell_at (o := 1) hbx rfl
      have x2 := cell_at (o := 2) hbx rfl
      have xl := heap_lt hbx
      clear hbx
      have xz : ∀ o, w4.frozen? ⟨bg, o, none⟩ = false := fun _ => free_at (HI4.out.bx (bg, .cells #[.int .i64 g0, .int .i64 0, .int .i64 0] 37) (by simp)).2
      clear hm4 hf4 HP1 HBN1 HOF1 HR HR2 HR3 HR1 c0 c1 c2 c3 c4 c5 lt
      go_upto_region 13 with (fail)
      clear x0 x1 x2 xl xz
      replace hP3 := hP3.out (.cells #[.int .i64 (k : Int), .int .i64 0, .int .i64 0] 37)
      generalize (World.alloc _ (.cells #[.int .i64 (k : Int), .int .i64 0, .int .i64 0] 37)) = w5 at hP3 ⊢
      have HI0 := Lib.hid hP3
      clear hP3 HI4
      have hbx := (HI0.out.bx (bg, .cells #[.int .i64 (k : Int), .int .i64 0, .int .i64 0] 37) (by simp)).2
      have x0 := cell_at (o := 0) hbx rfl
      have x1 := cell_at (o := 1) hbx rfl
      have x2 := cell_at (o := 2) hbx rfl
      have xl := heap_lt hbx
      clear hbx
      have ⟨c0, c1, c2, c3, c4, c5, lt⟩ := HI0.out.pb.plc
      have hWk : Hid (∀ W, Calls Tryz.prog 18 #[.agg #[.int .i64 0, .int .i64 1, .int .i64 kd]] W (Ret (.int .u64 (U (St.word ⟨0, 1, kd⟩))) W)) := Lib.hid fun W => hWd.out 1 W
      go_wp2_with (first
        | (go_at_call 17; refine (state_any p (k : Int) _).mono ?_; rintro e wS ⟨rfl, hx⟩; have HI1 := Lib.hid (HI0.out.ext hx); clear hx)
        | (go_at_call 16; refine (hPk.out _ HI1.out.m).mono ?_; rintro e wP ⟨rfl, hx⟩; have HI2 := Lib.hid (HI1.out.ext hx); clear hx)
        | (go_at_call 18; refine (hWk.out _).mono ?_; rintro e wW ⟨rfl, hx⟩; have HI3 := Lib.hid (HI2.out.ext hx); clear hx))
      exact ⟨⟨k + 1, M1, (k : Int), by go_num, by omega, fun _ => by omega, HI3.out, HA1.out⟩, by simp [intOf]; omega⟩
    · have hkk1 : (k : Int) = kk + 1 := by omega
      have hg0 : g0 = kk := by have := hgk (by omega); omega
      subst hg0
      have hhi2 := HR.out.m.top
      have HA := Lib.hid hA
      clear hgk hA
      have hsk : sfK kd k g0 = ⟨0, 1, kd⟩ := by unfold sfK; rw [if_pos (by omega)]
      have hnl : g0 ∉ rfr (p.n.toNat - k) (k : Int) ++ [] := fun h => by
        rw [List.append_nil] at h
        have := (rfr_mem.1 h).1
        omega
      have hn2e := hn2.out
      go_upto_region 15 with (fail)
      rcases hnr with rfl | rfl
      · obtain ⟨M1, r1, a1⟩ := aret_room HP.out (by omega) hpt HA.out (n := g0) ⟨by omega, by omega⟩ hnl (by simp; omega) 2
        have HR1 := Lib.hid r1
        have hPk : Hid (∀ W, MemIn lo hi L M1 W → Calls Tryz.prog 16 #[.pointer (some ⟨L.bm, 0, none⟩), .int .i64 0, .int .i64 (p.stF g0)] W (Ret (.int .u64 (U (St.word ⟨0, 2, kd⟩))) W)) := Lib.hid fun W hm => peek_st HP.out a1 (n := g0) ⟨by omega, by omega⟩ (by rw [upS_same, hsk]; rfl) W hm
        rw [List.nil_append] at a1
        have HRT := Lib.hid a1.rt
        have HMG := Lib.hid a1.fl.mg
        clear r1 a1 HA hsk hnl
        have hbx := (HR.out.bx (bg, .cells #[.int .i64 g0, .int .i64 0, .int .i64 0] 37) (by simp)).2
        have x0 := cell_at (o := 0) hbx rfl
        have x1 := cell_at (o := 1) hbx rfl
        have x2 := cell_at (o := 2) hbx rfl
        have xl := heap_lt hbx
        clear hbx
        go_wp2_with (go_at_call 20; refine (aret_PT p 0 g0 2 _ HP.out (by omega) (by omega)).mono ?_; rintro e w2 ⟨v1, F1, rfl, hx2, hp1, hbn1, hsub1⟩; refine Hid.out ?_)
        refine Lib.hid ?_
        have HOF1 := Lib.hid (fun j (hj : F1 j) => (hsub1 j hj).elim (fun h => h.elim) fun h => (.inr (Nat.le_trans HR.out.m.top h) : j < lo ∨ hi ≤ j))
        have HR2 := Lib.hid (HR.out.ext hx2)
        have HP1 := Lib.hid hp1
        have HBN1 := Lib.hid hbn1
        clear hx2 hp1 hbn1 hsub1
        go_wp2_with (go_at_call 14; refine (cap_int HR2.out.m 0 1#64 (by omega) (by rw [HR2.out.mg.n]; omega) (Lib.hid HR2.out.mg.e)).mono ?_; rintro e w3 ⟨rfl, hx3⟩; refine Hid.out ?_)
        refine Lib.hid ?_
        have HR3 := Lib.hid (HR2.out.ext hx3)
        replace HP1 := Lib.hid (HP1.out.agr (Agr.of_ext hx3 HBN1.out))
        replace HBN1 := Lib.hid (HBN1.out.ext hx3.size)
        clear hx3
        go_wp2_with (go_at_call 19; refine (runI_any HR1.out 99 (by omega) (by omega) F1 v1 w3 HP1.out HBN1.out HOF1.out HR3.out.m).mono ?_; rintro e w4 ⟨rfl, hm4, hf4⟩; refine Hid.out ?_)
        refine Lib.hid ?_
        have HI4 := Lib.hid (HR3.out.ran hm4 hf4 HMG.out (by omega) hlo1)
        clear hm4 hf4 HP1 HBN1 HOF1 HR HR2 HR3 HR1 c0 c1 c2 c3 c4 c5 lt x0 x1 x2 xl
        have ⟨c0, c1, c2, c3, c4, c5, lt⟩ := HI4.out.pb.plc
        go_wp2_with (go_at_call 24; refine (rlist_any p HP.out 0 (by omega) hpt [g0] HMG.out HRT.out HI4.out.m).mono ?_; rintro e w5 ⟨v5, rfl, hv5, hx5⟩; refine Hid.out ?_)
        refine Lib.hid ?_
        obtain ⟨gb, go_, gc, rfl, hgl, _, _, hgc⟩ := hv5.some (by simp)
        have y0 := hgc 0 (by simp)
        rw [Nat.add_zero, show iN [g0] 0 = g0 from rfl] at y0
        have HI5 := Lib.hid (HI4.out.ext hx5)
        clear hv5 hx5 hgc HI4 c0 c1 c2 c3 c4 c5 lt
        have hbx := (HI5.out.bx (bg, .cells #[.int .i64 g0, .int .i64 0, .int .i64 0] 37) (by simp)).2
        have x0 := cell_at (o := 0) hbx rfl
        have x1 := cell_at (o := 1) hbx rfl
        have x2 := cell_at (o := 2) hbx rfl
        have xl := heap_lt hbx
        clear hbx
        have ⟨c0, c1, c2, c3, c4, c5, lt⟩ := HI5.out.pb.plc
        have hWk : Hid (∀ W, Calls Tryz.prog 18 #[.agg #[.int .i64 0, .int .i64 2, .int .i64 kd]] W (Ret (.int .u64 (U (St.word ⟨0, 2, kd⟩))) W)) := Lib.hid fun W => hWd.out 2 W
        go_wp2
        refine wp_region_mix (fun w' => ∃ s, w' = over w5 s) [(0, [0, 1, 2, 3, 6, 7]), (1, [4]), (1, [5]), (1, [8]), (0, [9, 10, 11, 12, 13, 14, 15, 16, 17, 18, 19, 20, 21, 22, 23])] (by kernel_rfl) (by kernel_rfl) (over_of (ext_drew (ext_refl w5))) ?_
        simp only [pieces, pickL, List.map_cons, List.map_nil, List.getD_cons_zero, List.getD_cons_succ]
        refine mix_reads ?_
        repeat (go_big_quiet_step (fail))
        refine wpQuiet_nil (mix_acts ?_)
        have HX0 := Lib.hid (ext_drew (ext_refl w5))
        go_wp2_with (go_at_call 17; refine (state_any p g0 _).mono ?_; rintro e wq1 ⟨rfl, hx⟩; have HX1 := Lib.hid (ext_trans HX0.out hx); clear hx)
        refine mixQ_mk (over_of HX1.out) (mix_acts ?_)
        go_wp2_with (go_at_call 16; refine (hPk.out _ (HI5.out.m.ext HX1.out)).mono ?_; rintro e wq2 ⟨rfl, hx⟩; have HX2 := Lib.hid (ext_trans HX1.out hx); clear hx)
        refine mixQ_mk (over_of HX2.out) (mix_acts ?_)
        go_wp2_with (go_at_call 18; refine (hWk.out _).mono ?_; rintro e wq3 ⟨rfl, hx⟩; have HX3 := Lib.hid (ext_trans HX2.out hx); clear hx)
        refine mixQ_mk (over_of HX3.out) (mix_reads ?_)
        repeat (go_big_quiet_step (fail))
        refine wpQuiet_nil (mix_end ?_)
        go_wp2
        go_ret
        exact Ret.mk (ext_trans HI5.out.ex HX3.out)
      · obtain ⟨M1, r1, a1⟩ := stash_room HP.out (by omega) hpt HA.out (n := g0) ⟨by omega, by omega⟩ hnl (by simp; omega) 2
        have HR1 := Lib.hid r1
        have hPk : Hid (∀ W, MemIn lo hi L M1 W → Calls Tryz.prog 16 #[.pointer (some ⟨L.bm, 0, none⟩), .int .i64 0, .int .i64 (p.stF g0)] W (Ret (.int .u64 (U (St.word ⟨0, 1, kd⟩))) W)) := Lib.hid fun W hm => peek_st HP.out a1 (n := g0) ⟨by omega, by omega⟩ hsk W hm
        rw [List.nil_append] at a1
        have HRT := Lib.hid a1.rt
        have HMG := Lib.hid a1.fl.mg
        clear r1 a1 HA hsk hnl
        have hbx := (HR.out.bx (bg, .cells #[.int .i64 g0, .int .i64 0, .int .i64 0] 37) (by simp)).2
        have x0 := cell_at (o := 0) hbx rfl
        have x1 := cell_at (o := 1) hbx rfl
        have x2 := cell_at (o := 2) hbx rfl
        have xl := heap_lt hbx
        clear hbx
        go_wp2_with (go_at_call 32; refine (stash_PT p 0 g0 2 _ HP.out (by omega) (by omega)).mono ?_; rintro e w2 ⟨v1, F1, rfl, hx2, hp1, hbn1, hsub1⟩; refine Hid.out ?_)
        refine Lib.hid ?_
        have HOF1 := Lib.hid (fun j (hj : F1 j) => (hsub1 j hj).elim (fun h => h.elim) fun h => (.inr (Nat.le_trans HR.out.m.top h) : j < lo ∨ hi ≤ j))
        have HR2 := Lib.hid (HR.out.ext hx2)
        have HP1 := Lib.hid hp1
        have HBN1 := Lib.hid hbn1
        clear hx2 hp1 hbn1 hsub1
        go_wp2_with (go_at_call 14; refine (cap_int HR2.out.m 0 1#64 (by omega) (by rw [HR2.out.mg.n]; omega) (Lib.hid HR2.out.mg.e)).mono ?_; rintro e w3 ⟨rfl, hx3⟩; refine Hid.out ?_)
        refine Lib.hid ?_
        have HR3 := Lib.hid (HR2.out.ext hx3)
        replace HP1 := Lib.hid (HP1.out.agr (Agr.of_ext hx3 HBN1.out))
        replace HBN1 := Lib.hid (HBN1.out.ext hx3.size)
        clear hx3
        go_wp2_with (go_at_call 19; refine (runI_any HR1.out 99 (by omega) (by omega) F1 v1 w3 HP1.out HBN1.out HOF1.out HR3.out.m).mono ?_; rintro e w4 ⟨rfl, hm4, hf4⟩; refine Hid.out ?_)
        refine Lib.hid ?_
        have HI4 := Lib.hid (HR3.out.ran hm4 hf4 HMG.out (by omega) hlo1)
        clear hm4 hf4 HP1 HBN1 HOF1 HR HR2 HR3 HR1 c0 c1 c2 c3 c4 c5 lt x0 x1 x2 xl
        have ⟨c0, c1, c2, c3, c4, c5, lt⟩ := HI4.out.pb.plc
        go_wp2_with (go_at_call 24; refine (rlist_any p HP.out 0 (by omega) hpt [g0] HMG.out HRT.out HI4.out.m).mono ?_; rintro e w5 ⟨v5, rfl, hv5, hx5⟩; refine Hid.out ?_)
        refine Lib.hid ?_
        obtain ⟨gb, go_, gc, rfl, hgl, _, _, hgc⟩ := hv5.some (by simp)
        have y0 := hgc 0 (by simp)
        rw [Nat.add_zero, show iN [g0] 0 = g0 from rfl] at y0
        have HI5 := Lib.hid (HI4.out.ext hx5)
        clear hv5 hx5 hgc HI4 c0 c1 c2 c3 c4 c5 lt
        have hbx := (HI5.out.bx (bg, .cells #[.int .i64 g0, .int .i64 0, .int .i64 0] 37) (by simp)).2
        have x0 := cell_at (o := 0) hbx rfl
        have x1 := cell_at (o := 1) hbx rfl
        have x2 := cell_at (o := 2) hbx rfl
        have xl := heap_lt hbx
        clear hbx
        have ⟨c0, c1, c2, c3, c4, c5, lt⟩ := HI5.out.pb.plc
        have hWk : Hid (∀ W, Calls Tryz.prog 18 #[.agg #[.int .i64 0, .int .i64 1, .int .i64 kd]] W (Ret (.int .u64 (U (St.word ⟨0, 1, kd⟩))) W)) := Lib.hid fun W => hWd.out 1 W
        go_wp2
        refine wp_region_mix (fun w' => ∃ s, w' = over w5 s) [(0, [0, 1, 2, 3, 4, 5, 6, 7, 8, 9, 10, 11, 12, 13, 14, 15, 18, 19]), (1, [16]), (1, [17]), (1, [20]), (0, [21, 22, 23, 24, 25, 26, 27, 28, 29, 30, 31, 32, 33, 34, 35, 36])] (by kernel_rfl) (by kernel_rfl) (over_of (ext_drew (ext_refl w5))) ?_
        simp only [pieces, pickL, List.map_cons, List.map_nil, List.getD_cons_zero, List.getD_cons_succ]
        refine mix_reads ?_
        repeat (go_big_quiet_step (fail))
        refine wpQuiet_nil (mix_acts ?_)
        have HX0 := Lib.hid (ext_drew (ext_refl w5))
        go_wp2_with (go_at_call 17; refine (state_any p g0 _).mono ?_; rintro e wq1 ⟨rfl, hx⟩; have HX1 := Lib.hid (ext_trans HX0.out hx); clear hx)
        refine mixQ_mk (over_of HX1.out) (mix_acts ?_)
        go_wp2_with (go_at_call 16; refine (hPk.out _ (HI5.out.m.ext HX1.out)).mono ?_; rintro e wq2 ⟨rfl, hx⟩; have HX2 := Lib.hid (ext_trans HX1.out hx); clear hx)
        refine mixQ_mk (over_of HX2.out) (mix_acts ?_)
        go_wp2_with (go_at_call 18; refine (hWk.out _).mono ?_; rintro e wq3 ⟨rfl, hx⟩; have HX3 := Lib.hid (ext_trans HX2.out hx); clear hx)
        refine mixQ_mk (over_of HX3.out) (mix_reads ?_)
        repeat (go_big_quiet_step (fail))
        refine wpQuiet_nil (mix_end ?_)
        go_wp2
        go_ret
        exact Ret.mk (ext_trans HI5.out.ex HX3.out)
end Go.Proofs.YtpidmbclgfnekaaGreat
