/-
  The law HazardGuards, walked. Conditions: those of each theorem.
-/
import Derived.Test.YtkjbfhcgldgkaaaGax
import Derived.Deep.Cut
namespace Go.Proofs.Ytkjbfhcgldgkaaa
open Go Go.RowKit

/-- How many of so many moves, from one on, are at a step; at it or behind it. -/
def cE (x : Nat → Nat → Int) (i : Int) : Nat → Nat → Nat
  | 0, _ => 0
  | c + 1, k => (if x k 0 = i then 1 else 0) + cE x i c (k + 1)
def cA (x : Nat → Nat → Int) (i : Int) : Nat → Nat → Nat
  | 0, _ => 0
  | c + 1, k => (if i ≤ x k 0 then 1 else 0) + cA x i c (k + 1)
theorem cA_split (x : Nat → Nat → Int) (i : Int) : ∀ c k, cA x i c k = cE x i c k + cA x (i + 1) c k
  | 0, _ => rfl
  | c + 1, k => by
    rw [cA, cE, cA, cA_split x i c (k + 1)]
    repeat' split
    all_goals omega
theorem cA_le (x : Nat → Nat → Int) (i : Int) : ∀ c k, cA x i c k ≤ c
  | 0, _ => Nat.le_refl _
  | c + 1, k => by
    rw [cA]
    have := cA_le x i c (k + 1)
    split <;> omega
theorem mu_pos (cur : BitVec 64) (rem : Nat) (g : GS) (h : g.isDn = false) : 1 ≤ g.mu cur rem := by
  cases g with
  | dn x => cases h
  | ld => simp only [GS.mu]; omega
  | st x => simp only [GS.mu]; split <;> omega
  | rl x => simp only [GS.mu]; split <;> omega
theorem aft_dn {sh : Nat} {y x : BitVec 64} {g : GS} (hg : g.isDn = false) (h : g.aft sh y = .dn x) : x = y ∧ (∀ p t s at_, g.acc p t s at_ sh = ldA at_) := by
  have hgn : ∀ z, gnx sh z = .dn x → x = z := fun z hz => by
    unfold gnx at hz
    split at hz
    · cases hz; rfl
    · cases hz
  cases g with
  | ld => exact ⟨hgn _ h, fun _ _ _ _ => rfl⟩
  | st z => cases h
  | rl z =>
    refine ⟨?_, fun _ _ _ _ => rfl⟩
    have h' : (if y = z then GS.dn z else gnx sh y) = .dn x := h
    split at h'
    · rename_i e
      cases h'
      exact e.symm
    · exact hgn _ h'
  | dn z => cases hg
/-- What stands ahead of the guard's i-th step. -/
structure GdIn (p : Pl) (at_ : Int) (sh lo hi : Nat) (L : Lay) (BQ : Nat) (w0 : World) (N : Nat) (M : MS) (gs : GS) (F : Nat → Prop) (vq : Value) (wr : World) : Prop where
  h : HIn p lo hi L w0.heap.size w0 M wr
  q : QU lo hi BQ (gdT p 0 1 at_ sh N gs) F vq wr
  ok : GOk sh (hzW p M 1) gs
  dn : gs.isDn = false
  sm : U (M.wd 0 at_.toNat) < 256
def GuRel (p : Pl) (at_ : Int) (sh lo hi : Nat) (L : Lay) (BQ : Nat) (w0 : World) (m : Nat) (x : Nat → Nat → Int) (vi : Value) (wr : World) : Prop :=
  ∃ (i N : Nat) (M : MS) (gs : GS) (F : Nat → Prop) (vq : Value), vi = .int .i64 (i : Int) ∧ 60 ≤ N + i ∧ gs.mu (M.wd 0 at_.toNat) (cA x i m 0) + i ≤ 60 ∧ GdIn p at_ sh lo hi L BQ w0 N M gs F vq wr
def GuIn (p : Pl) (at_ : Int) (sh lo hi : Nat) (L : Lay) (BQ : Nat) (w0 : World) (m : Nat) (x : Nat → Nat → Int) (i N : Nat) (gs : GS) (F : Nat → Prop) (vq : Value) (vk : Value) (wr : World) : Prop :=
  ∃ (k : Nat) (M : MS), vk = .int .i64 (k : Int) ∧ k ≤ m ∧ gs.mu (M.wd 0 at_.toNat) (cE x i (m - k) k + cA x ((i : Int) + 1) m 0) + i ≤ 60 ∧ GdIn p at_ sh lo hi L BQ w0 N M gs F vq wr
theorem GdIn.ext {p : Pl} {at_ : Int} {sh lo hi : Nat} {L : Lay} {BQ : Nat} {w0 : World} {N : Nat} {M : MS} {gs : GS} {F : Nat → Prop} {vq : Value} {wr wr' : World} (g : GdIn p at_ sh lo hi L BQ w0 N M gs F vq wr) (hx : Ext wr wr') : GdIn p at_ sh lo hi L BQ w0 N M gs F vq wr' :=
  ⟨g.h.ext hx, g.q.ext hx, g.ok, g.dn, g.sm⟩
set_option maxRecDepth 8000 in
set_option maxHeartbeats 1000000 in
theorem guards_nofit (p : Pl) (a : Int) (b : Option Addr) (m c : Nat) (hm : m ≤ 20) (hf : ¬ FitsP p 0 0 0) (w : World) : Calls Try.prog 5 #[plV p, .int .u8 a, .slice b m c] w (Ret (.bool true) w) := by
  have HFT := Lib.hid hf
  clear hf
  have q2 : decide (20 < (m : Int)) = false := by simp; omega
  go_enter Try.func5, Try.ntmps5
  go_wp2_with (first
    | (go_at_call 17; refine (hwake_any _).mono ?_; rintro e w' hr; obtain ⟨rfl, sA, rfl⟩ := hr.over; clear hr)
    | (go_at_call 18; refine (fits_any p 0 0 0 _ false (hid_no HFT.out)).mono ?_; rintro e w' hr; obtain ⟨rfl, sA, rfl⟩ := hr.over; clear hr))
  go_ret
  exact Ret.mk (by repeat (first | exact ext_refl _ | apply ext_over | apply ext_alloc))
set_option maxRecDepth 8000 in
set_option maxHeartbeats 1000000 in
theorem guards_one (p : Pl) (a : Int) (b : Option Addr) (m c : Nat) (hm : m ≤ 20) (hf : FitsP p 0 0 0) (hn : p.n < 2) (w : World) : Calls Try.prog 5 #[plV p, .int .u8 a, .slice b m c] w (Ret (.bool true) w) := by
  have HFT := Lib.hid hf
  clear hf
  have q2 : decide (20 < (m : Int)) = false := by simp; omega
  have q1 : decide (p.n < 2) = true := by simp; omega
  go_enter Try.func5, Try.ntmps5
  go_wp2_with (first
    | (go_at_call 17; refine (hwake_any _).mono ?_; rintro e w' hr; obtain ⟨rfl, sA, rfl⟩ := hr.over; clear hr)
    | (go_at_call 18; refine (fits_any p 0 0 0 _ true (hid_yes HFT.out)).mono ?_; rintro e w' hr; obtain ⟨rfl, sA, rfl⟩ := hr.over; clear hr))
  go_ret
  exact Ret.mk (by repeat (first | exact ext_refl _ | apply ext_over | apply ext_alloc))
set_option maxRecDepth 8000 in
set_option maxHeartbeats 1000000 in
theorem guards_long (p : Pl) (a : Int) (b : Option Addr) (m c : Nat) (hm : 20 < m) (w : World) : Calls Try.prog 5 #[plV p, .int .u8 a, .slice b m c] w (Ret (.bool true) w) := by
  have q2 : decide (20 < (m : Int)) = true := by simp; omega
  go_enter Try.func5, Try.ntmps5
  go_wp2_with (go_at_call 17; refine (hwake_any _).mono ?_; rintro e w' hr; obtain ⟨rfl, sA, rfl⟩ := hr.over; clear hr)
  go_ret
  exact Ret.mk (by repeat (first | exact ext_refl _ | apply ext_over | apply ext_alloc))
set_option maxRecDepth 8000 in
set_option maxHeartbeats 4000000 in
theorem guards_yes (p : Pl) (a : Int) (ha0 : 0 ≤ a) (hf : FitsP p 0 0 0) (hn : 2 ≤ p.n) (m : Nat) (x : Nat → Nat → Int) (v : Value) (w : World) (hX : Rs 2 (fun _ => .u8) w v m x) (hm : m ≤ 20) : Calls Try.prog 5 #[plV p, .int .u8 a, v] w (Ret (.bool true) w) := by
  have HFT := Lib.hid hf
  have HP := Lib.hid hf.2.1
  have HXX := Lib.hid hX
  have hpt := HP.out.2.1
  obtain ⟨a0, cap, rfl, _, _⟩ := hX
  have q1 : decide (p.n < 2) = false := by simp; omega
  have q2 : decide (20 < (m : Int)) = false := by simp; omega
  obtain ⟨sh, hsh⟩ : ∃ k : Nat, a % 2 = (k : Int) := ⟨(a % 2).toNat, by omega⟩
  have hsh2 : sh < 64 := by omega
  have hmod : Int.tmod a 2 = (sh : Int) := by rw [Int.tmod_eq_emod_of_nonneg ha0]; exact hsh
  clear hf hsh
  go_enter Try.func5, Try.ntmps5
  go_wp2_with (first
    | (go_at_call 17; refine (hwake_any _).mono ?_; rintro e w' hr; obtain ⟨rfl, sA, rfl⟩ := hr.over; clear hr)
    | (go_at_call 18; refine (fits_any p 0 0 0 _ true (hid_yes HFT.out)).mono ?_; rintro e w' hr; obtain ⟨rfl, sA, rfl⟩ := hr.over; clear hr)
    | (go_at_call 12; refine Hid.out ?_))
  refine Lib.hid ?_
  refine (laidZ_any p HP.out _).mono ?_
  rintro e w1 ⟨lo, hi, L, M, rfl, hM, hF, hx, hlo⟩
  have hx1 : Ext (w.alloc (.cells #[.int .i64 p.n, .int .i64 p.t, .int .i64 p.r, .int .i64 p.d, .int .i64 p.b, .int .i64 p.g] 23)) w1 := by
    refine ext_trans ?_ hx
    repeat (first | exact ext_refl _ | apply ext_over)
  have hlo1 : w.heap.size < lo := by
    refine Nat.lt_of_lt_of_le ?_ hlo
    refine Nat.lt_of_lt_of_le (m := (w.alloc (.cells #[.int .i64 p.n, .int .i64 p.t, .int .i64 p.r, .int .i64 p.d, .int .i64 p.b, .int .i64 p.g] 23)).heap.size) (by simp) ?_
    first | exact over_size _ _ | exact Nat.le_trans (over_size _ _) (over_size _ _) | exact Nat.le_trans (over_size _ _) (Nat.le_trans (over_size _ _) (over_size _ _))
  have hb0 : PBox w.heap.size p w1 := (hx1.block _ (by simp)).trans (heap_at w _ _ rfl)
  have hhi := hM.top
  have HI := Lib.hid (HIn.mk hM hF.1.mg (ext_trans (ext_alloc _ (ext_refl w)) hx1) hb0)
  have HZ := Lib.hid hF.2
  clear hM hF hx hx1 hlo hb0
  have ⟨c0, c1, c2, c3, c4, c5, lt⟩ := HI.out.pb.plc
  obtain ⟨at_, hat⟩ : ∃ a, Hid (p.fdF 0 0 = a) := ⟨_, Lib.hid rfl⟩
  have hpl := fd_place HP.out (n := 0) (f := 0) ⟨by omega, by omega⟩ (by omega) (by omega)
  have hfz : M.wd 0 (p.fdF 0 0).toNat = 0#64 := by
    have hfe : p.fdF 0 0 = p.nod 0 + 2 := by unfold Pl.fdF; rw [if_pos ⟨HP.out, ⟨by omega, by omega⟩, by omega, by omega⟩]; omega
    have hnd := Pl.nod_in HP.out (x := 0) (by omega) (by omega)
    refine HZ.out _ (by omega) fun k hk e => ?_
    have h3 := nx_eq HP.out hk
    have h4 := hk.1
    unfold nxN at e
    unfold Pl.nod at hfe hnd
    omega
  rw [hat.out] at hpl hfz
  have hat0 := hpl.1
  have hat1 := hpl.2.1
  have hat2 := Lib.hid hpl.2.2
  replace hfz := Lib.hid hfz
  clear hpl
  go_wp2_with (go_at_call 28; refine (field_is p 0 0 _ at_ hat).mono ?_; rintro e w2 ⟨rfl, hx⟩; refine Hid.out ?_)
  refine Lib.hid ?_
  have HI2 := Lib.hid (HI.out.ext hx)
  clear hx HI c0 c1 c2 c3 c4 c5 lt
  have ⟨c0, c1, c2, c3, c4, c5, lt⟩ := HI2.out.pb.plc
  go_wp2_with (go_at_call 29; refine (hguard_PT p 0 1 at_ sh hsh2 60 _).mono ?_; rintro e w3 ⟨v1, F1, rfl, hx2, hp1, hbn1, hsub1⟩; refine Hid.out ?_)
  refine Lib.hid ?_
  have HOF1 := Lib.hid (fun j (hj : F1 j) => (hsub1 j hj).elim (fun h => h.elim) fun h => (.inr (Nat.le_trans HI2.out.m.top h) : j < lo ∨ hi ≤ j))
  have HI3 := Lib.hid (HI2.out.ext hx2)
  have HP1 := Lib.hid hp1
  have HBN1 := Lib.hid hbn1
  clear hx2 hp1 hbn1 hsub1
  obtain ⟨y, ac, fn, rfl, hfn⟩ := shU HP1.out
  have HFN := Lib.hid hfn
  have hsf := store_fn hfn
  clear hfn c0 c1 c2 c3 c4 c5 lt HI2
  go_upto_region 9 with (fail)
  obtain ⟨BQ, hbq⟩ : ∃ b, Hid (w3.heap.size = b) := ⟨_, Lib.hid rfl⟩
  have hmi := HI3.out.m.mIn
  have hBQ : hi ≤ BQ := by have := HI3.out.m.top; have := hbq.out; omega
  have hBQw : w.heap.size < BQ := by omega
  have HG : Hid (GdIn p at_ sh lo hi L BQ w 60 M .ld F1 (.agg #[.int .u64 y, .int .i64 ac.op, .int .i64 ac.at_, .int .u64 (U ac.a), .int .u64 (U ac.b), fn, .pointer none]) (w3.alloc (.cells #[.int .u64 y, .int .i64 ac.op, .int .i64 ac.at_, .int .u64 (U ac.a), .int .u64 (U ac.b), fn, .pointer none] 79))) :=
    Lib.hid ⟨HI3.out.ext (ext_alloc _ (ext_refl w3)), QU.new HP1.out HBN1.out HOF1.out HFN.out hbq.out.symm, trivial, rfl, by rw [hfz.out, U_0]; omega⟩
  rw [hbq.out]
  clear HP1 HBN1 HOF1 HFN hsf HI3 hfz HZ hbq
  generalize w3.alloc (.cells #[.int .u64 y, .int .i64 ac.op, .int .i64 ac.at_, .int .u64 (U ac.a), .int .u64 (U ac.b), fn, .pointer none] 79) = W3 at HG ⊢
  have hca := cA_le x 0 m 0
  go_wp2
  go_loopw [11] (fun vi wr => GuRel p at_ sh lo hi L BQ w m x vi wr) (fun i _ => (60 - intOf i).toNat)
  case atStart => exact ⟨0, 60, M, .ld, F1, _, rfl, by omega, by show 2 * cA x 0 m 0 + 3 + 0 ≤ 60; omega, HG.out⟩
  case round =>
    obtain ⟨i, N, M, gs, F, vq, rfl, hNi, hmu, hG⟩ := hrel
    have HG1 := Lib.hid hG
    have hdn := Lib.hid hG.dn
    have hmp := mu_pos (M.wd 0 at_.toNat) (cA x i m 0) gs hG.dn
    have hi60 : i < 60 := by omega
    have hi60' : (i : Int) < 60 := by omega
    have e2 := Lib.hid (h64 i (by omega))
    have hm0 : Hid (gs.mu (M.wd 0 at_.toNat) (cE x i (m - 0) 0 + cA x ((i : Int) + 1) m 0) + i ≤ 60) := Lib.hid (by rw [Nat.sub_zero, ← cA_split]; exact hmu)
    clear hG HG hmu hmp hca
    go_wp2
    go_loopw [12] (fun vk wr => GuIn p at_ sh lo hi L BQ w m x i N gs F vq vk wr) (fun k _ => (m - intOf k).toNat)
    case atStart => exact ⟨0, M, rfl, Nat.zero_le _, hm0.out, HG1.out⟩
    case round =>
      obtain ⟨k, M, rfl, hkm, hmu, hG⟩ := hrel
      have HG := Lib.hid hG
      have HMU := Lib.hid hmu
      have e3 := Lib.hid (h64 k (by omega))
      clear hG hmu HG1 hm0
      by_cases hlt : k < m
      · obtain ⟨bb, ofs, rfl, hbl, hcell⟩ := HXX.out.at (by omega)
        obtain ⟨d0, wf0⟩ := hcell k (by omega) 0 (by omega)
        obtain ⟨d1, wf1⟩ := hcell k (by omega) 1 (by omega)
        have b0 := bounds_u8 wf0
        have b1 := bounds_u8 wf1
        replace d0 := ext_cell HG.out.h.ex d0
        replace d1 := ext_cell HG.out.h.ex d1
        rw [Nat.add_zero] at d0
        have hbl2 := cell_lt d0
        have hbl3 : bb < lo := by omega
        have hlt' : (k : Int) < m := by omega
        obtain ⟨z, hz⟩ : ∃ z : Int, x k 1 = z := ⟨_, rfl⟩
        rw [hz] at d1 b1
        obtain ⟨Z, hZ⟩ := word_of z (by omega) (by omega)
        replace hZ := Lib.hid hZ
        have hsucc : cE x i (m - k) k = (if x k 0 = i then 1 else 0) + cE x i (m - (k + 1)) (k + 1) := by rw [show m - k = (m - (k + 1)) + 1 by omega, cE]
        clear hcell wf0 wf1
        by_cases he : x k 0 = (i : Int)
        · rw [he] at d0 b0
          rw [if_pos he] at hsucc
          replace hsucc := Lib.hid hsucc
          clear he
          go_wp2
          refine wp_region_mix (fun w' => ∃ s, w' = off lo hi wr s) [(0, [0, 1, 3, 4, 5, 6, 7, 8, 9, 10]), (1, [2]), (1, [11])] (by kernel_rfl) (by kernel_rfl) (off_of ((Fr.refl lo hi wr).drew)) ?_
          simp only [pieces, pickL, List.map_cons, List.map_nil, List.getD_cons_zero, List.getD_cons_succ]
          refine mix_reads ?_
          repeat (go_big_quiet_step (fail))
          refine wpQuiet_nil (mix_acts ?_)
          have HX0 := Lib.hid ((Fr.refl lo hi wr).drew)
          have HI1 := Lib.hid (HG.out.h.ext (ext_drew (ext_refl wr)))
          have HQ1 := Lib.hid (HG.out.q.ext (ext_drew (ext_refl wr)))
          go_wp2_with (go_at_call 21; refine (cap_int HI1.out.m 0 1#64 (by omega) (by rw [HI1.out.mg.n]; omega) (Lib.hid HI1.out.mg.e)).mono ?_; rintro e w4 ⟨rfl, hx3⟩; refine Hid.out ?_)
          refine Lib.hid ?_
          have HI2 := Lib.hid (HI1.out.ext hx3)
          have HX2 := Lib.hid (HX0.out.ext hx3)
          have HQ2 := Lib.hid (HQ1.out.ext hx3)
          clear hx3
          go_wp2
          refine mixQ_mk (off_of HX2.out) (mix_acts ?_)
          go_wp2_with (go_at_call 30; refine (do_int HI2.out.m 0 1 at_ _ _ 0 _ 1#64 Z 0#64 _ rfl hZ.out U_0.symm (HI2.out.mg.ok hat0 hat1 (by omega) (by omega)) (Lib.hid rfl) (Lib.hid rfl)).mono ?_; rintro e w5 ⟨rfl, hm4, hf4⟩; refine Hid.out ?_)
          refine Lib.hid ?_
          have HX3 := Lib.hid (HX2.out.trans hf4)
          have hwd : ∀ j, (M.done 0 1 at_ Z 0#64).wd 0 j = if j = at_.toNat then Z else M.wd 0 j := fun j => wd_store M at_ Z 0#64 j
          have HI3 := Lib.hid (HI2.out.ran hm4 hf4 (HI2.out.mg.done _ _ _ _ _) (by omega) hlo1)
          have HQ3 := Lib.hid (HQ2.out.fr hf4 (.inr hBQ))
          have hhz : hzW p (M.done 0 1 at_ Z 0#64) 1 = hzW p M 1 := by
            show (M.done 0 1 at_ Z 0#64).wd 0 (hzN p 1) = _
            rw [hwd, if_neg fun h => hat2.out 1 (by omega) h.symm]
            rfl
          have hww : (M.done 0 1 at_ Z 0#64).wd 0 at_.toNat = Z := by rw [hwd, if_pos rfl]
          have HN : Hid (GdIn p at_ sh lo hi L BQ w N (M.done 0 1 at_ Z 0#64) gs F vq w5) := Lib.hid ⟨HI3.out, HQ3.out, by rw [hhz]; exact HG.out.ok, HG.out.dn, by rw [hww, ← hZ.out]; omega⟩
          have HM2 : Hid (gs.mu ((M.done 0 1 at_ Z 0#64).wd 0 at_.toNat) (cE x i (m - (k + 1)) (k + 1) + cA x ((i : Int) + 1) m 0) + i ≤ 60) := Lib.hid (by
            have h1 := HMU.out
            rw [hsucc.out, show 1 + cE x i (m - (k + 1)) (k + 1) + cA x ((i : Int) + 1) m 0 = (cE x i (m - (k + 1)) (k + 1) + cA x ((i : Int) + 1) m 0) + 1 by omega] at h1
            have h2 := mu_turn (M.wd 0 at_.toNat) ((M.done 0 1 at_ Z 0#64).wd 0 at_.toNat) (cE x i (m - (k + 1)) (k + 1) + cA x ((i : Int) + 1) m 0) gs
            omega)
          clear hm4 hf4 hwd HI2 HI3 HQ2 HQ3 HI1 HQ1 HX0 HX2 hhz hww hsucc
          go_wp2
          refine mixQ_mk (off_of HX3.out) (mix_end ?_)
          clear d0 d1 hbl2 HG HMU
          go_wp2
          exact ⟨⟨k + 1, _, by first | exact congrArg _ e3.out | rfl, by omega, HM2.out, HN.out⟩, by simp [intOf]; omega⟩
        · have he2 : (x k 0 == (i : Int)) = false := beq_eq_false_iff_ne.2 he
          rw [if_neg he, Nat.zero_add] at hsucc
          replace hsucc := Lib.hid hsucc
          go_wp2
          exact ⟨⟨k + 1, M, by first | exact congrArg _ e3.out | rfl, by omega, by rw [← hsucc.out]; exact HMU.out, HG.out⟩, by simp [intOf]; omega⟩
      · obtain rfl : k = m := by omega
        have hMU : gs.mu (M.wd 0 at_.toNat) (cA x ((i : Int) + 1) k 0) + i ≤ 60 := by
          have h := HMU.out
          rw [Nat.sub_self, cE, Nat.zero_add] at h
          exact h
        clear HMU
        obtain ⟨K, rfl⟩ : ∃ K, N = K + 1 := ⟨N - 1, by omega⟩
        obtain ⟨nv, hnv⟩ : ∃ y, Hid (U (M.wd (0 : Int).toNat at_.toNat) = y) := ⟨_, Lib.hid rfl⟩
        have hr0 : (0 : Int) < M.n := by rw [HG.out.h.mg.n]; omega
        have hr1 : at_ < M.sz (0 : Int).toNat := by show at_ < (M.sz 0 : Int); rw [HG.out.h.mg.s]; omega
        obtain ⟨N1, hn1, hn2, hgs, ⟨f0, hf0⟩, hdo⟩ := go_g HP.out HG.out.h.mg (t := 0) (s := 1) (by omega) (by omega) (by omega) (by omega) hat0 hat1 sh K gs hdn.out
        have hwds := gst_words HP.out HG.out.h.mg (t := 0) (s := 1) (by omega) (by omega) (by omega) (by omega) hat2.out sh gs
        have hok := gok_step HP.out HG.out.h.mg (t := 0) (s := 1) (by omega) (by omega) (by omega) (by omega) hat2.out sh gs (M.wd 0 at_.toNat) HG.out.ok
        have hmst := mu_step sh (M.wd 0 at_.toNat) (cA x ((i : Int) + 1) k 0) gs hdn.out
        have hmle : gs.mu (M.wd 0 at_.toNat) (cA x ((i : Int) + 1) k 0) ≤ gs.mu (M.wd 0 at_.toNat) (cA x i k 0) := mu_less _ (by rw [cA_split x i k 0]; omega) gs
        obtain ⟨g1, hg1⟩ : ∃ g1, Hid (gs.aft sh (M.wd 0 at_.toNat) = g1) := ⟨_, Lib.hid rfl⟩
        rw [hg1.out] at hgs hok hmst
        obtain ⟨A, hA⟩ : ∃ A, Hid (gs.acc p 0 1 at_ sh = A) := ⟨_, Lib.hid rfl⟩
        rw [hA.out] at hgs hok hf0 hdo hwds
        obtain ⟨M1, hM1⟩ : ∃ X, Hid (M.done 0 A.op A.at_ A.a A.b = X) := ⟨_, Lib.hid rfl⟩
        rw [hM1.out] at hgs hok hwds
        have HGS := Lib.hid hgs
        have HOK := Lib.hid hok
        have HWD := Lib.hid hwds
        have HF0 := Lib.hid hf0
        have hmu1 : Hid (g1.mu (M1.wd 0 at_.toNat) (cA x ((i : Int) + 1) k 0) + (i + 1) ≤ 60) := Lib.hid (by rw [hwds.2]; omega)
        clear hgs hok hwds hf0 hdo hmst hmle hMU
        go_wp2_with (go_at_call 26; refine (peek_int HG.out.h.m 0 at_ nv (by omega) hr0 hat0 hr1 hnv).mono ?_; rintro e w5 ⟨rfl, hx⟩; refine Hid.out ?_)
        refine Lib.hid ?_
        have HG5 := Lib.hid (HG.out.ext hx)
        have HS5 := Lib.hid HG.out.sm
        clear hx HG
        obtain ⟨y, ac, fn, rfl, hfn, hqb⟩ := HG5.out.q.box
        obtain ⟨d0, d1, d2, d3, d4, d5, d6, dz, dl⟩ := sev_of hqb
        have HPA : Hid (PT kU (.ask A f0) F (.agg #[.int .u64 y, .int .i64 ac.op, .int .i64 ac.at_, .int .u64 (U ac.a), .int .u64 (U ac.b), fn, .pointer none]) w5) := Lib.hid (by rw [← HF0.out]; exact HG5.out.q.pt)
        have HK5 : Hid (Blk BQ (.cells #[.int .u64 y, .int .i64 ac.op, .int .i64 ac.at_, .int .u64 (U ac.a), .int .u64 (U ac.b), fn, .pointer none] 79) w5) := Lib.hid hqb
        clear hfn hqb
        go_wp2_with (go_at_call 31; refine (access_U A f0 F _ _ HPA.out).mono ?_; rintro e w6 ⟨rfl, hx⟩; refine Hid.out ?_)
        refine Lib.hid ?_
        have HG6 := Lib.hid (HG5.out.ext hx)
        have HK6 := Lib.hid (HK5.out.ext hx)
        clear hx HG5 HK5 HPA d0 d1 d2 d3 d4 d5 d6 dz dl HF0
        have hw6 : hi ≤ w6.heap.size := HG6.out.h.m.top
        have hlb6 : BQ < w6.heap.size := HK6.out.lt
        go_upto_region 19 with (fail)
        have HA7 : Hid (Blk w6.heap.size (.cells #[.int .i64 A.op, .int .i64 A.at_, .int .u64 (U A.a), .int .u64 (U A.b)] 35) (w6.alloc (.cells #[.int .i64 A.op, .int .i64 A.at_, .int .u64 (U A.a), .int .u64 (U A.b)] 35))) := Lib.hid (heap_at w6 _ _ rfl)
        have hxa := ext_alloc (.cells #[.int .i64 A.op, .int .i64 A.at_, .int .u64 (U A.a), .int .u64 (U A.b)] 35) (ext_refl w6)
        have HI7 := Lib.hid (HG6.out.h.ext hxa)
        have HQ7 := Lib.hid (HG6.out.q.ext hxa)
        have HK := Lib.hid (HK6.out.ext hxa)
        have hlb7 : BQ < (w6.alloc (.cells #[.int .i64 A.op, .int .i64 A.at_, .int .u64 (U A.a), .int .u64 (U A.b)] 35)).heap.size := HK.out.lt
        have hla7 : w6.heap.size < (w6.alloc (.cells #[.int .i64 A.op, .int .i64 A.at_, .int .u64 (U A.a), .int .u64 (U A.b)] 35)).heap.size := HA7.out.lt
        clear hxa HG6 HK6
        generalize w6.alloc (.cells #[.int .i64 A.op, .int .i64 A.at_, .int .u64 (U A.a), .int .u64 (U A.b)] 35) = W7 at HA7 HI7 HQ7 HK hlb7 hla7 ⊢
        obtain ⟨ba, hba⟩ : ∃ b, Hid (w6.heap.size = b) := ⟨_, Lib.hid rfl⟩
        rw [hba.out] at HA7 hw6 hlb6 hla7 ⊢
        have HA := HA7
        clear HA7 hba
        obtain ⟨d0, d1, d2, d3, d4, d5, d6, dz, dl⟩ := sev_of HK.out
        go_wp2
        refine wp_region_ways (fun x => ∃ s, x = off lo hi W7 s) (by kernel_rfl) (off_of ((Fr.refl lo hi W7).drew)) ?_
        refine ways_reads [0, 1, 2] (by kernel_rfl) ?_
        simp only [pickL, List.map_cons, List.map_nil, List.getD_cons_zero, List.getD_cons_succ]
        repeat (go_big_quiet_step (fail))
        refine wpQuiet_nil ?_
        have HZ := Lib.hid ((Fr.refl lo hi W7).drew)
        have HI := Lib.hid (HI7.out.ext (ext_drew (ext_refl W7)))
        have HQ := Lib.hid (HQ7.out.ext (ext_drew (ext_refl W7)))
        have HQF := Lib.hid HQ7.out.bn
        replace HA := Lib.hid (HA.out.ext (ext_drew (ext_refl W7)))
        replace HK := Lib.hid (HK.out.ext (ext_drew (ext_refl W7)))
        have hsx : W7.heap.size ≤ W7.drew.heap.size := Nat.le_refl _
        have hwtop := HI7.out.m.top
        clear HI7 HQ7 d0 d1 d2 d3 d4 d5 d6 dz dl
        generalize W7.drew = X at HZ HI HQ hsx HA HK ⊢
        refine ways_fork 8 (by kernel_rfl) ?_ (ways_act 3 (by kernel_rfl) ?_)
        · simp only [pickL, List.map_cons, List.map_nil, List.getD_cons_zero, List.getD_cons_succ]
          go_wp2
          have hxa := ext_alloc (.cells #[.int .u64 0, .int .i64 0, .int .i64 0, .int .u64 0, .int .u64 0, .nilFunc, .pointer none] 79) (ext_refl X)
          replace HZ := Lib.hid (HZ.out.ext hxa)
          replace HI := Lib.hid (HI.out.ext hxa)
          replace HA := Lib.hid (HA.out.ext hxa)
          replace HK := Lib.hid (HK.out.ext hxa)
          replace HQ := Lib.hid (HQ.out.ext hxa)
          have hbx := Lib.hid (heap_at X (.cells #[.int .u64 0, .int .i64 0, .int .i64 0, .int .u64 0, .int .u64 0, .nilFunc, .pointer none] 79) X.heap.size rfl)
          have hlx : W7.heap.size ≤ X.heap.size := hsx
          replace hsx : W7.heap.size ≤ (X.alloc (.cells #[.int .u64 0, .int .i64 0, .int .i64 0, .int .u64 0, .int .u64 0, .nilFunc, .pointer none] 79)).heap.size := by simp; omega
          clear hxa
          refine mixQ_mk (off_of HZ.out) ?_
          generalize X.alloc (.cells #[.int .u64 0, .int .i64 0, .int .i64 0, .int .u64 0, .int .u64 0, .nilFunc, .pointer none] 79) = XA at HZ HI hbx hsx HA HK HQ ⊢
          generalize X.heap.size = bx at hbx hlx ⊢
          refine ways_act 3 (by kernel_rfl) ?_
          simp only [pickL, List.map_cons, List.map_nil, List.getD_cons_zero, List.getD_cons_succ]
          go_wp2_with (go_at_call 21; refine (cap_int HI.out.m 0 1#64 (by omega) (by rw [HI.out.mg.n]; omega) (Lib.hid HI.out.mg.e)).mono ?_; rintro e XC ⟨rfl, hx⟩; refine Hid.out ?_)
          refine Lib.hid ?_
          replace HZ := Lib.hid (HZ.out.ext hx)
          replace HI := Lib.hid (HI.out.ext hx)
          replace HQ := Lib.hid (HQ.out.ext hx)
          replace HA := Lib.hid (HA.out.ext hx)
          replace HK := Lib.hid (HK.out.ext hx)
          replace hbx := Lib.hid ((hx.block _ (heap_lt hbx.out)).trans hbx.out)
          replace hsx := Nat.le_trans hsx hx.size
          clear hx
          go_wp2
          refine mixQ_mk (off_of HZ.out) ?_
          refine ways_act 4 (by kernel_rfl) ?_
          simp only [pickL, List.map_cons, List.map_nil, List.getD_cons_zero, List.getD_cons_succ]
          go_wp2_with (go_at_call 32; refine (step_GU HQ.out HI.out.m HGS.out).mono ?_; rintro e XS ⟨v2, F2, rfl, hp, hbn, hsub, hm, hf⟩; refine Hid.out ?_)
          refine Lib.hid ?_
          have hp2 := Lib.hid hp
          have hbn2 := Lib.hid hbn
          have hof2 := Lib.hid (fun j (hj : F2 j) => (hsub j hj).elim (fun h => (HQ.out.of j h)) (fun h => (⟨.inr (Nat.le_trans HI.out.m.top h), fun e => by omega⟩ : (j < lo ∨ hi ≤ j) ∧ j ≠ BQ)))
          have HBO : Hid (∀ j, F2 j → j < XS.heap.size) := Lib.hid hbn
          have hnb : Hid (¬ F2 bx) := Lib.hid (fun h => (hsub _ h).elim (fun h => by have := HQF.out _ h; omega) (fun h => by have := heap_lt hbx.out; omega))
          replace HZ := Lib.hid (HZ.out.trans hf)
          replace HA := Lib.hid (HA.out.fr hf hw6)
          replace HK := Lib.hid (HK.out.fr hf hBQ)
          replace HI := Lib.hid (HI.out.ran hm hf HWD.out.1.mg (by omega) hlo1)
          replace hbx := Lib.hid ((hf.block _ (heap_lt hbx.out) (.inr (Nat.le_trans hwtop hlx))).trans hbx.out)
          replace hsx := Nat.le_trans hsx hf.size
          obtain ⟨y2, a2, fn2, rfl, hfn2⟩ := shU hp
          have HFN2 := Lib.hid hfn2
          clear hf hm hp hbn hsub hfn2 HQ
          go_wp2
          refine mixQ_mk (off_of HZ.out) ?_
          refine ways_reads [5, 6, 7] (by kernel_rfl) ?_
          simp only [pickL, List.map_cons, List.map_nil, List.getD_cons_zero, List.getD_cons_succ]
          repeat (go_big_quiet_step (fail))
          refine wpQuiet_nil ?_
          refine ways_act 9 (by kernel_rfl) ?_
          simp only [pickL, List.map_cons, List.map_nil, List.getD_cons_zero, List.getD_cons_succ]
          obtain ⟨k0, k1, k2, k3, k4, k5, k6, kz, kl⟩ := sev_of hbx.out
          have hB := put7_block (.int .u64 y2) (.int .i64 a2.op) (.int .i64 a2.at_) (.int .u64 (U a2.a)) (.int .u64 (U a2.b)) fn2 (.pointer none) hbx.out
          have hP := hp2.out.agr (Agr.of_put7 (b := bx) (.int .u64 y2) (.int .i64 a2.op) (.int .i64 a2.at_) (.int .u64 (U a2.a)) (.int .u64 (U a2.b)) fn2 (.pointer none) hnb.out)
          have hZZ := put7_frNew (b := bx) (.int .u64 y2) (.int .i64 a2.op) (.int .i64 a2.at_) (.int .u64 (U a2.a)) (.int .u64 (U a2.b)) fn2 (.pointer none) HZ.out hlx
          have hII := HI.out.put7 (b := bx) (.int .u64 y2) (.int .i64 a2.op) (.int .i64 a2.at_) (.int .u64 (U a2.a)) (.int .u64 (U a2.b)) fn2 (.pointer none) (Nat.le_trans hwtop hlx) (by omega) (by omega)
          have hSS : (put7 bx (.int .u64 y2) (.int .i64 a2.op) (.int .i64 a2.at_) (.int .u64 (U a2.a)) (.int .u64 (U a2.b)) fn2 (.pointer none) XS).heap.size = XS.heap.size := put7_size (.int .u64 y2) (.int .i64 a2.op) (.int .i64 a2.at_) (.int .u64 (U a2.a)) (.int .u64 (U a2.b)) fn2 (.pointer none)
          have hO0 := HA.out.put7 (b' := bx) (.int .u64 y2) (.int .i64 a2.op) (.int .i64 a2.at_) (.int .u64 (U a2.a)) (.int .u64 (U a2.b)) fn2 (.pointer none) (by omega)
          have hO1 := HK.out.put7 (b' := bx) (.int .u64 y2) (.int .i64 a2.op) (.int .i64 a2.at_) (.int .u64 (U a2.a)) (.int .u64 (U a2.b)) fn2 (.pointer none) (by omega)
          rw [put7] at hB hP hZZ hII hSS hO0 hO1
          have HY := Lib.hid (And.intro hB (And.intro hP (And.intro hZZ (And.intro hII (And.intro hO0 (And.intro hO1 (hSS)))))))
          have HSW := Lib.hid (And.intro hbn2.out hsx)
          have hsf := store_fn HFN2.out
          clear hB hP hZZ hII hO0 hO1 hSS hp2 HZ HI hbx hbn2 HA HK
          go_wp2
          obtain ⟨hB, hP, hZZ, hII, hO0, hO1, hSS⟩ := HY.out
          obtain ⟨hbn2, hsx2⟩ := HSW.out
          rw [← hSS] at hsx2
          have hbn3 : Bnd F2 _ := hbn2.ext (Nat.le_of_eq hSS.symm)
          clear HY HSW k0 k1 k2 k3 k4 k5 k6 kz kl hSS hsf
          generalize (World.setCell _ (⟨bx, 6, none⟩ : Addr) _) = Y at hB hP hZZ hII hsx2 hbn3 hO0 hO1 ⊢
          refine mixQ_mk (off_of hZZ) ?_
          have HB := Lib.hid hB
          have HPT := Lib.hid hP
          have HZZ := Lib.hid hZZ
          have HI := Lib.hid hII
          have HBN := Lib.hid hbn3
          have HOF := hof2
          have HA := Lib.hid hO0
          have HK := Lib.hid hO1
          clear hB hP hZZ hII hbn3 hof2 hO0 hO1
          refine ways_reads [10] (by kernel_rfl) ?_
          simp only [pickL, List.map_cons, List.map_nil, List.getD_cons_zero, List.getD_cons_succ]
          repeat (go_big_quiet_step (fail))
          refine wpQuiet_nil ?_
          refine ways_end (by kernel_rfl) ?_
          obtain ⟨k0, k1, k2, k3, k4, k5, k6, kz, kl⟩ := sev_of HB.out
          obtain ⟨d0, d1, d2, d3, d4, d5, d6, dz, dl⟩ := sev_of HK.out
          have hsf := store_fn HFN2.out
          have hQ9 := QU.stored HK.out HPT.out HBN.out HOF.out HFN2.out
          have hI9 := HI.out.put7 (b := BQ) (.int .u64 y2) (.int .i64 a2.op) (.int .i64 a2.at_) (.int .u64 (U a2.a)) (.int .u64 (U a2.b)) fn2 (.pointer none) hBQ (by omega) (by omega)
          have hA9 := HA.out.put7 (b' := BQ) (.int .u64 y2) (.int .i64 a2.op) (.int .i64 a2.at_) (.int .u64 (U a2.a)) (.int .u64 (U a2.b)) fn2 (.pointer none) (by omega)
          rw [put7] at hQ9 hI9 hA9
          have HY := Lib.hid (And.intro hQ9 (And.intro hI9 hA9))
          have hlab := HA.out.lt
          clear hQ9 hI9 hA9 HPT HBN HOF HI HA HK HZZ
          go_upto_region 23 with (fail)
          obtain ⟨hQ9, hI9, hA9⟩ := HY.out
          clear HY hsf k0 k1 k2 k3 k4 k5 k6 kz kl d0 d1 d2 d3 d4 d5 d6 dz dl HB
          generalize (World.setCell _ (⟨BQ, 6, none⟩ : Addr) _) = V at hQ9 hI9 hA9 ⊢
          have HQ9 := Lib.hid hQ9
          have HI9 := Lib.hid hI9
          have HA9 := Lib.hid hA9
          obtain ⟨y9, a9, fn9, e9, hfn9, hqb9⟩ := hQ9.box
          obtain ⟨d0, d1, d2, d3, d4, d5, d6, dz, dl⟩ := sev_of hqb9
          have HE9 := Lib.hid e9
          have HPT9 := Lib.hid (by rw [← e9]; exact hQ9.pt : PT kU (gdT p 0 1 at_ sh N1 g1) F2 (.agg #[.int .u64 y9, .int .i64 a9.op, .int .i64 a9.at_, .int .u64 (U a9.a), .int .u64 (U a9.b), fn9, .pointer none]) V)
          clear hQ9 hI9 hA9 hfn9 hqb9 e9 HFN2
          cases hg2 : g1.isDn with
          | false =>
            obtain ⟨o1, o2⟩ := ov_gd p 0 1 at_ sh N1 hg2
            replace o1 := Lib.hid o1
            replace o2 := Lib.hid o2
            go_wp2_with (go_at_call 33; refine (over_U _ F2 _ _ HPT9.out 0 false o1 o2).mono ?_; rintro e wv ⟨rfl, hx⟩; have HIV := Lib.hid (HI9.out.ext hx); have HQV := Lib.hid (HQ9.out.ext hx); clear hx)
            exact ⟨⟨i + 1, N1, M1, g1, F2, _, by first | exact congrArg _ e2.out | rfl, by omega, hmu1.out, ⟨HIV.out, HQV.out, HOK.out, hg2, by rw [HWD.out.2]; exact HS5.out⟩⟩, by simp [intOf]; omega⟩
          | true =>
            obtain ⟨xx, rfl⟩ : ∃ xx, g1 = .dn xx := by
              cases g1 with
              | dn xx => exact ⟨xx, rfl⟩
              | ld => cases hg2
              | st z => cases hg2
              | rl z => cases hg2
            obtain ⟨hxe, hae⟩ := aft_dn hdn.out hg1.out
            have hA2 : A = ldA at_ := hA.out.symm.trans (hae p 0 1 at_)
            have eop : A.op = 0 := by rw [hA2]; rfl
            have eat : A.at_ = at_ := by rw [hA2]; rfl
            have hnvx : U xx = nv := by rw [hxe, ← hnv.out]; rfl
            have hsm := HS5.out
            have hsm2 : U xx < 9223372036854775808 := by rw [hxe]; omega
            have hsm3 : U xx < 256 := by rw [hxe]; omega
            have hAb := HA9.out
            rw [eop, eat] at hAb
            obtain ⟨nn, hnn⟩ : ∃ y, Hid (U (xx >>> sh) - 1 = y) := ⟨_, Lib.hid rfl⟩
            have hN : ∀ W, Calls Try.prog 34 #[.int .u64 nv, .int .i64 (sh : Int)] W (Ret (.int .i64 nn) W) := fun W => by
              rw [← hnvx, ← hnn.out]
              exact rnamed_any xx sh hsh2 hsm2 W
            have hY : Hid (ansT kU (gdT p 0 1 at_ sh N1 (.dn xx)) = .int .u64 nv) := Lib.hid (by rw [← hnvx]; rfl)
            have hle : U (xx >>> sh) ≤ U xx := by
              rw [U_toNat, U_toNat, BitVec.toNat_ushiftRight]
              have h := Nat.shiftRight_le xx.toNat sh
              generalize xx.toNat >>> sh = q at h
              omega
            have hge : 0 ≤ U (xx >>> sh) := by rw [U_toNat]; omega
            have hok : xx >>> sh ≠ 0#64 → hzW p M1 1 = xx >>> sh := HOK.out
            have hza := hzW_at HP.out M1 (t := 0) (s := 1) (by omega) (by omega) (by omega) (by omega)
            have hrg := haz_rg HP.out (t := 0) (s := 1) (by omega) (by omega) (by omega) (by omega)
            obtain ⟨hp_, hhp⟩ : ∃ a, Hid (p.hazF 0 1 = a) := ⟨_, Lib.hid rfl⟩
            rw [hhp.out] at hza hrg
            have hr3 := hrg.1
            have hs0 : (0 : Int) < M1.n := by rw [HI9.out.mg.n]; omega
            have hs1 : hp_ < M1.sz (0 : Int).toNat := by show hp_ < (M1.sz 0 : Int); rw [HI9.out.mg.s]; omega
            replace hN := Lib.hid hN
            replace hAb := Lib.hid hAb
            by_cases hz : xx >>> sh = 0#64
            · have hn0 : nn = -1 := by rw [← hnn.out, hz, U_0]; rfl
              subst hn0
              clear hz hok hza hrg hle hge hxe hae hA2 eop eat hnvx hsm hsm2 hsm3 hmu1 HOK
              go_wp2_with (first
                | (go_at_call 33; refine (over_U _ F2 _ _ HPT9.out nv true hY (Lib.hid rfl)).mono ?_; rintro e wv ⟨rfl, hx⟩; have HIV := Lib.hid (HI9.out.ext hx); have HAV := Lib.hid (Blk.ext hAb.out hx); clear hx)
                | (go_at_call 34; refine (hN.out _).mono ?_; rintro e wn ⟨rfl, hx⟩; have HIN := Lib.hid (HIV.out.ext hx); have hAN := Blk.ext HAV.out hx; have z0 := cell_at (o := 0) hAN rfl; have z1 := cell_at (o := 1) hAN rfl; have zl := Blk.lt hAN; simp only [List.getElem_toArray, List.getElem_cons_zero, List.getElem_cons_succ] at z0 z1; replace hAN := Lib.hid hAN; clear hx))
              go_ret
              exact Ret.bool (by simp) HIN.out.ex
            · have hpk : Hid (U (M1.wd (0 : Int).toNat hp_.toNat) = nn + 1) := Lib.hid (by
                have h1 : M1.wd (0 : Int).toNat hp_.toNat = xx >>> sh := hza.trans (hok hz)
                rw [h1]
                have := hnn.out
                omega)
              have hpos : 0 < U (xx >>> sh) := by
                have h0 : U (xx >>> sh) ≠ 0 := fun h => hz (U_inj (h.trans U_0.symm))
                omega
              have hnn0 : 0 ≤ nn := by have := hnn.out; omega
              have hnn1 : nn < 256 := by have := hnn.out; omega
              have hnn2 : ¬ nn < 0 := by omega
              clear hz hok hza hrg hle hge hxe hae hA2 eop eat hnvx hsm hsm2 hsm3 hmu1 HOK hpos
              go_wp2_with (first
                | (go_at_call 33; refine (over_U _ F2 _ _ HPT9.out nv true hY (Lib.hid rfl)).mono ?_; rintro e wv ⟨rfl, hx⟩; have HIV := Lib.hid (HI9.out.ext hx); have HAV := Lib.hid (Blk.ext hAb.out hx); clear hx)
                | (go_at_call 34; refine (hN.out _).mono ?_; rintro e wn ⟨rfl, hx⟩; have HIN := Lib.hid (HIV.out.ext hx); have hAN := Blk.ext HAV.out hx; have z0 := cell_at (o := 0) hAN rfl; have z1 := cell_at (o := 1) hAN rfl; have zl := Blk.lt hAN; simp only [List.getElem_toArray, List.getElem_cons_zero, List.getElem_cons_succ] at z0 z1; replace hAN := Lib.hid hAN; have ⟨c0, c1, c2, c3, c4, c5, lt⟩ := HIN.out.pb.plc; clear hx)
                | (go_at_call 27; refine (hazard_is p 0 1 _ hp_ hhp).mono ?_; rintro e wh ⟨rfl, hx⟩; have HIH := Lib.hid (HIN.out.ext hx); clear hx)
                | (go_at_call 26; refine (peek_int HIH.out.m 0 hp_ (nn + 1) (by omega) hs0 hr3 hs1 hpk).mono ?_; rintro e wk ⟨rfl, hx⟩; have HIK := Lib.hid (HIH.out.ext hx); clear hx))
              go_ret
              exact Ret.bool (by simp) HIK.out.ex
        · simp only [pickL, List.map_cons, List.map_nil, List.getD_cons_zero, List.getD_cons_succ]
          go_wp2_with (go_at_call 21; refine (cap_int HI.out.m 0 1#64 (by omega) (by rw [HI.out.mg.n]; omega) (Lib.hid HI.out.mg.e)).mono ?_; rintro e XC ⟨rfl, hx⟩; refine Hid.out ?_)
          refine Lib.hid ?_
          replace HZ := Lib.hid (HZ.out.ext hx)
          replace HI := Lib.hid (HI.out.ext hx)
          replace HQ := Lib.hid (HQ.out.ext hx)
          replace HA := Lib.hid (HA.out.ext hx)
          replace HK := Lib.hid (HK.out.ext hx)
          replace hsx := Nat.le_trans hsx hx.size
          clear hx
          go_wp2
          refine mixQ_mk (off_of HZ.out) ?_
          refine ways_fork 8 (by kernel_rfl) ?_ (ways_act 4 (by kernel_rfl) ?_)
          · simp only [pickL, List.map_cons, List.map_nil, List.getD_cons_zero, List.getD_cons_succ]
            go_wp2
            have hxa := ext_alloc (.cells #[.int .u64 0, .int .i64 0, .int .i64 0, .int .u64 0, .int .u64 0, .nilFunc, .pointer none] 79) (ext_refl XC)
            replace HZ := Lib.hid (HZ.out.ext hxa)
            replace HI := Lib.hid (HI.out.ext hxa)
            replace HA := Lib.hid (HA.out.ext hxa)
            replace HK := Lib.hid (HK.out.ext hxa)
            replace HQ := Lib.hid (HQ.out.ext hxa)
            have hbx := Lib.hid (heap_at XC (.cells #[.int .u64 0, .int .i64 0, .int .i64 0, .int .u64 0, .int .u64 0, .nilFunc, .pointer none] 79) XC.heap.size rfl)
            have hlx : W7.heap.size ≤ XC.heap.size := hsx
            replace hsx : W7.heap.size ≤ (XC.alloc (.cells #[.int .u64 0, .int .i64 0, .int .i64 0, .int .u64 0, .int .u64 0, .nilFunc, .pointer none] 79)).heap.size := by simp; omega
            clear hxa
            refine mixQ_mk (off_of HZ.out) ?_
            generalize XC.alloc (.cells #[.int .u64 0, .int .i64 0, .int .i64 0, .int .u64 0, .int .u64 0, .nilFunc, .pointer none] 79) = XA at HZ HI hbx hsx HA HK HQ ⊢
            generalize XC.heap.size = bx at hbx hlx ⊢
            refine ways_act 4 (by kernel_rfl) ?_
            simp only [pickL, List.map_cons, List.map_nil, List.getD_cons_zero, List.getD_cons_succ]
            go_wp2_with (go_at_call 32; refine (step_GU HQ.out HI.out.m HGS.out).mono ?_; rintro e XS ⟨v2, F2, rfl, hp, hbn, hsub, hm, hf⟩; refine Hid.out ?_)
            refine Lib.hid ?_
            have hp2 := Lib.hid hp
            have hbn2 := Lib.hid hbn
            have hof2 := Lib.hid (fun j (hj : F2 j) => (hsub j hj).elim (fun h => (HQ.out.of j h)) (fun h => (⟨.inr (Nat.le_trans HI.out.m.top h), fun e => by omega⟩ : (j < lo ∨ hi ≤ j) ∧ j ≠ BQ)))
            have HBO : Hid (∀ j, F2 j → j < XS.heap.size) := Lib.hid hbn
            have hnb : Hid (¬ F2 bx) := Lib.hid (fun h => (hsub _ h).elim (fun h => by have := HQF.out _ h; omega) (fun h => by have := heap_lt hbx.out; omega))
            replace HZ := Lib.hid (HZ.out.trans hf)
            replace HA := Lib.hid (HA.out.fr hf hw6)
            replace HK := Lib.hid (HK.out.fr hf hBQ)
            replace HI := Lib.hid (HI.out.ran hm hf HWD.out.1.mg (by omega) hlo1)
            replace hbx := Lib.hid ((hf.block _ (heap_lt hbx.out) (.inr (Nat.le_trans hwtop hlx))).trans hbx.out)
            replace hsx := Nat.le_trans hsx hf.size
            obtain ⟨y2, a2, fn2, rfl, hfn2⟩ := shU hp
            have HFN2 := Lib.hid hfn2
            clear hf hm hp hbn hsub hfn2 HQ
            go_wp2
            refine mixQ_mk (off_of HZ.out) ?_
            refine ways_reads [5, 6, 7] (by kernel_rfl) ?_
            simp only [pickL, List.map_cons, List.map_nil, List.getD_cons_zero, List.getD_cons_succ]
            repeat (go_big_quiet_step (fail))
            refine wpQuiet_nil ?_
            refine ways_act 9 (by kernel_rfl) ?_
            simp only [pickL, List.map_cons, List.map_nil, List.getD_cons_zero, List.getD_cons_succ]
            obtain ⟨k0, k1, k2, k3, k4, k5, k6, kz, kl⟩ := sev_of hbx.out
            have hB := put7_block (.int .u64 y2) (.int .i64 a2.op) (.int .i64 a2.at_) (.int .u64 (U a2.a)) (.int .u64 (U a2.b)) fn2 (.pointer none) hbx.out
            have hP := hp2.out.agr (Agr.of_put7 (b := bx) (.int .u64 y2) (.int .i64 a2.op) (.int .i64 a2.at_) (.int .u64 (U a2.a)) (.int .u64 (U a2.b)) fn2 (.pointer none) hnb.out)
            have hZZ := put7_frNew (b := bx) (.int .u64 y2) (.int .i64 a2.op) (.int .i64 a2.at_) (.int .u64 (U a2.a)) (.int .u64 (U a2.b)) fn2 (.pointer none) HZ.out hlx
            have hII := HI.out.put7 (b := bx) (.int .u64 y2) (.int .i64 a2.op) (.int .i64 a2.at_) (.int .u64 (U a2.a)) (.int .u64 (U a2.b)) fn2 (.pointer none) (Nat.le_trans hwtop hlx) (by omega) (by omega)
            have hSS : (put7 bx (.int .u64 y2) (.int .i64 a2.op) (.int .i64 a2.at_) (.int .u64 (U a2.a)) (.int .u64 (U a2.b)) fn2 (.pointer none) XS).heap.size = XS.heap.size := put7_size (.int .u64 y2) (.int .i64 a2.op) (.int .i64 a2.at_) (.int .u64 (U a2.a)) (.int .u64 (U a2.b)) fn2 (.pointer none)
            have hO0 := HA.out.put7 (b' := bx) (.int .u64 y2) (.int .i64 a2.op) (.int .i64 a2.at_) (.int .u64 (U a2.a)) (.int .u64 (U a2.b)) fn2 (.pointer none) (by omega)
            have hO1 := HK.out.put7 (b' := bx) (.int .u64 y2) (.int .i64 a2.op) (.int .i64 a2.at_) (.int .u64 (U a2.a)) (.int .u64 (U a2.b)) fn2 (.pointer none) (by omega)
            rw [put7] at hB hP hZZ hII hSS hO0 hO1
            have HY := Lib.hid (And.intro hB (And.intro hP (And.intro hZZ (And.intro hII (And.intro hO0 (And.intro hO1 (hSS)))))))
            have HSW := Lib.hid (And.intro hbn2.out hsx)
            have hsf := store_fn HFN2.out
            clear hB hP hZZ hII hO0 hO1 hSS hp2 HZ HI hbx hbn2 HA HK
            go_wp2
            obtain ⟨hB, hP, hZZ, hII, hO0, hO1, hSS⟩ := HY.out
            obtain ⟨hbn2, hsx2⟩ := HSW.out
            rw [← hSS] at hsx2
            have hbn3 : Bnd F2 _ := hbn2.ext (Nat.le_of_eq hSS.symm)
            clear HY HSW k0 k1 k2 k3 k4 k5 k6 kz kl hSS hsf
            generalize (World.setCell _ (⟨bx, 6, none⟩ : Addr) _) = Y at hB hP hZZ hII hsx2 hbn3 hO0 hO1 ⊢
            refine mixQ_mk (off_of hZZ) ?_
            have HB := Lib.hid hB
            have HPT := Lib.hid hP
            have HZZ := Lib.hid hZZ
            have HI := Lib.hid hII
            have HBN := Lib.hid hbn3
            have HOF := hof2
            have HA := Lib.hid hO0
            have HK := Lib.hid hO1
            clear hB hP hZZ hII hbn3 hof2 hO0 hO1
            refine ways_reads [10] (by kernel_rfl) ?_
            simp only [pickL, List.map_cons, List.map_nil, List.getD_cons_zero, List.getD_cons_succ]
            repeat (go_big_quiet_step (fail))
            refine wpQuiet_nil ?_
            refine ways_end (by kernel_rfl) ?_
            obtain ⟨k0, k1, k2, k3, k4, k5, k6, kz, kl⟩ := sev_of HB.out
            obtain ⟨d0, d1, d2, d3, d4, d5, d6, dz, dl⟩ := sev_of HK.out
            have hsf := store_fn HFN2.out
            have hQ9 := QU.stored HK.out HPT.out HBN.out HOF.out HFN2.out
            have hI9 := HI.out.put7 (b := BQ) (.int .u64 y2) (.int .i64 a2.op) (.int .i64 a2.at_) (.int .u64 (U a2.a)) (.int .u64 (U a2.b)) fn2 (.pointer none) hBQ (by omega) (by omega)
            have hA9 := HA.out.put7 (b' := BQ) (.int .u64 y2) (.int .i64 a2.op) (.int .i64 a2.at_) (.int .u64 (U a2.a)) (.int .u64 (U a2.b)) fn2 (.pointer none) (by omega)
            rw [put7] at hQ9 hI9 hA9
            have HY := Lib.hid (And.intro hQ9 (And.intro hI9 hA9))
            have hlab := HA.out.lt
            clear hQ9 hI9 hA9 HPT HBN HOF HI HA HK HZZ
            go_upto_region 23 with (fail)
            obtain ⟨hQ9, hI9, hA9⟩ := HY.out
            clear HY hsf k0 k1 k2 k3 k4 k5 k6 kz kl d0 d1 d2 d3 d4 d5 d6 dz dl HB
            generalize (World.setCell _ (⟨BQ, 6, none⟩ : Addr) _) = V at hQ9 hI9 hA9 ⊢
            have HQ9 := Lib.hid hQ9
            have HI9 := Lib.hid hI9
            have HA9 := Lib.hid hA9
            obtain ⟨y9, a9, fn9, e9, hfn9, hqb9⟩ := hQ9.box
            obtain ⟨d0, d1, d2, d3, d4, d5, d6, dz, dl⟩ := sev_of hqb9
            have HE9 := Lib.hid e9
            have HPT9 := Lib.hid (by rw [← e9]; exact hQ9.pt : PT kU (gdT p 0 1 at_ sh N1 g1) F2 (.agg #[.int .u64 y9, .int .i64 a9.op, .int .i64 a9.at_, .int .u64 (U a9.a), .int .u64 (U a9.b), fn9, .pointer none]) V)
            clear hQ9 hI9 hA9 hfn9 hqb9 e9 HFN2
            cases hg2 : g1.isDn with
            | false =>
              obtain ⟨o1, o2⟩ := ov_gd p 0 1 at_ sh N1 hg2
              replace o1 := Lib.hid o1
              replace o2 := Lib.hid o2
              go_wp2_with (go_at_call 33; refine (over_U _ F2 _ _ HPT9.out 0 false o1 o2).mono ?_; rintro e wv ⟨rfl, hx⟩; have HIV := Lib.hid (HI9.out.ext hx); have HQV := Lib.hid (HQ9.out.ext hx); clear hx)
              exact ⟨⟨i + 1, N1, M1, g1, F2, _, by first | exact congrArg _ e2.out | rfl, by omega, hmu1.out, ⟨HIV.out, HQV.out, HOK.out, hg2, by rw [HWD.out.2]; exact HS5.out⟩⟩, by simp [intOf]; omega⟩
            | true =>
              obtain ⟨xx, rfl⟩ : ∃ xx, g1 = .dn xx := by
                cases g1 with
                | dn xx => exact ⟨xx, rfl⟩
                | ld => cases hg2
                | st z => cases hg2
                | rl z => cases hg2
              obtain ⟨hxe, hae⟩ := aft_dn hdn.out hg1.out
              have hA2 : A = ldA at_ := hA.out.symm.trans (hae p 0 1 at_)
              have eop : A.op = 0 := by rw [hA2]; rfl
              have eat : A.at_ = at_ := by rw [hA2]; rfl
              have hnvx : U xx = nv := by rw [hxe, ← hnv.out]; rfl
              have hsm := HS5.out
              have hsm2 : U xx < 9223372036854775808 := by rw [hxe]; omega
              have hsm3 : U xx < 256 := by rw [hxe]; omega
              have hAb := HA9.out
              rw [eop, eat] at hAb
              obtain ⟨nn, hnn⟩ : ∃ y, Hid (U (xx >>> sh) - 1 = y) := ⟨_, Lib.hid rfl⟩
              have hN : ∀ W, Calls Try.prog 34 #[.int .u64 nv, .int .i64 (sh : Int)] W (Ret (.int .i64 nn) W) := fun W => by
                rw [← hnvx, ← hnn.out]
                exact rnamed_any xx sh hsh2 hsm2 W
              have hY : Hid (ansT kU (gdT p 0 1 at_ sh N1 (.dn xx)) = .int .u64 nv) := Lib.hid (by rw [← hnvx]; rfl)
              have hle : U (xx >>> sh) ≤ U xx := by
                rw [U_toNat, U_toNat, BitVec.toNat_ushiftRight]
                have h := Nat.shiftRight_le xx.toNat sh
                generalize xx.toNat >>> sh = q at h
                omega
              have hge : 0 ≤ U (xx >>> sh) := by rw [U_toNat]; omega
              have hok : xx >>> sh ≠ 0#64 → hzW p M1 1 = xx >>> sh := HOK.out
              have hza := hzW_at HP.out M1 (t := 0) (s := 1) (by omega) (by omega) (by omega) (by omega)
              have hrg := haz_rg HP.out (t := 0) (s := 1) (by omega) (by omega) (by omega) (by omega)
              obtain ⟨hp_, hhp⟩ : ∃ a, Hid (p.hazF 0 1 = a) := ⟨_, Lib.hid rfl⟩
              rw [hhp.out] at hza hrg
              have hr3 := hrg.1
              have hs0 : (0 : Int) < M1.n := by rw [HI9.out.mg.n]; omega
              have hs1 : hp_ < M1.sz (0 : Int).toNat := by show hp_ < (M1.sz 0 : Int); rw [HI9.out.mg.s]; omega
              replace hN := Lib.hid hN
              replace hAb := Lib.hid hAb
              by_cases hz : xx >>> sh = 0#64
              · have hn0 : nn = -1 := by rw [← hnn.out, hz, U_0]; rfl
                subst hn0
                clear hz hok hza hrg hle hge hxe hae hA2 eop eat hnvx hsm hsm2 hsm3 hmu1 HOK
                go_wp2_with (first
                  | (go_at_call 33; refine (over_U _ F2 _ _ HPT9.out nv true hY (Lib.hid rfl)).mono ?_; rintro e wv ⟨rfl, hx⟩; have HIV := Lib.hid (HI9.out.ext hx); have HAV := Lib.hid (Blk.ext hAb.out hx); clear hx)
                  | (go_at_call 34; refine (hN.out _).mono ?_; rintro e wn ⟨rfl, hx⟩; have HIN := Lib.hid (HIV.out.ext hx); have hAN := Blk.ext HAV.out hx; have z0 := cell_at (o := 0) hAN rfl; have z1 := cell_at (o := 1) hAN rfl; have zl := Blk.lt hAN; simp only [List.getElem_toArray, List.getElem_cons_zero, List.getElem_cons_succ] at z0 z1; replace hAN := Lib.hid hAN; clear hx))
                go_ret
                exact Ret.bool (by simp) HIN.out.ex
              · have hpk : Hid (U (M1.wd (0 : Int).toNat hp_.toNat) = nn + 1) := Lib.hid (by
                  have h1 : M1.wd (0 : Int).toNat hp_.toNat = xx >>> sh := hza.trans (hok hz)
                  rw [h1]
                  have := hnn.out
                  omega)
                have hpos : 0 < U (xx >>> sh) := by
                  have h0 : U (xx >>> sh) ≠ 0 := fun h => hz (U_inj (h.trans U_0.symm))
                  omega
                have hnn0 : 0 ≤ nn := by have := hnn.out; omega
                have hnn1 : nn < 256 := by have := hnn.out; omega
                have hnn2 : ¬ nn < 0 := by omega
                clear hz hok hza hrg hle hge hxe hae hA2 eop eat hnvx hsm hsm2 hsm3 hmu1 HOK hpos
                go_wp2_with (first
                  | (go_at_call 33; refine (over_U _ F2 _ _ HPT9.out nv true hY (Lib.hid rfl)).mono ?_; rintro e wv ⟨rfl, hx⟩; have HIV := Lib.hid (HI9.out.ext hx); have HAV := Lib.hid (Blk.ext hAb.out hx); clear hx)
                  | (go_at_call 34; refine (hN.out _).mono ?_; rintro e wn ⟨rfl, hx⟩; have HIN := Lib.hid (HIV.out.ext hx); have hAN := Blk.ext HAV.out hx; have z0 := cell_at (o := 0) hAN rfl; have z1 := cell_at (o := 1) hAN rfl; have zl := Blk.lt hAN; simp only [List.getElem_toArray, List.getElem_cons_zero, List.getElem_cons_succ] at z0 z1; replace hAN := Lib.hid hAN; have ⟨c0, c1, c2, c3, c4, c5, lt⟩ := HIN.out.pb.plc; clear hx)
                  | (go_at_call 27; refine (hazard_is p 0 1 _ hp_ hhp).mono ?_; rintro e wh ⟨rfl, hx⟩; have HIH := Lib.hid (HIN.out.ext hx); clear hx)
                  | (go_at_call 26; refine (peek_int HIH.out.m 0 hp_ (nn + 1) (by omega) hs0 hr3 hs1 hpk).mono ?_; rintro e wk ⟨rfl, hx⟩; have HIK := Lib.hid (HIH.out.ext hx); clear hx))
                go_ret
                exact Ret.bool (by simp) HIK.out.ex
          · simp only [pickL, List.map_cons, List.map_nil, List.getD_cons_zero, List.getD_cons_succ]
            go_wp2_with (go_at_call 32; refine (step_GU HQ.out HI.out.m HGS.out).mono ?_; rintro e XS ⟨v2, F2, rfl, hp, hbn, hsub, hm, hf⟩; refine Hid.out ?_)
            refine Lib.hid ?_
            have hp2 := Lib.hid hp
            have hbn2 := Lib.hid hbn
            have hof2 := Lib.hid (fun j (hj : F2 j) => (hsub j hj).elim (fun h => (HQ.out.of j h)) (fun h => (⟨.inr (Nat.le_trans HI.out.m.top h), fun e => by omega⟩ : (j < lo ∨ hi ≤ j) ∧ j ≠ BQ)))
            have HBO : Hid (∀ j, F2 j → j < XS.heap.size) := Lib.hid hbn
            replace HZ := Lib.hid (HZ.out.trans hf)
            replace HA := Lib.hid (HA.out.fr hf hw6)
            replace HK := Lib.hid (HK.out.fr hf hBQ)
            replace HI := Lib.hid (HI.out.ran hm hf HWD.out.1.mg (by omega) hlo1)
            replace hsx := Nat.le_trans hsx hf.size
            obtain ⟨y2, a2, fn2, rfl, hfn2⟩ := shU hp
            have HFN2 := Lib.hid hfn2
            clear hf hm hp hbn hsub hfn2 HQ
            go_wp2
            refine mixQ_mk (off_of HZ.out) ?_
            refine ways_reads [5, 6, 7] (by kernel_rfl) ?_
            simp only [pickL, List.map_cons, List.map_nil, List.getD_cons_zero, List.getD_cons_succ]
            repeat (go_big_quiet_step (fail))
            refine wpQuiet_nil ?_
            refine ways_act 8 (by kernel_rfl) ?_
            simp only [pickL, List.map_cons, List.map_nil, List.getD_cons_zero, List.getD_cons_succ]
            go_wp2
            have hxa := ext_alloc (.cells #[.int .u64 0, .int .i64 0, .int .i64 0, .int .u64 0, .int .u64 0, .nilFunc, .pointer none] 79) (ext_refl XS)
            replace HZ := Lib.hid (HZ.out.ext hxa)
            replace HI := Lib.hid (HI.out.ext hxa)
            replace HA := Lib.hid (HA.out.ext hxa)
            replace HK := Lib.hid (HK.out.ext hxa)
            replace hp2 := Lib.hid (hp2.out.agr (Agr.of_ext hxa hbn2.out))
            replace hbn2 := Lib.hid (hbn2.out.ext hxa.size)
            have hbx := Lib.hid (heap_at XS (.cells #[.int .u64 0, .int .i64 0, .int .i64 0, .int .u64 0, .int .u64 0, .nilFunc, .pointer none] 79) XS.heap.size rfl)
            have hlx : W7.heap.size ≤ XS.heap.size := hsx
            replace hsx : W7.heap.size ≤ (XS.alloc (.cells #[.int .u64 0, .int .i64 0, .int .i64 0, .int .u64 0, .int .u64 0, .nilFunc, .pointer none] 79)).heap.size := by simp; omega
            have hnb : Hid (¬ F2 XS.heap.size) := Lib.hid (fun h => by have := HBO.out _ h; omega)
            clear hxa
            refine mixQ_mk (off_of HZ.out) ?_
            generalize XS.alloc (.cells #[.int .u64 0, .int .i64 0, .int .i64 0, .int .u64 0, .int .u64 0, .nilFunc, .pointer none] 79) = XA at HZ HI hbx hsx HA HK hp2 hbn2 ⊢
            generalize XS.heap.size = bx at hbx hlx hnb ⊢
            refine ways_act 9 (by kernel_rfl) ?_
            simp only [pickL, List.map_cons, List.map_nil, List.getD_cons_zero, List.getD_cons_succ]
            obtain ⟨k0, k1, k2, k3, k4, k5, k6, kz, kl⟩ := sev_of hbx.out
            have hB := put7_block (.int .u64 y2) (.int .i64 a2.op) (.int .i64 a2.at_) (.int .u64 (U a2.a)) (.int .u64 (U a2.b)) fn2 (.pointer none) hbx.out
            have hP := hp2.out.agr (Agr.of_put7 (b := bx) (.int .u64 y2) (.int .i64 a2.op) (.int .i64 a2.at_) (.int .u64 (U a2.a)) (.int .u64 (U a2.b)) fn2 (.pointer none) hnb.out)
            have hZZ := put7_frNew (b := bx) (.int .u64 y2) (.int .i64 a2.op) (.int .i64 a2.at_) (.int .u64 (U a2.a)) (.int .u64 (U a2.b)) fn2 (.pointer none) HZ.out hlx
            have hII := HI.out.put7 (b := bx) (.int .u64 y2) (.int .i64 a2.op) (.int .i64 a2.at_) (.int .u64 (U a2.a)) (.int .u64 (U a2.b)) fn2 (.pointer none) (Nat.le_trans hwtop hlx) (by omega) (by omega)
            have hSS : (put7 bx (.int .u64 y2) (.int .i64 a2.op) (.int .i64 a2.at_) (.int .u64 (U a2.a)) (.int .u64 (U a2.b)) fn2 (.pointer none) XA).heap.size = XA.heap.size := put7_size (.int .u64 y2) (.int .i64 a2.op) (.int .i64 a2.at_) (.int .u64 (U a2.a)) (.int .u64 (U a2.b)) fn2 (.pointer none)
            have hO0 := HA.out.put7 (b' := bx) (.int .u64 y2) (.int .i64 a2.op) (.int .i64 a2.at_) (.int .u64 (U a2.a)) (.int .u64 (U a2.b)) fn2 (.pointer none) (by omega)
            have hO1 := HK.out.put7 (b' := bx) (.int .u64 y2) (.int .i64 a2.op) (.int .i64 a2.at_) (.int .u64 (U a2.a)) (.int .u64 (U a2.b)) fn2 (.pointer none) (by omega)
            rw [put7] at hB hP hZZ hII hSS hO0 hO1
            have HY := Lib.hid (And.intro hB (And.intro hP (And.intro hZZ (And.intro hII (And.intro hO0 (And.intro hO1 (hSS)))))))
            have HSW := Lib.hid (And.intro hbn2.out hsx)
            have hsf := store_fn HFN2.out
            clear hB hP hZZ hII hO0 hO1 hSS hp2 HZ HI hbx hbn2 HA HK
            go_wp2
            obtain ⟨hB, hP, hZZ, hII, hO0, hO1, hSS⟩ := HY.out
            obtain ⟨hbn2, hsx2⟩ := HSW.out
            rw [← hSS] at hsx2
            have hbn3 : Bnd F2 _ := hbn2.ext (Nat.le_of_eq hSS.symm)
            clear HY HSW k0 k1 k2 k3 k4 k5 k6 kz kl hSS hsf
            generalize (World.setCell _ (⟨bx, 6, none⟩ : Addr) _) = Y at hB hP hZZ hII hsx2 hbn3 hO0 hO1 ⊢
            refine mixQ_mk (off_of hZZ) ?_
            have HB := Lib.hid hB
            have HPT := Lib.hid hP
            have HZZ := Lib.hid hZZ
            have HI := Lib.hid hII
            have HBN := Lib.hid hbn3
            have HOF := hof2
            have HA := Lib.hid hO0
            have HK := Lib.hid hO1
            clear hB hP hZZ hII hbn3 hof2 hO0 hO1
            refine ways_reads [10] (by kernel_rfl) ?_
            simp only [pickL, List.map_cons, List.map_nil, List.getD_cons_zero, List.getD_cons_succ]
            repeat (go_big_quiet_step (fail))
            refine wpQuiet_nil ?_
            refine ways_end (by kernel_rfl) ?_
            obtain ⟨k0, k1, k2, k3, k4, k5, k6, kz, kl⟩ := sev_of HB.out
            obtain ⟨d0, d1, d2, d3, d4, d5, d6, dz, dl⟩ := sev_of HK.out
            have hsf := store_fn HFN2.out
            have hQ9 := QU.stored HK.out HPT.out HBN.out HOF.out HFN2.out
            have hI9 := HI.out.put7 (b := BQ) (.int .u64 y2) (.int .i64 a2.op) (.int .i64 a2.at_) (.int .u64 (U a2.a)) (.int .u64 (U a2.b)) fn2 (.pointer none) hBQ (by omega) (by omega)
            have hA9 := HA.out.put7 (b' := BQ) (.int .u64 y2) (.int .i64 a2.op) (.int .i64 a2.at_) (.int .u64 (U a2.a)) (.int .u64 (U a2.b)) fn2 (.pointer none) (by omega)
            rw [put7] at hQ9 hI9 hA9
            have HY := Lib.hid (And.intro hQ9 (And.intro hI9 hA9))
            have hlab := HA.out.lt
            clear hQ9 hI9 hA9 HPT HBN HOF HI HA HK HZZ
            go_upto_region 23 with (fail)
            obtain ⟨hQ9, hI9, hA9⟩ := HY.out
            clear HY hsf k0 k1 k2 k3 k4 k5 k6 kz kl d0 d1 d2 d3 d4 d5 d6 dz dl HB
            generalize (World.setCell _ (⟨BQ, 6, none⟩ : Addr) _) = V at hQ9 hI9 hA9 ⊢
            have HQ9 := Lib.hid hQ9
            have HI9 := Lib.hid hI9
            have HA9 := Lib.hid hA9
            obtain ⟨y9, a9, fn9, e9, hfn9, hqb9⟩ := hQ9.box
            obtain ⟨d0, d1, d2, d3, d4, d5, d6, dz, dl⟩ := sev_of hqb9
            have HE9 := Lib.hid e9
            have HPT9 := Lib.hid (by rw [← e9]; exact hQ9.pt : PT kU (gdT p 0 1 at_ sh N1 g1) F2 (.agg #[.int .u64 y9, .int .i64 a9.op, .int .i64 a9.at_, .int .u64 (U a9.a), .int .u64 (U a9.b), fn9, .pointer none]) V)
            clear hQ9 hI9 hA9 hfn9 hqb9 e9 HFN2
            cases hg2 : g1.isDn with
            | false =>
              obtain ⟨o1, o2⟩ := ov_gd p 0 1 at_ sh N1 hg2
              replace o1 := Lib.hid o1
              replace o2 := Lib.hid o2
              go_wp2_with (go_at_call 33; refine (over_U _ F2 _ _ HPT9.out 0 false o1 o2).mono ?_; rintro e wv ⟨rfl, hx⟩; have HIV := Lib.hid (HI9.out.ext hx); have HQV := Lib.hid (HQ9.out.ext hx); clear hx)
              exact ⟨⟨i + 1, N1, M1, g1, F2, _, by first | exact congrArg _ e2.out | rfl, by omega, hmu1.out, ⟨HIV.out, HQV.out, HOK.out, hg2, by rw [HWD.out.2]; exact HS5.out⟩⟩, by simp [intOf]; omega⟩
            | true =>
              obtain ⟨xx, rfl⟩ : ∃ xx, g1 = .dn xx := by
                cases g1 with
                | dn xx => exact ⟨xx, rfl⟩
                | ld => cases hg2
                | st z => cases hg2
                | rl z => cases hg2
              obtain ⟨hxe, hae⟩ := aft_dn hdn.out hg1.out
              have hA2 : A = ldA at_ := hA.out.symm.trans (hae p 0 1 at_)
              have eop : A.op = 0 := by rw [hA2]; rfl
              have eat : A.at_ = at_ := by rw [hA2]; rfl
              have hnvx : U xx = nv := by rw [hxe, ← hnv.out]; rfl
              have hsm := HS5.out
              have hsm2 : U xx < 9223372036854775808 := by rw [hxe]; omega
              have hsm3 : U xx < 256 := by rw [hxe]; omega
              have hAb := HA9.out
              rw [eop, eat] at hAb
              obtain ⟨nn, hnn⟩ : ∃ y, Hid (U (xx >>> sh) - 1 = y) := ⟨_, Lib.hid rfl⟩
              have hN : ∀ W, Calls Try.prog 34 #[.int .u64 nv, .int .i64 (sh : Int)] W (Ret (.int .i64 nn) W) := fun W => by
                rw [← hnvx, ← hnn.out]
                exact rnamed_any xx sh hsh2 hsm2 W
              have hY : Hid (ansT kU (gdT p 0 1 at_ sh N1 (.dn xx)) = .int .u64 nv) := Lib.hid (by rw [← hnvx]; rfl)
              have hle : U (xx >>> sh) ≤ U xx := by
                rw [U_toNat, U_toNat, BitVec.toNat_ushiftRight]
                have h := Nat.shiftRight_le xx.toNat sh
                generalize xx.toNat >>> sh = q at h
                omega
              have hge : 0 ≤ U (xx >>> sh) := by rw [U_toNat]; omega
              have hok : xx >>> sh ≠ 0#64 → hzW p M1 1 = xx >>> sh := HOK.out
              have hza := hzW_at HP.out M1 (t := 0) (s := 1) (by omega) (by omega) (by omega) (by omega)
              have hrg := haz_rg HP.out (t := 0) (s := 1) (by omega) (by omega) (by omega) (by omega)
              obtain ⟨hp_, hhp⟩ : ∃ a, Hid (p.hazF 0 1 = a) := ⟨_, Lib.hid rfl⟩
              rw [hhp.out] at hza hrg
              have hr3 := hrg.1
              have hs0 : (0 : Int) < M1.n := by rw [HI9.out.mg.n]; omega
              have hs1 : hp_ < M1.sz (0 : Int).toNat := by show hp_ < (M1.sz 0 : Int); rw [HI9.out.mg.s]; omega
              replace hN := Lib.hid hN
              replace hAb := Lib.hid hAb
              by_cases hz : xx >>> sh = 0#64
              · have hn0 : nn = -1 := by rw [← hnn.out, hz, U_0]; rfl
                subst hn0
                clear hz hok hza hrg hle hge hxe hae hA2 eop eat hnvx hsm hsm2 hsm3 hmu1 HOK
                go_wp2_with (first
                  | (go_at_call 33; refine (over_U _ F2 _ _ HPT9.out nv true hY (Lib.hid rfl)).mono ?_; rintro e wv ⟨rfl, hx⟩; have HIV := Lib.hid (HI9.out.ext hx); have HAV := Lib.hid (Blk.ext hAb.out hx); clear hx)
                  | (go_at_call 34; refine (hN.out _).mono ?_; rintro e wn ⟨rfl, hx⟩; have HIN := Lib.hid (HIV.out.ext hx); have hAN := Blk.ext HAV.out hx; have z0 := cell_at (o := 0) hAN rfl; have z1 := cell_at (o := 1) hAN rfl; have zl := Blk.lt hAN; simp only [List.getElem_toArray, List.getElem_cons_zero, List.getElem_cons_succ] at z0 z1; replace hAN := Lib.hid hAN; clear hx))
                go_ret
                exact Ret.bool (by simp) HIN.out.ex
              · have hpk : Hid (U (M1.wd (0 : Int).toNat hp_.toNat) = nn + 1) := Lib.hid (by
                  have h1 : M1.wd (0 : Int).toNat hp_.toNat = xx >>> sh := hza.trans (hok hz)
                  rw [h1]
                  have := hnn.out
                  omega)
                have hpos : 0 < U (xx >>> sh) := by
                  have h0 : U (xx >>> sh) ≠ 0 := fun h => hz (U_inj (h.trans U_0.symm))
                  omega
                have hnn0 : 0 ≤ nn := by have := hnn.out; omega
                have hnn1 : nn < 256 := by have := hnn.out; omega
                have hnn2 : ¬ nn < 0 := by omega
                clear hz hok hza hrg hle hge hxe hae hA2 eop eat hnvx hsm hsm2 hsm3 hmu1 HOK hpos
                go_wp2_with (first
                  | (go_at_call 33; refine (over_U _ F2 _ _ HPT9.out nv true hY (Lib.hid rfl)).mono ?_; rintro e wv ⟨rfl, hx⟩; have HIV := Lib.hid (HI9.out.ext hx); have HAV := Lib.hid (Blk.ext hAb.out hx); clear hx)
                  | (go_at_call 34; refine (hN.out _).mono ?_; rintro e wn ⟨rfl, hx⟩; have HIN := Lib.hid (HIV.out.ext hx); have hAN := Blk.ext HAV.out hx; have z0 := cell_at (o := 0) hAN rfl; have z1 := cell_at (o := 1) hAN rfl; have zl := Blk.lt hAN; simp only [List.getElem_toArray, List.getElem_cons_zero, List.getElem_cons_succ] at z0 z1; replace hAN := Lib.hid hAN; have ⟨c0, c1, c2, c3, c4, c5, lt⟩ := HIN.out.pb.plc; clear hx)
                  | (go_at_call 27; refine (hazard_is p 0 1 _ hp_ hhp).mono ?_; rintro e wh ⟨rfl, hx⟩; have HIH := Lib.hid (HIN.out.ext hx); clear hx)
                  | (go_at_call 26; refine (peek_int HIH.out.m 0 hp_ (nn + 1) (by omega) hs0 hr3 hs1 hpk).mono ?_; rintro e wk ⟨rfl, hx⟩; have HIK := Lib.hid (HIH.out.ext hx); clear hx))
                go_ret
                exact Ret.bool (by simp) HIK.out.ex
end Go.Proofs.Ytkjbfhcgldgkaaa
