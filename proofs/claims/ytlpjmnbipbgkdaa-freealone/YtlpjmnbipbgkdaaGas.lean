/-
  The law FreeAlone, walked. Conditions: those of each theorem.
-/
import Derived.Test.YtlpjmnbipbgkdaaGar
import Derived.Deep.Cut
import Derived.ProofKit
import Derived.OpenShut
import Derived.Lib.SmallJoins
namespace Go.Proofs.Ytlpjmnbipbgkdaa
open Go Go.RowKit

set_option maxRecDepth 8000 in
set_option maxHeartbeats 1000000 in
theorem alone_nofew (p : Pl) (a : Option Addr) (n c : Nat) (hf : ¬ p.few) (w : World) : Calls Try.prog 3 #[plV p, .slice a n c] w (Ret (.bool true) w) := by
  have HFW := Lib.hid hf
  clear hf
  go_enter Try.func3, Try.ntmps3
  go_wp2_with (first
    | (go_at_call 7; refine (fwake_any _).mono ?_; rintro e w' hr; obtain ⟨rfl, s, rfl⟩ := hr.over; clear hr)
    | (go_at_call 8; refine (few_any p _ false (hid_no HFW.out)).mono ?_; rintro e w' hr; obtain ⟨rfl, s, rfl⟩ := hr.over; clear hr))
  go_ret
  exact Ret.mk (by repeat (first | exact ext_refl _ | apply ext_over | apply ext_alloc))
set_option maxRecDepth 8000 in
set_option maxHeartbeats 1000000 in
theorem alone_noform (p : Pl) (a : Option Addr) (n c : Nat) (hf : p.few) (hp : ¬ p.ok) (w : World) : Calls Try.prog 3 #[plV p, .slice a n c] w (Ret (.bool true) w) := by
  have HFW := Lib.hid hf
  clear hf
  have HP := Lib.hid hp
  clear hp
  go_enter Try.func3, Try.ntmps3
  go_wp2_with (first
    | (go_at_call 7; refine (fwake_any _).mono ?_; rintro e w' hr; obtain ⟨rfl, s, rfl⟩ := hr.over; clear hr)
    | (go_at_call 8; refine (few_any p _ true (hid_yes HFW.out)).mono ?_; rintro e w' hr; obtain ⟨rfl, s, rfl⟩ := hr.over; clear hr)
    | (go_at_call 9; refine (rformed_any p _ false (hid_no HP.out)).mono ?_; rintro e w' hr; obtain ⟨rfl, s, rfl⟩ := hr.over; clear hr))
  go_ret
  exact Ret.mk (by repeat (first | exact ext_refl _ | apply ext_over | apply ext_alloc))
set_option maxRecDepth 8000 in
set_option maxHeartbeats 1000000 in
theorem alone_long (p : Pl) (a : Option Addr) (n c : Nat) (hf : p.few) (hp : p.ok) (hn : 60 < n) (w : World) : Calls Try.prog 3 #[plV p, .slice a n c] w (Ret (.bool true) w) := by
  have HFW := Lib.hid hf
  clear hf
  have HP := Lib.hid hp
  clear hp
  have q1 : decide (60 < (n : Int)) = true := by simp; omega
  go_enter Try.func3, Try.ntmps3
  go_wp2_with (first
    | (go_at_call 7; refine (fwake_any _).mono ?_; rintro e w' hr; obtain ⟨rfl, s, rfl⟩ := hr.over; clear hr)
    | (go_at_call 8; refine (few_any p _ true (hid_yes HFW.out)).mono ?_; rintro e w' hr; obtain ⟨rfl, s, rfl⟩ := hr.over; clear hr)
    | (go_at_call 9; refine (rformed_any p _ true (hid_yes HP.out)).mono ?_; rintro e w' hr; obtain ⟨rfl, s, rfl⟩ := hr.over; clear hr))
  go_ret
  exact Ret.mk (by repeat (first | exact ext_refl _ | apply ext_over | apply ext_alloc))
theorem w64r (n : Nat) (h : n ≤ 2000000) : wrap64 ((n : Int) + 1 - 1) = (n : Int) := by
  unfold wrap64
  omega
theorem push_out (p : Pl) : pushT p p.n 3 = .done (-1) := by
  have h : p.nxF p.n = -1 := by
    unfold Pl.nxF
    exact if_neg fun h => by omega
  rw [pushT, if_pos h]
def AloneRel (p : Pl) (lo hi : Nat) (L : Lay) (base : Nat) (w0 : World) (ps : List Bool) (vw vm vi : Value) (wr : World) : Prop :=
  ∃ (i : Nat) (M : MS) (l : List Int) (T : Nat) (mine : List Int), vi = .int .i64 (i : Int) ∧ T ≤ i ∧ i ≤ ps.length ∧ FIn p lo hi L base w0 M l T mine vm wr ∧ IR base vw l wr
set_option maxRecDepth 8000 in
set_option maxHeartbeats 4000000 in
theorem alone_yes (p : Pl) (hf : p.few) (hp : p.ok) (ps : List Bool) (v : Value) (w : World) (hB : Bs w v ps) (hn : ps.length ≤ 60) : Calls Try.prog 3 #[plV p, v] w (Ret (.bool true) w) := by
  have HFW := Lib.hid hf
  have HP := Lib.hid hp
  have HB := Lib.hid hB
  have hn1 : p.n ≤ 1048576 := hp.1.2
  have hn0 : 1 ≤ p.n := hp.1.1
  obtain ⟨a0, cap, rfl, _, _⟩ := hB
  have q1 : decide (60 < (ps.length : Int)) = false := by simp; omega
  clear hf hp
  go_enter Try.func3, Try.ntmps3
  go_wp2_with (first
    | (go_at_call 7; refine (fwake_any _).mono ?_; rintro e w' hr; obtain ⟨rfl, s, rfl⟩ := hr.over; clear hr)
    | (go_at_call 8; refine (few_any p _ true (hid_yes HFW.out)).mono ?_; rintro e w' hr; obtain ⟨rfl, s, rfl⟩ := hr.over; clear hr)
    | (go_at_call 9; refine (rformed_any p _ true (hid_yes HP.out)).mono ?_; rintro e w' hr; obtain ⟨rfl, s, rfl⟩ := hr.over; clear hr)
    | (go_at_call 10; refine Hid.out ?_))
  refine Lib.hid ?_
  refine (laid_any p HP.out _).mono ?_
  rintro e w1 ⟨lo, hi, L, M, rfl, hM, hF, hx, hlo⟩
  have hx1 : Ext (w.alloc (.cells #[.int .i64 p.n, .int .i64 p.t, .int .i64 p.r, .int .i64 p.d, .int .i64 p.b, .int .i64 p.g] 23)) w1 := by
    refine ext_trans ?_ hx
    repeat (first | exact ext_refl _ | apply ext_over)
  have hlo1 : w.heap.size < lo := by
    refine Nat.lt_of_lt_of_le ?_ hlo
    refine Nat.lt_of_lt_of_le (m := (w.alloc (.cells #[.int .i64 p.n, .int .i64 p.t, .int .i64 p.r, .int .i64 p.d, .int .i64 p.b, .int .i64 p.g] 23)).heap.size) (by simp) ?_
    first | exact over_size _ _ | exact Nat.le_trans (over_size _ _) (over_size _ _) | exact Nat.le_trans (over_size _ _) (Nat.le_trans (over_size _ _) (over_size _ _))
  have hb0 : PBox w.heap.size p w1 := (hx1.block _ (by simp)).trans (heap_at w _ _ rfl)
  have HI := Lib.hid (FIn.start hM hF (ext_trans (ext_alloc _ (ext_refl w)) hx1) hb0)
  have hhb := hM.top
  have hwb : w.heap.size < w1.heap.size := heap_lt hb0
  clear hM hF hx hx1 hlo hb0
  obtain ⟨base, hbase⟩ : ∃ b, Hid (w1.heap.size = b) := ⟨_, Lib.hid rfl⟩
  rw [hbase.out] at HI hhb hwb
  have ⟨c0, c1, c2, c3, c4, c5, lt⟩ := HI.out.pb.plc
  go_wp2_with (go_at_call 11; refine (rfresh_any p.n (by omega) hn1 w1).mono ?_; rintro e w2 ⟨vw, rfl, hvw, hx⟩; refine Hid.out ?_)
  refine Lib.hid ?_
  have HW := Lib.hid (hvw.mono (Nat.le_of_eq hbase.out.symm))
  replace HI := Lib.hid (HI.out.ext hx)
  obtain ⟨vwa, vwc, rfl⟩ := hvw.slice
  clear hx hvw c0 c1 c2 c3 c4 c5 lt
  go_wp2
  go_loopw [6, 7, 8] (fun vw vm vi wr => AloneRel p lo hi L base w ps vw vm vi wr) (fun _ _ i _ => (ps.length - intOf i).toNat)
  case atStart => exact ⟨0, M, _, 0, [], rfl, Nat.le_refl _, Nat.zero_le _, HI.out, HW.out⟩
  case round =>
    obtain ⟨i, M, l, T, mine, rfl, hTi, hi60, hR, hW⟩ := hrel
    have HR := Lib.hid hR
    have HWR := Lib.hid hW
    obtain ⟨va, vc, rfl⟩ := hR.ir.slice
    obtain ⟨vb, vd, rfl⟩ := hW.slice
    have ⟨c0, c1, c2, c3, c4, c5, lt⟩ := hR.pb.plc
    have hml : mine.length ≤ 2000000 := by have := hR.ln; omega
    have hll : l.length ≤ 2000000 := by have := hR.ln; omega
    have hi61 : i ≤ 60 := Nat.le_trans hi60 hn
    have hT61 : T ≤ 60 := Nat.le_trans hTi hi61
    have e2 := Lib.hid (w64 i hi61)
    have hT := Lib.hid (t43 T hT61)
    clear hR hW HI HW
    by_cases hlt : i < ps.length
    · obtain ⟨bb, off, rfl, hbl, hcell⟩ := (HB.out.ext HR.out.ex).at hlt
      have hlt' : (i : Int) < ps.length := by omega
      cases hbi : bN ps i with
      | true =>
        rw [hbi] at hcell
        go_wp2_with (go_at_call 13; refine (pop_PT p 3 _).mono ?_; rintro e w2 ⟨v1, F1, rfl, hx2, hp1, hbn1, hsub1⟩; refine Hid.out ?_)
        refine Lib.hid ?_
        have hof1 : ∀ j, F1 j → j < lo ∨ hi ≤ j := fun j hj => (hsub1 j hj).elim (fun h => h.elim) fun h => .inr (by have := HR.out.bs; omega)
        have HR2 := Lib.hid (HR.out.ext hx2)
        have HX2 := Lib.hid hx2
        have HP1 := Lib.hid hp1
        have HBN1 := Lib.hid hbn1
        have HOF1 := Lib.hid hof1
        clear hx2 hp1 hbn1 hsub1 hof1
        go_wp2_with (go_at_call 14; refine (cap_int HR2.out.m 0 1#64 (by omega) (by rw [HR2.out.fl.mg.n]; omega) (Lib.hid HR2.out.fl.mg.e)).mono ?_; rintro e w3 ⟨rfl, hx3⟩; refine Hid.out ?_)
        refine Lib.hid ?_
        have HR3 := Lib.hid (HR2.out.ext hx3)
        have HX3 := Lib.hid (ext_trans HX2.out hx3)
        replace HP1 := Lib.hid (HP1.out.agr (Agr.of_ext hx3 HBN1.out))
        replace HBN1 := Lib.hid (HBN1.out.ext hx3.size)
        clear hx3 HR2
        go_wp2_with (go_at_call 12; refine (runPop p HP.out l T hT.out F1 v1 w3 HR3.out.fl HP1.out HBN1.out HOF1.out HR3.out.m).mono ?_; rintro e w4 ⟨M1, r, k, l1, T1, rfl, hm4, hf4, hl4, hs4, hk4⟩; refine Hid.out ?_)
        refine Lib.hid ?_
        have HS4 := Lib.hid hs4
        have hs23 := HR3.out.m.top
        have HW3 : Hid (IR base (.slice vb l.length vd) l w4) := Lib.hid ((HWR.out.ext HX3.out).fr hf4 hhb)
        clear hs4 HP1 HBN1 HOF1 c0 c1 c2 c3 c4 c5 lt hcell hbi hs23
        rcases HS4.out with ⟨rfl, rfl, rfl, rfl, rfl⟩ | ⟨rfl, rfl, rfl⟩
        · have HN := Lib.hid (HR3.out.none hm4 hf4 hl4 hlo1 hhb)
          clear hm4 hf4 hl4 hk4 HR3 HR
          go_wp2_with (go_at_call 15; refine (rpop_nil _ w4 HW3.out.is).mono ?_; rintro e w5 ⟨rfl, hx5⟩; refine Hid.out ?_)
          refine Lib.hid ?_
          replace HN := Lib.hid (HN.out.ext hx5)
          have HW : Hid (IR base (.slice none 0 0) [] w5) := Lib.hid (IR.nil _ _)
          clear hx5 HW3
          have hll : (([] : List Int)).length ≤ 2000000 := by have := HN.out.ln; first | (simp at this ⊢; omega) | simp
          have ⟨b0, b1, b2, b3, b4, b5, blt⟩ := HN.out.pb.plc
          go_wp2_with (go_at_call 19; refine (flist_any p HP.out (([] : List Int)) (T1) HN.out.fl HN.out.m).mono ?_; rintro e w8 ⟨v8, rfl, hv8, hx8⟩; refine Hid.out ?_)
          refine Lib.hid ?_
          have HV8 := Lib.hid hv8.is
          have HN8 := Lib.hid (HN.out.ext hx8)
          have HW8 := Lib.hid (HW.out.ext hx8)
          obtain ⟨v8a, v8c, rfl⟩ := hv8.slice
          clear hv8 hx8 HN HW b0 b1 b2 b3 b4 b5 blt
          go_wp2_with (go_at_call 18; refine (rsame_yes (([] : List Int)) _ _ w8 hll HV8.out HW8.out.is).mono ?_; rintro e w9 ⟨rfl, hx9⟩; refine Hid.out ?_)
          refine Lib.hid ?_
          have HN9 := Lib.hid (HN8.out.ext hx9)
          have HW9 := Lib.hid (HW8.out.ext hx9)
          clear hx9 HN8 HW8 HV8 hll
          go_wp2
          exact ⟨⟨i + 1, M1, _, T1, _, by first | exact congrArg _ e2.out | rfl, by omega, by omega, by first | exact HN9.out | simpa using HN9.out, by first | exact HW9.out | simpa using HW9.out⟩, by simp [intOf]; omega⟩
        · have hr0 : 0 ≤ r := (HR3.out.fl.rg r (by simp)).1
          have hr1 := (HR3.out.fl.rg r (by simp)).2
          have HF4 := Lib.hid (And.intro hm4 (And.intro hf4 hl4))
          have hbs4 := Nat.le_trans HR3.out.bs hf4.size
          have HIR4 := Lib.hid (HR3.out.ir.fr hf4 hhb)
          clear hm4 hf4 hl4 hk4 HR
          have hl1l : l1.length ≤ 2000000 := by simp at hll; omega
          go_wp2_with (go_at_call 15; refine (rpop_cons r l1 _ w4 hl1l HW3.out.is).mono ?_; rintro e w5 ⟨vq, rfl, hvq, hx5⟩; refine Hid.out ?_)
          refine Lib.hid ?_
          have HVQ := Lib.hid hvq
          obtain ⟨vqa, vqc, rfl⟩ := hvq.slice
          have HX5 := Lib.hid hx5
          have hs5 := hx5.size
          clear hvq hx5
          go_wp2_with (at_builtin; refine wpList_irow rfl (.tmp 97) (.tmp 99) rfl base _ mine rfl (HIR4.out.ext (ext_alloc _ HX5.out)) ⟨w5.heap.size, 0, none⟩ r rfl (newy _ _ _ _ rfl) hml (by simp; omega) ?_; intro v6 w6 hv6 hg6 hn6; refine Hid.out ?_)
          refine Lib.hid ?_
          obtain ⟨hm4, hf4, hl4⟩ := HF4.out
          have hu := ext_alloc (.cells #[.int .i64 r] 3) HX5.out
          have HN := Lib.hid (HR3.out.pop hm4 hf4 hl4 hlo1 hhb hwb hv6 _ hu hg6)
          have HW : Hid (IR base (.slice vqa l1.length vqc) l1 w6) := Lib.hid (((HVQ.out.ext (ext_alloc (.cells #[.int .i64 r] 3) (ext_refl w5))).keep fun g hg => by
            obtain ⟨h1, cur, h2⟩ := (HVQ.out.ext (ext_alloc (.cells #[.int .i64 r] 3) (ext_refl w5))).own hg
            refine hg6.block g (hp_lt h2) fun e => ?_
            obtain ⟨h3, cur', h4⟩ := HIR4.out.own e.symm
            have := hp_lt h4
            omega).mono hbs4)
          obtain ⟨v6a, v6c, rfl⟩ := hv6.slice
          clear hm4 hf4 hl4 HF4 HIR4 HR3 hv6 hg6 hn6 hbs4 HW3 hu HX5 HVQ hs5
          have hll : (l1).length ≤ 2000000 := by have := HN.out.ln; first | (simp at this ⊢; omega) | simp
          have ⟨b0, b1, b2, b3, b4, b5, blt⟩ := HN.out.pb.plc
          go_wp2_with (go_at_call 19; refine (flist_any p HP.out (l1) ((T + 1)) HN.out.fl HN.out.m).mono ?_; rintro e w8 ⟨v8, rfl, hv8, hx8⟩; refine Hid.out ?_)
          refine Lib.hid ?_
          have HV8 := Lib.hid hv8.is
          have HN8 := Lib.hid (HN.out.ext hx8)
          have HW8 := Lib.hid (HW.out.ext hx8)
          obtain ⟨v8a, v8c, rfl⟩ := hv8.slice
          clear hv8 hx8 HN HW b0 b1 b2 b3 b4 b5 blt
          go_wp2_with (go_at_call 18; refine (rsame_yes (l1) _ _ w8 hll HV8.out HW8.out.is).mono ?_; rintro e w9 ⟨rfl, hx9⟩; refine Hid.out ?_)
          refine Lib.hid ?_
          have HN9 := Lib.hid (HN8.out.ext hx9)
          have HW9 := Lib.hid (HW8.out.ext hx9)
          clear hx9 HN8 HW8 HV8 hll
          go_wp2
          exact ⟨⟨i + 1, M1, _, (T + 1), (mine ++ [r]), by first | exact congrArg _ e2.out | rfl, by omega, by omega, by first | exact HN9.out | simpa using HN9.out, by first | exact HW9.out | simpa using HW9.out⟩, by simp [intOf]; omega⟩
      | false =>
        rw [hbi] at hcell
        rcases List.eq_nil_or_concat mine with rfl | ⟨rest, n, rfl⟩
        · have HN := HR
          have HW := HWR
          clear HR HWR
          have hll : (l).length ≤ 2000000 := by have := HN.out.ln; first | (simp at this ⊢; omega) | simp
          have ⟨b0, b1, b2, b3, b4, b5, blt⟩ := HN.out.pb.plc
          go_wp2_with (go_at_call 19; refine (flist_any p HP.out (l) (T) HN.out.fl HN.out.m).mono ?_; rintro e w8 ⟨v8, rfl, hv8, hx8⟩; refine Hid.out ?_)
          refine Lib.hid ?_
          have HV8 := Lib.hid hv8.is
          have HN8 := Lib.hid (HN.out.ext hx8)
          have HW8 := Lib.hid (HW.out.ext hx8)
          obtain ⟨v8a, v8c, rfl⟩ := hv8.slice
          clear hv8 hx8 HN HW b0 b1 b2 b3 b4 b5 blt
          go_wp2_with (go_at_call 18; refine (rsame_yes (l) _ _ w8 hll HV8.out HW8.out.is).mono ?_; rintro e w9 ⟨rfl, hx9⟩; refine Hid.out ?_)
          refine Lib.hid ?_
          have HN9 := Lib.hid (HN8.out.ext hx9)
          have HW9 := Lib.hid (HW8.out.ext hx9)
          clear hx9 HN8 HW8 HV8 hll
          go_wp2
          exact ⟨⟨i + 1, M, _, T, ([] : List Int), by first | exact congrArg _ e2.out | rfl, by omega, by omega, by first | exact HN9.out | simpa using HN9.out, by first | exact HW9.out | simpa using HW9.out⟩, by simp [intOf]; omega⟩
        · rw [List.concat_eq_append] at HR hml ⊢
          obtain ⟨g, off2, cap2, ev, hgl, hgb, hgc, hgd⟩ := HR.out.ir.some (by simp)
          simp only [Value.slice.injEq, true_and] at ev
          obtain ⟨rfl, rfl⟩ := ev
          have hg0 : wr.cell? ⟨g, off2 + rest.length, none⟩ = some (.int .i64 n) := (hgd rest.length (by simp)).trans (by rw [iN_snoc_eq])
          have hgc1 : rest.length + 1 ≤ vc := by simpa using hgc
          have hgc2 : rest.length ≤ vc := by omega
          have hrl : rest.length ≤ 2000000 := by simp at hml; omega
          have hq2 := w64r rest.length hrl
          simp only [List.length_append, List.length_cons, List.length_nil, Nat.zero_add]
          have HIRr := Lib.hid ((by simpa using HR.out.ir : IR base (.slice (some ⟨g, off2, none⟩) (rest.length + 1) vc) (rest ++ [n]) wr).init)
          clear hgd hgc
          go_wp2_with (go_at_call 16; refine (push_PT p n 3 _).mono ?_; rintro e w2 ⟨v1, F1, rfl, hx2, hp1, hbn1, hsub1⟩; refine Hid.out ?_)
          refine Lib.hid ?_
          clear hq2
          have hof1 : ∀ j, F1 j → j < lo ∨ hi ≤ j := fun j hj => (hsub1 j hj).elim (fun h => h.elim) fun h => .inr (Nat.le_trans hhb (Nat.le_trans HR.out.bs h))
          have HX2 := Lib.hid hx2
          have HR2 := Lib.hid (HR.out.ext hx2)
          have HP1 := Lib.hid hp1
          have HBN1 := Lib.hid hbn1
          have HOF1 := Lib.hid hof1
          have HNR := Lib.hid (And.intro (HR.out.rg n (by simp)) (HR.out.notin (n := n) (by simp)))
          clear hx2 hp1 hbn1 hsub1 hof1 c0 c1 c2 c3 c4 c5 lt hcell hbi hg0
          go_wp2_with (go_at_call 14; refine (cap_int HR2.out.m 0 1#64 (by omega) (by rw [HR2.out.fl.mg.n]; omega) (Lib.hid HR2.out.fl.mg.e)).mono ?_; rintro e w3 ⟨rfl, hx3⟩; refine Hid.out ?_)
          refine Lib.hid ?_
          have HX3 := Lib.hid (ext_trans HX2.out hx3)
          have HR3 := Lib.hid (HR2.out.ext hx3)
          replace HP1 := Lib.hid (HP1.out.agr (Agr.of_ext hx3 HBN1.out))
          replace HBN1 := Lib.hid (HBN1.out.ext hx3.size)
          clear hx3 HR2
          go_wp2_with (go_at_call 12; refine (runPush p HP.out n HNR.out.1 l HNR.out.2 T hT.out F1 v1 w3 HR3.out.fl HP1.out HBN1.out HOF1.out HR3.out.m).mono ?_; rintro e w4 ⟨M1, rfl, hm4, hf4, hl4, hk4⟩; refine Hid.out ?_)
          refine Lib.hid ?_
          have HW4 := Lib.hid ((HWR.out.ext HX3.out).fr hf4 hhb)
          have HN4 := Lib.hid (HR3.out.pushLast hm4 hf4 hl4 hlo1 hhb ((HIRr.out.ext HX3.out).fr hf4 hhb))
          clear hm4 hf4 hl4 hk4 HP1 HBN1 HOF1 HX2 HX3 HR3 HR HWR HNR HIRr
          go_wp2_with (go_at_call 17; refine (rpush_any n l _ w4 hll HW4.out.is).mono ?_; rintro e w5 ⟨vq, rfl, hvq, hx5⟩; refine Hid.out ?_)
          refine Lib.hid ?_
          have HW := Lib.hid (hvq.mono HN4.out.bs)
          have HN := Lib.hid (HN4.out.ext hx5)
          obtain ⟨vqa, vqc, rfl⟩ := hvq.slice
          clear hvq hx5 HW4 HN4 hll
          have hll : ((n :: l)).length ≤ 2000000 := by have := HN.out.ln; first | (simp at this ⊢; omega) | simp
          have ⟨b0, b1, b2, b3, b4, b5, blt⟩ := HN.out.pb.plc
          go_wp2_with (go_at_call 19; refine (flist_any p HP.out ((n :: l)) ((T + 1)) HN.out.fl HN.out.m).mono ?_; rintro e w8 ⟨v8, rfl, hv8, hx8⟩; refine Hid.out ?_)
          refine Lib.hid ?_
          have HV8 := Lib.hid hv8.is
          have HN8 := Lib.hid (HN.out.ext hx8)
          have HW8 := Lib.hid (HW.out.ext hx8)
          obtain ⟨v8a, v8c, rfl⟩ := hv8.slice
          clear hv8 hx8 HN HW b0 b1 b2 b3 b4 b5 blt
          go_wp2_with (go_at_call 18; refine (rsame_yes ((n :: l)) _ _ w8 hll HV8.out HW8.out.is).mono ?_; rintro e w9 ⟨rfl, hx9⟩; refine Hid.out ?_)
          refine Lib.hid ?_
          have HN9 := Lib.hid (HN8.out.ext hx9)
          have HW9 := Lib.hid (HW8.out.ext hx9)
          clear hx9 HN8 HW8 HV8 hll
          go_wp2
          exact ⟨⟨i + 1, M1, _, (T + 1), rest, by first | exact congrArg _ e2.out | rfl, by omega, by omega, by first | exact HN9.out | simpa using HN9.out, by first | exact HW9.out | simpa using HW9.out⟩, by simp [intOf]; omega⟩
    · have hie : ps.length = i := by omega
      have hnlt : ¬ (i : Int) < ps.length := by omega
      have hpo := push_out p
      go_wp2_with (go_at_call 16; refine (push_PT p p.n 3 _).mono ?_; rintro e w2 ⟨v1, F1, rfl, hx2, hp1, hbn1, hsub1⟩; refine Hid.out ?_)
      refine Lib.hid ?_
      rw [hpo] at hp1
      have hof1 : ∀ j, F1 j → j < lo ∨ hi ≤ j := fun j hj => (hsub1 j hj).elim (fun h => h.elim) fun h => .inr (Nat.le_trans hhb (Nat.le_trans HR.out.bs h))
      have HR2 := Lib.hid (HR.out.ext hx2)
      have HP1 := Lib.hid hp1
      have HBN1 := Lib.hid hbn1
      have HOF1 := Lib.hid hof1
      clear hx2 hp1 hbn1 hsub1 hof1 hpo c0 c1 c2 c3 c4 c5 lt
      go_wp2_with (go_at_call 14; refine (cap_int HR2.out.m 0 1#64 (by omega) (by rw [HR2.out.fl.mg.n]; omega) (Lib.hid HR2.out.fl.mg.e)).mono ?_; rintro e w3 ⟨rfl, hx3⟩; refine Hid.out ?_)
      refine Lib.hid ?_
      have HR3 := Lib.hid (HR2.out.ext hx3)
      replace HP1 := Lib.hid (HP1.out.agr (Agr.of_ext hx3 HBN1.out))
      replace HBN1 := Lib.hid (HBN1.out.ext hx3.size)
      clear hx3 HR2
      go_wp2_with (go_at_call 12; refine (run_I (.done (-1)) F1 v1 0 1#64 9 w3 (M, 0, .done (-1)) (by omega) rfl HP1.out HBN1.out HOF1.out HR3.out.m).mono ?_; rintro e w4 ⟨rfl, hm4, hf4⟩; refine Hid.out ?_)
      refine Lib.hid ?_
      have HX4 := Lib.hid (hf4.below HR3.out.ex (Nat.le_of_lt hlo1))
      clear hm4 hf4 HP1 HBN1 HOF1 HR3 HR HWR
      simp only [ansT, ovT, kI]
      go_wp2
      go_ret
      exact Ret.mk HX4.out
end Go.Proofs.Ytlpjmnbipbgkdaa

/-
  A law's row, once for all: whoever shows that the call returns true and turns nothing old has the row's post; the arguments read as they did. Conditions: the row names no variable; its result is one bool; its parameters' types can be read.
-/
namespace Go.Proofs.Ytlpjmnbipbgkdaa
open Go Go.ChangeShapes Go.WideShapes Go.ChangeAt Go.RowKit Go.Joins

section
variable {H : Type} {enc : TypeId × Value → H} {P : Program}

/-- What reads in W reads in W' likewise, argument by argument. -/
theorem trodAll_below (hl : laidOutB P = true) {W W' : World} (hb : Below W.heap.size W W') :
    ∀ (ts : List TypeId) (vs : List Value) (ds : List (DataW H)) (ps : List MemPlace), (∀ t ∈ ts, P.readableRec t = true ∧ t < P.types.size) → (∀ x ∈ ps, x.block < W.heap.size) →
      DataW.TrodAll enc P W 0 (fun _ => true) true ts vs ds ps → DataW.TrodAll enc P W' 0 (fun b => decide (b < W.heap.size)) true ts vs ds ps
  | [], vs, ds, ps, _, _, h => by
    obtain ⟨rfl, rfl, rfl⟩ := trodAll_nil h
    exact trodAll_mk0
  | t :: ts, vs, ds, ps, hr, hlt, h => by
    obtain ⟨v, vs', d, ds', p, q, rfl, rfl, rfl, h1, h2⟩ := trodAll_cons h
    exact trodAll_cons_mk (Below.trod hl (hr t (by simp)).1 (hr t (by simp)).2 h1 hb (fun x hx => hlt x (List.mem_append.2 (.inl hx))))
      (trodAll_below hl hb ts vs' ds' q (fun t' ht => hr t' (by simp [ht])) (fun x hx => hlt x (List.mem_append.2 (.inr hx))) h2)

/-- The post of a law's row. -/
theorem law_post {f : Func} {s : ChangeSpec} {apart : Bool} {tb : TypeId} {W W' : World} {args : Array Value} {ds gs : List (DataW H)} {before : List MemPlace}
    (hl : laidOutB P = true) (hr : (f.params.toList.all fun t => P.readableRec t && decide (t < P.types.size)) = true) (hvars : s.vars = []) (hrt : f.resultTypes = #[tb]) (hub : P.underlying tb = some .bool)
    (hW : DataW.Whole enc P f.params.toList s.vars apart W args.toList ds gs before) (hspec : s.fn H (ds ++ gs) = { results := [.lit (.bool true)], args := ds })
    (hb : Below W.heap.size W W') : s.post enc P f apart true false false W args (.bool true) W' := by
  have hr' : ∀ t ∈ f.params.toList, P.readableRec t = true ∧ t < P.types.size := fun t ht => by simpa using List.all_eq_true.1 hr t ht
  have hlt := hW.lt
  have hW2 := hW
  obtain ⟨p, q, hA, hV, rfl, _, _⟩ := hW2
  rw [hvars] at hV
  obtain ⟨rfl, rfl⟩ := trodVars_none hV
  refine ⟨ds, [], p ++ [], [], p, [], hW, ?_, ?_, ?_, hb.frame _, fun h => by cases h⟩
  · rw [hspec, hrt]
    exact trodAll_mk1 (shut_bool hub true)
  · rw [hspec]
    exact trodAll_below hl hb _ _ _ _ hr' (fun x hx => hlt x (List.mem_append.2 (.inl hx))) hA
  · rw [hspec, hvars]
    rfl
end
end Go.Proofs.Ytlpjmnbipbgkdaa
