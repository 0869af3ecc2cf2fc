/-
  The law FreeTags, walked. Conditions: those of each theorem.
-/
import Derived.Test.YtlpjmnbipbgkdaaGaq
import Derived.Deep.Cut
import Derived.ProofKit
import Derived.OpenShut
import Derived.Lib.SmallJoins
namespace Go.Proofs.Ytlpjmnbipbgkdaa
open Go Go.RowKit

set_option maxRecDepth 8000 in
set_option maxHeartbeats 1000000 in
theorem tags_nofew (p : Pl) (a : Option Addr) (n c : Nat) (hf : ¬ p.few) (w : World) : Calls Try.prog 5 #[plV p, .slice a n c] w (Ret (.bool true) w) := by
  have HFW := Lib.hid hf
  clear hf
  go_enter Try.func5, Try.ntmps5
  go_wp2_with (first
    | (go_at_call 7; refine (fwake_any _).mono ?_; rintro e w' hr; obtain ⟨rfl, s, rfl⟩ := hr.over; clear hr)
    | (go_at_call 8; refine (few_any p _ false (hid_no HFW.out)).mono ?_; rintro e w' hr; obtain ⟨rfl, s, rfl⟩ := hr.over; clear hr))
  go_ret
  exact Ret.mk (by repeat (first | exact ext_refl _ | apply ext_over | apply ext_alloc))
set_option maxRecDepth 8000 in
set_option maxHeartbeats 1000000 in
theorem tags_noform (p : Pl) (a : Option Addr) (n c : Nat) (hf : p.few) (hp : ¬ p.ok) (w : World) : Calls Try.prog 5 #[plV p, .slice a n c] w (Ret (.bool true) w) := by
  have HFW := Lib.hid hf
  clear hf
  have HP := Lib.hid hp
  clear hp
  go_enter Try.func5, Try.ntmps5
  go_wp2_with (first
    | (go_at_call 7; refine (fwake_any _).mono ?_; rintro e w' hr; obtain ⟨rfl, s, rfl⟩ := hr.over; clear hr)
    | (go_at_call 8; refine (few_any p _ true (hid_yes HFW.out)).mono ?_; rintro e w' hr; obtain ⟨rfl, s, rfl⟩ := hr.over; clear hr)
    | (go_at_call 9; refine (rformed_any p _ false (hid_no HP.out)).mono ?_; rintro e w' hr; obtain ⟨rfl, s, rfl⟩ := hr.over; clear hr))
  go_ret
  exact Ret.mk (by repeat (first | exact ext_refl _ | apply ext_over | apply ext_alloc))
set_option maxRecDepth 8000 in
set_option maxHeartbeats 1000000 in
theorem tags_long (p : Pl) (a : Option Addr) (n c : Nat) (hf : p.few) (hp : p.ok) (hn : 60 < n) (w : World) : Calls Try.prog 5 #[plV p, .slice a n c] w (Ret (.bool true) w) := by
  have HFW := Lib.hid hf
  clear hf
  have HP := Lib.hid hp
  clear hp
  have q1 : decide (60 < (n : Int)) = true := by simp; omega
  go_enter Try.func5, Try.ntmps5
  go_wp2_with (first
    | (go_at_call 7; refine (fwake_any _).mono ?_; rintro e w' hr; obtain ⟨rfl, s, rfl⟩ := hr.over; clear hr)
    | (go_at_call 8; refine (few_any p _ true (hid_yes HFW.out)).mono ?_; rintro e w' hr; obtain ⟨rfl, s, rfl⟩ := hr.over; clear hr)
    | (go_at_call 9; refine (rformed_any p _ true (hid_yes HP.out)).mono ?_; rintro e w' hr; obtain ⟨rfl, s, rfl⟩ := hr.over; clear hr))
  go_ret
  exact Ret.mk (by repeat (first | exact ext_refl _ | apply ext_over | apply ext_alloc))
theorem w64 (n : Nat) (h : n ≤ 60) : wrap64 ((n : Int) + 1) = ((n + 1 : Nat) : Int) := by
  unfold wrap64
  omega
theorem t43 (n : Nat) (h : n ≤ 60) : n < 8796093022207 := by omega
def TagRel (p : Pl) (lo hi : Nat) (L : Lay) (base : Nat) (w0 : World) (ps : List Bool) (vd vm vi : Value) (wr : World) : Prop :=
  ∃ (i : Nat) (M : MS) (l : List Int) (T : Nat) (mine : List Int), vd = .int .i64 (T : Int) ∧ vi = .int .i64 (i : Int) ∧ T ≤ i ∧ i ≤ ps.length ∧ FIn p lo hi L base w0 M l T mine vm wr
set_option maxRecDepth 8000 in
set_option maxHeartbeats 4000000 in
theorem tags_yes (p : Pl) (hf : p.few) (hp : p.ok) (ps : List Bool) (v : Value) (w : World) (hB : Bs w v ps) (hn : ps.length ≤ 60) : Calls Try.prog 5 #[plV p, v] w (Ret (.bool true) w) := by
  have HFW := Lib.hid hf
  have HP := Lib.hid hp
  have HB := Lib.hid hB
  have hn1 : p.n ≤ 1048576 := hp.1.2
  have hn0 : 1 ≤ p.n := hp.1.1
  obtain ⟨a0, cap, rfl, _, _⟩ := hB
  have q1 : decide (60 < (ps.length : Int)) = false := by simp; omega
  clear hf hp
  go_enter Try.func5, Try.ntmps5
  go_wp2_with (first
    | (go_at_call 7; refine (fwake_any _).mono ?_; rintro e w' hr; obtain ⟨rfl, s, rfl⟩ := hr.over; clear hr)
    | (go_at_call 8; refine (few_any p _ true (hid_yes HFW.out)).mono ?_; rintro e w' hr; obtain ⟨rfl, s, rfl⟩ := hr.over; clear hr)
    | (go_at_call 9; refine (rformed_any p _ true (hid_yes HP.out)).mono ?_; rintro e w' hr; obtain ⟨rfl, s, rfl⟩ := hr.over; clear hr)
    | (go_at_call 10; refine Hid.out ?_))
  refine Lib.hid ?_
  refine (laid_any p HP.out _).mono ?_
  rintro e w1 ⟨lo, hi, L, M, rfl, hM, hF, hx, hlo⟩
  have hx1 : Ext (w.alloc (.cells #[.int .i64 p.n, .int .i64 p.t, .int .i64 p.r, .int .i64 p.d, .int .i64 p.b, .int .i64 p.g] 23)) w1 := by
    refine ext_trans ?_ hx
    repeat (first | exact ext_refl _ | apply ext_over)
  have hlo1 : w.heap.size < lo := by
    refine Nat.lt_of_lt_of_le ?_ hlo
    refine Nat.lt_of_lt_of_le (m := (w.alloc (.cells #[.int .i64 p.n, .int .i64 p.t, .int .i64 p.r, .int .i64 p.d, .int .i64 p.b, .int .i64 p.g] 23)).heap.size) (by simp) ?_
    first | exact over_size _ _ | exact Nat.le_trans (over_size _ _) (over_size _ _) | exact Nat.le_trans (over_size _ _) (Nat.le_trans (over_size _ _) (over_size _ _))
  have hb0 : PBox w.heap.size p w1 := (hx1.block _ (by simp)).trans (heap_at w _ _ rfl)
  have HI := Lib.hid (FIn.start hM hF (ext_trans (ext_alloc _ (ext_refl w)) hx1) hb0)
  have hhb := hM.top
  have hwb : w.heap.size < w1.heap.size := heap_lt hb0
  clear hM hF hx hx1 hlo hb0
  obtain ⟨base, hbase⟩ : ∃ b, Hid (w1.heap.size = b) := ⟨_, Lib.hid rfl⟩
  rw [hbase.out] at HI hhb hwb
  go_wp2
  go_loopw [6, 7, 8] (fun vd vm vi wr => TagRel p lo hi L base w ps vd vm vi wr) (fun _ _ i _ => (ps.length - intOf i).toNat)
  case atStart => exact ⟨0, M, _, 0, [], rfl, rfl, Nat.le_refl _, Nat.zero_le _, HI.out⟩
  case round =>
    obtain ⟨i, M, l, T, mine, rfl, rfl, hTi, hi60, hR⟩ := hrel
    have HR := Lib.hid hR
    obtain ⟨va, vc, rfl⟩ := hR.ir.slice
    have ⟨c0, c1, c2, c3, c4, c5, lt⟩ := hR.pb.plc
    have hml : mine.length ≤ 2000000 := by have := hR.ln; omega
    have hi61 : i ≤ 60 := Nat.le_trans hi60 hn
    have hT61 : T ≤ 60 := Nat.le_trans hTi hi61
    have e1 := Lib.hid (w64 T hT61)
    have e2 := Lib.hid (w64 i hi61)
    have hT := Lib.hid (t43 T hT61)
    clear hR HI
    by_cases hlt : i < ps.length
    · obtain ⟨bb, off, rfl, hbl, hcell⟩ := (HB.out.ext HR.out.ex).at hlt
      have hlt' : (i : Int) < ps.length := by omega
      cases hbi : bN ps i with
      | true =>
        rw [hbi] at hcell
        go_wp2_with (go_at_call 13; refine (pop_PT p 3 _).mono ?_; rintro e w2 ⟨v1, F1, rfl, hx2, hp1, hbn1, hsub1⟩; refine Hid.out ?_)
        refine Lib.hid ?_
        have hof1 : ∀ j, F1 j → j < lo ∨ hi ≤ j := fun j hj => (hsub1 j hj).elim (fun h => h.elim) fun h => .inr (by have := HR.out.bs; omega)
        have HR2 := Lib.hid (HR.out.ext hx2)
        have HP1 := Lib.hid hp1
        have HBN1 := Lib.hid hbn1
        have HOF1 := Lib.hid hof1
        clear hx2 hp1 hbn1 hsub1 hof1
        go_wp2_with (go_at_call 14; refine (cap_int HR2.out.m 0 1#64 (by omega) (by rw [HR2.out.fl.mg.n]; omega) (Lib.hid HR2.out.fl.mg.e)).mono ?_; rintro e w3 ⟨rfl, hx3⟩; refine Hid.out ?_)
        refine Lib.hid ?_
        have HR3 := Lib.hid (HR2.out.ext hx3)
        replace HP1 := Lib.hid (HP1.out.agr (Agr.of_ext hx3 HBN1.out))
        replace HBN1 := Lib.hid (HBN1.out.ext hx3.size)
        clear hx3 HR2
        go_wp2_with (go_at_call 12; refine (runPop p HP.out l T hT.out F1 v1 w3 HR3.out.fl HP1.out HBN1.out HOF1.out HR3.out.m).mono ?_; rintro e w4 ⟨M1, r, k, l1, T1, rfl, hm4, hf4, hl4, hs4, hk4⟩; refine Hid.out ?_)
        refine Lib.hid ?_
        have HS4 := Lib.hid hs4
        clear hs4 HP1 HBN1 HOF1 c0 c1 c2 c3 c4 c5 lt hcell hbi
        rcases HS4.out with ⟨rfl, rfl, rfl, rfl, rfl⟩ | ⟨rfl, rfl, rfl⟩
        · have HN := Lib.hid (HR3.out.none hm4 hf4 hl4 hlo1 hhb)
          clear hm4 hf4 hl4 hk4 HR3 HR
          go_wp2
          exact ⟨⟨i + 1, M1, _, T1, _, rfl, by first | exact congrArg _ e2.out | rfl, by omega, by omega, HN.out⟩, by simp [intOf]; omega⟩
        · have hr0 : 0 ≤ r := (HR3.out.fl.rg r (by simp)).1
          have hr1 := (HR3.out.fl.rg r (by simp)).2
          have HF4 := Lib.hid (And.intro hm4 (And.intro hf4 hl4))
          have hbs4 := Nat.le_trans HR3.out.bs hf4.size
          have HIR4 := Lib.hid (HR3.out.ir.fr hf4 hhb)
          clear hm4 hf4 hl4 hk4 HR
          go_wp2_with (at_builtin; refine wpList_irow rfl (.tmp 57) (.tmp 59) rfl base _ mine rfl (HIR4.out.ext (ext_alloc _ (ext_refl w4))) ⟨w4.heap.size, 0, none⟩ r rfl (newy _ _ _ _ rfl) hml (by simp; omega) ?_; intro v5 w5 hv5 hg5 hn5; refine Hid.out ?_)
          refine Lib.hid ?_
          obtain ⟨hm4, hf4, hl4⟩ := HF4.out
          have HN := Lib.hid (HR3.out.pop hm4 hf4 hl4 hlo1 hhb hwb hv5 _ (ext_alloc (.cells #[.int .i64 r] 3) (ext_refl w4)) hg5)
          obtain ⟨v5a, v5c, rfl⟩ := hv5.slice
          clear hm4 hf4 hl4 HF4 HIR4 HR3 hv5 hg5 hn5 hbs4
          go_wp2
          exact ⟨⟨i + 1, M1, l1, T + 1, mine ++ [r], by first | exact congrArg _ e1.out | rfl, by first | exact congrArg _ e2.out | rfl, by omega, by omega, by simpa using HN.out⟩, by simp [intOf]; omega⟩
      | false =>
        rw [hbi] at hcell
        cases mine with
        | nil =>
          go_wp2
          exact ⟨⟨i + 1, M, l, T, [], rfl, by first | exact congrArg _ e2.out | rfl, by omega, by omega, HR.out⟩, by simp [intOf]; omega⟩
        | cons n rest =>
          obtain ⟨g, off2, cap2, ev, hgl, hgb, hgc, hgd⟩ := HR.out.ir.some (by simp)
          simp only [Value.slice.injEq, true_and] at ev
          obtain ⟨rfl, rfl⟩ := ev
          have hg0 : wr.cell? ⟨g, off2, none⟩ = some (.int .i64 n) := hgd 0 (by simp)
          clear hgd
          go_wp2
          refine wp_region_mix (fun w' => ∃ s, w' = over wr s) [(0, [0, 1, 2, 3, 5, 6]), (1, [4]), (1, [7]), (2, [8])] (by kernel_rfl) (by kernel_rfl) (over_of (ext_drew (ext_refl wr))) ?_
          simp only [pieces, pickL, List.map_cons, List.map_nil, List.getD_cons_zero, List.getD_cons_succ]
          refine mix_reads ?_
          repeat (go_big_quiet_step (fail))
          refine wpQuiet_nil (mix_acts ?_)
          have hnR : InR p n := HR.out.rg n (by simp)
          have hnL : n ∉ l := HR.out.notin (by simp)
          have HNR := Lib.hid (And.intro hnR hnL)
          clear hnR hnL
          have HX0 := Lib.hid (ext_drew (ext_refl wr))
          go_wp2_with (go_at_call 16; refine (push_PT p n 3 _).mono ?_; rintro e w2 ⟨v1, F1, rfl, hx2, hp1, hbn1, hsub1⟩; refine Hid.out ?_)
          refine Lib.hid ?_
          have hof1 : ∀ j, F1 j → j < lo ∨ hi ≤ j := fun j hj => (hsub1 j hj).elim (fun h => h.elim) fun h => .inr (Nat.le_trans hhb (Nat.le_trans HR.out.bs h))
          have HX2 := Lib.hid (ext_trans HX0.out hx2)
          have HR2 := Lib.hid (HR.out.ext HX2.out)
          have HP1 := Lib.hid hp1
          have HBN1 := Lib.hid hbn1
          have HOF1 := Lib.hid hof1
          clear hx2 hp1 hbn1 hsub1 hof1
          go_wp2
          refine mixQ_mk (over_of HX2.out) (mix_acts ?_)
          go_wp2_with (go_at_call 14; refine (cap_int HR2.out.m 0 1#64 (by omega) (by rw [HR2.out.fl.mg.n]; omega) (Lib.hid HR2.out.fl.mg.e)).mono ?_; rintro e w3 ⟨rfl, hx3⟩; refine Hid.out ?_)
          refine Lib.hid ?_
          have HX3 := Lib.hid (ext_trans HX2.out hx3)
          have HR3 := Lib.hid (HR2.out.ext hx3)
          replace HP1 := Lib.hid (HP1.out.agr (Agr.of_ext hx3 HBN1.out))
          replace HBN1 := Lib.hid (HBN1.out.ext hx3.size)
          clear hx3 HR2
          go_wp2
          refine mixQ_mk (over_of HX3.out) (mix_late ?_)
          go_wp2_with (go_at_call 12; refine (runPush p HP.out n HNR.out.1 l HNR.out.2 T hT.out F1 v1 w3 HR3.out.fl HP1.out HBN1.out HOF1.out HR3.out.m).mono ?_; rintro e w4 ⟨M1, rfl, hm4, hf4, hl4, hk4⟩; refine Hid.out ?_)
          refine Lib.hid ?_
          have HF4 := Lib.hid (And.intro hm4 (And.intro hf4 (And.intro hl4 hk4)))
          have HIR4 := Lib.hid (HR3.out.ir.fr hf4 hhb)
          clear hm4 hf4 hl4 hk4 HP1 HBN1 HOF1 HX0 HX2 HX3
          have hgc1 : rest.length + 1 ≤ vc := by simpa using hgc
          go_wp2
          refine lateQ_mk (fun _ => True) trivial (mix_end ?_)
          clear c0 c1 c2 c3 c4 c5 lt hcell hbi hg0 HR
          by_cases hv1 : vc = 1
          · subst hv1
            have hr0 : rest.length = 0 := by omega
            obtain ⟨hm4, hf4, hl4, hk4⟩ := HF4.out
            have HN := Lib.hid (HR3.out.pushFirst hm4 hf4 hl4 hlo1 hhb (HIR4.out.tail off2 (.inr ⟨rfl, rfl⟩)))
            clear hm4 hf4 hl4 hk4 HF4 HIR4 HR3
            rw [hr0] at HN ⊢
            go_wp2
            exact ⟨⟨i + 1, M1, _, T + 1, rest, by first | exact congrArg _ e1.out | rfl, by first | exact congrArg _ e2.out | rfl, by omega, by omega, HN.out⟩, by simp [intOf]; omega⟩
          · have hv2 : vc - 1 ≠ 0 := by omega
            have hv3 : ¬ vc = 1 := hv1
            obtain ⟨hm4, hf4, hl4, hk4⟩ := HF4.out
            have HN := Lib.hid (HR3.out.pushFirst hm4 hf4 hl4 hlo1 hhb (HIR4.out.tail (off2 + 1) (.inl rfl)))
            clear hm4 hf4 hl4 hk4 HF4 HIR4 HR3
            go_wp2
            exact ⟨⟨i + 1, M1, _, T + 1, rest, by first | exact congrArg _ e1.out | rfl, by first | exact congrArg _ e2.out | rfl, by omega, by omega, HN.out⟩, by simp [intOf]; omega⟩
    · have hie : ps.length = i := by omega
      have hnlt : ¬ (i : Int) < ps.length := by omega
      have hle := nodup_le (by omega) HR.out.fl.nd HR.out.fl.rg
      have hsp := size_pos HP.out
      have hsz : M.sz 0 = p.sizeF.toNat := HR.out.fl.mg.s
      have hr0 : (0 : Int) < M.n := by rw [HR.out.fl.mg.n]; omega
      have hr1 : (0 : Int) < M.sz (0 : Int).toNat := by show (0 : Int) < M.sz 0; rw [hsz]; omega
      have hz := Lib.hid (head_zero HP.out)
      have htg : Hid (U (M.wd 0 0) / 2 ^ 21 = T) := Lib.hid (by rw [div_shr, tag_shr]; exact HR.out.fl.tg)
      obtain ⟨hw, hhw⟩ : ∃ x, Hid (U (M.wd (0 : Int).toNat (0 : Int).toNat) = x) := ⟨_, Lib.hid rfl⟩
      clear hsz
      go_wp2_with (first
        | (go_at_call 24; refine (head_is p _ 0 hz).mono ?_; rintro e w2 ⟨rfl, hx⟩; have HR2 := Lib.hid (HR.out.ext hx); clear hx)
        | (go_at_call 23; refine (peek_int HR2.out.m 0 0 hw (by omega) hr0 (by omega) hr1 hhw).mono ?_; rintro e w3 ⟨rfl, hx⟩; have HR3 := Lib.hid (HR2.out.ext hx); have ⟨c0, c1, c2, c3, c4, c5, lt⟩ := HR3.out.pb.plc; clear hx))
      have hwd : hw / 2 ^ 21 = (T : Int) := by rw [← hhw.out]; exact htg.out
      have hwe : hw / 2097152 = (T : Int) := hwd
      have hwt : IntKind.u64.wrap (T : Int) = T := wrap64u _ (by omega) (by omega)
      have hws : wrap64 (p.n - (mine.length : Int)) = l.length := by
        have := HR3.out.ln
        unfold wrap64
        omega
      refine wp_region_mix (fun w' => ∃ s, w' = over w3 s) [(0, [0, 1, 2, 3, 4, 5, 6, 7, 10, 11, 12, 13, 14]), (1, [8]), (0, [9, 15, 16, 17])] (by kernel_rfl) (by kernel_rfl) (over_of (ext_drew (ext_refl w3))) ?_
      simp only [pieces, pickL, List.map_cons, List.map_nil, List.getD_cons_zero, List.getD_cons_succ]
      refine mix_reads ?_
      repeat (go_big_quiet_step (fail))
      refine wpQuiet_nil (mix_acts ?_)
      go_wp2_with (go_at_call 19; refine (flist_any p HP.out l T HR3.out.fl HR3.out.m.drew).mono ?_; rintro e w5 ⟨v5, rfl, hv5, hx5⟩; refine Hid.out ?_)
      refine Lib.hid ?_
      obtain ⟨v5a, v5c, rfl⟩ := hv5.slice
      have HX5 := Lib.hid (ext_trans (ext_drew (ext_refl w3)) hx5)
      clear hv5 hx5
      go_wp2
      refine mixQ_mk (over_of HX5.out) (mix_reads ?_)
      repeat (go_big_quiet_step (fail))
      refine wpQuiet_nil (mix_end ?_)
      go_wp2
      go_ret
      exact Ret.bool (by have := HR3.out.ln; simp; omega) (ext_trans HR3.out.ex HX5.out)
end Go.Proofs.Ytlpjmnbipbgkdaa

/-
  A law's row, once for all: whoever shows that the call returns true and turns nothing old has the row's post; the arguments read as they did. Conditions: the row names no variable; its result is one bool; its parameters' types can be read.
-/
namespace Go.Proofs.Ytlpjmnbipbgkdaa
open Go Go.ChangeShapes Go.WideShapes Go.ChangeAt Go.RowKit Go.Joins

section
variable {H : Type} {enc : TypeId × Value → H} {P : Program}

/-- What reads in W reads in W' likewise, argument by argument. -/
theorem trodAll_below (hl : laidOutB P = true) {W W' : World} (hb : Below W.heap.size W W') :
    ∀ (ts : List TypeId) (vs : List Value) (ds : List (DataW H)) (ps : List MemPlace), (∀ t ∈ ts, P.readableRec t = true ∧ t < P.types.size) → (∀ x ∈ ps, x.block < W.heap.size) →
      DataW.TrodAll enc P W 0 (fun _ => true) true ts vs ds ps → DataW.TrodAll enc P W' 0 (fun b => decide (b < W.heap.size)) true ts vs ds ps
  | [], vs, ds, ps, _, _, h => by
    obtain ⟨rfl, rfl, rfl⟩ := trodAll_nil h
    exact trodAll_mk0
  | t :: ts, vs, ds, ps, hr, hlt, h => by
    obtain ⟨v, vs', d, ds', p, q, rfl, rfl, rfl, h1, h2⟩ := trodAll_cons h
    exact trodAll_cons_mk (Below.trod hl (hr t (by simp)).1 (hr t (by simp)).2 h1 hb (fun x hx => hlt x (List.mem_append.2 (.inl hx))))
      (trodAll_below hl hb ts vs' ds' q (fun t' ht => hr t' (by simp [ht])) (fun x hx => hlt x (List.mem_append.2 (.inr hx))) h2)

/-- The post of a law's row. -/
theorem law_post {f : Func} {s : ChangeSpec} {apart : Bool} {tb : TypeId} {W W' : World} {args : Array Value} {ds gs : List (DataW H)} {before : List MemPlace}
    (hl : laidOutB P = true) (hr : (f.params.toList.all fun t => P.readableRec t && decide (t < P.types.size)) = true) (hvars : s.vars = []) (hrt : f.resultTypes = #[tb]) (hub : P.underlying tb = some .bool)
    (hW : DataW.Whole enc P f.params.toList s.vars apart W args.toList ds gs before) (hspec : s.fn H (ds ++ gs) = { results := [.lit (.bool true)], args := ds })
    (hb : Below W.heap.size W W') : s.post enc P f apart true false false W args (.bool true) W' := by
  have hr' : ∀ t ∈ f.params.toList, P.readableRec t = true ∧ t < P.types.size := fun t ht => by simpa using List.all_eq_true.1 hr t ht
  have hlt := hW.lt
  have hW2 := hW
  obtain ⟨p, q, hA, hV, rfl, _, _⟩ := hW2
  rw [hvars] at hV
  obtain ⟨rfl, rfl⟩ := trodVars_none hV
  refine ⟨ds, [], p ++ [], [], p, [], hW, ?_, ?_, ?_, hb.frame _, fun h => by cases h⟩
  · rw [hspec, hrt]
    exact trodAll_mk1 (shut_bool hub true)
  · rw [hspec]
    exact trodAll_below hl hb _ _ _ _ hr' (fun x hx => hlt x (List.mem_append.2 (.inl hx))) hA
  · rw [hspec, hvars]
    rfl
end
end Go.Proofs.Ytlpjmnbipbgkdaa
