/-
  ProgSteps: the call's ways, walked. Conditions: those of each theorem.
-/
import Derived.Test.YtmianpfomoghjaaProgLaw
import Derived.Laws.StructEq
namespace Go.Proofs.Ytmianpfomoghjaa
open Go Go.RowKit

theorem drop_cons (l : List Acc) (k : Nat) (h : k < l.length) : l.drop k = aN l k :: l.drop (k + 1) := by
  rw [List.drop_eq_getElem_cons h]
  simp [aN, List.getD_eq_getElem?_getD, h]
/-- A program in its box, a capability in its own, beside a memory. -/
structure StIn (D : Nat → Prop) (lo hi : Nat) (L : Lay) (B cb : Nat) (l : List Acc) (t : List (BitVec 64)) (M : MS) (v : Value) (w wr : World) : Prop where
  p : PH D l t v wr
  mem : MemIn lo hi L M wr
  box : BoxP B v wr
  cap : wr.heap[cb]? = some (.cells #[.int .i64 0, .int .u64 (U 1#64)] 37)
  ext : Ext w wr
section
variable {D : Nat → Prop} {lo hi : Nat} {L : Lay} {B cb : Nat} {l : List Acc} {t : List (BitVec 64)} {M : MS} {v : Value} {w wr wr' : World}
theorem StIn.grow (h : StIn D lo hi L B cb l t M v w wr) (hx : Ext wr wr') : StIn D lo hi L B cb l t M v w wr' :=
  ⟨h.p.ext hx, h.mem.ext hx, h.box.ext hx, (hx.block _ (heap_lt h.cap)).trans h.cap, ext_trans h.ext hx⟩
theorem StIn.turn {M' : MS} (h : StIn D lo hi L B cb l t M v w wr) (hf : Fr lo hi wr wr') (hM : MemIn lo hi L M' wr') (hD : ∀ k, lo ≤ k → k < hi → D k) (hB : hi ≤ B) (hc : hi ≤ cb) (hlo : w.heap.size ≤ lo) : StIn D lo hi L B cb l t M' v w wr' :=
  ⟨h.p.fr (FD.of_fr hf hD), hM, h.box.fr hf hB, (hf.block _ (heap_lt h.cap) (.inr hc)).trans h.cap, hf.below h.ext hlo⟩
end
theorem box_cons {D : Nat → Prop} {B : Nat} {a : Acc} {l : List Acc} {t : List (BitVec 64)} {v : Value} {w : World} (hP : PH D (a :: l) t v w) (hB : BoxP B v w) :
    ∃ g caps parts, v = pV (.slice none 0 0) a (.func (.func g) #[] caps) (.pointer parts) ∧ w.heap[B]? = some (.cells #[.slice none 0 0, .int .i64 a.op, .int .i64 a.at_, .int .u64 (U a.a), .int .u64 (U a.b), .func (.func g) #[] caps, .pointer parts] 46) := by
  obtain ⟨g, caps, parts, rfl, _⟩ := hP
  obtain ⟨sa, n, c, a', fn, p, e, _, hb⟩ := hB.blk
  unfold pV at e
  simp at e
  obtain ⟨⟨rfl, rfl, rfl⟩, e1, e2, e3, e4, rfl, rfl⟩ := e
  exact ⟨g, caps, parts, rfl, by rw [e1, e2, e3, e4]; exact hb⟩
theorem box_nil {D : Nat → Prop} {B : Nat} {t : List (BitVec 64)} {v : Value} {w : World} (hP : PH D [] t v w) (hB : BoxP B v w) :
    ∃ ra cap parts, v = pV (.slice ra t.length cap) accZ .nilFunc (.pointer parts) ∧ w.heap[B]? = some (.cells #[.slice ra t.length cap, .int .i64 0, .int .i64 0, .int .u64 (U 0#64), .int .u64 (U 0#64), .nilFunc, .pointer parts] 46) := by
  obtain ⟨rv, parts, rfl, hu⟩ := hP
  obtain ⟨ra, cap, rfl, _⟩ := hu
  obtain ⟨sa, n, c, a', fn, p, e, _, hb⟩ := hB.blk
  unfold pV accZ at e
  simp at e
  obtain ⟨⟨rfl, rfl, rfl⟩, e1, e2, e3, e4, rfl, rfl⟩ := e
  refine ⟨_, _, _, rfl, ?_⟩
  rw [hb, ← e1, ← e2, ← e3, ← e4]
theorem equalAcc (a : Acc) (w : World) (d : Nat) : (Op.equalIn (d + 1 + 1) 42 (.agg #[.int .i64 a.op, .int .i64 a.at_, .int .u64 (U a.a), .int .u64 (U a.b)]) (.agg #[.int .i64 a.op, .int .i64 a.at_, .int .u64 (U a.a), .int .u64 (U a.b)])).run Try.prog w = .ok true w := by
  have h1 : Try.prog.underlying 42 = some (.struct (Try.prog.fieldsOf 42)) := by kernel_rfl
  have h2 : Try.prog.stoodInHeld 42 = false := by kernel_rfl
  rw [run_equalIn_struct w _ _ _ _ h1 h2]
  have h3 : ((Try.prog.fieldsOf 42).toList.map fun f => (f.offset, f.type)) = [(0, 3), (1, 3), (2, 35), (3, 35)] := by kernel_rfl
  generalize (Try.prog.fieldsOf 42).toList = fs at h3 ⊢
  match fs, h3 with
  | [], h3 => simp at h3
  | [_], h3 => simp at h3
  | [_, _], h3 => simp at h3
  | [_, _, _], h3 => simp at h3
  | _ :: _ :: _ :: _ :: _ :: _, h3 => simp at h3
  | [f0, f1, f2, f3], h3 =>
    simp only [List.map_cons, List.map_nil, List.cons.injEq, Prod.mk.injEq, and_true] at h3
    obtain ⟨⟨o0, t0⟩, ⟨o1, t1⟩, ⟨o2, t2⟩, o3, t3⟩ := h3
    simp only [Op.eqFields, o0, o1, o2, o3, t0, t1, t2, t3]
    have p0 : ∀ w, (part 3 #[.int .i64 a.op, .int .i64 a.at_, .int .u64 (U a.a), .int .u64 (U a.b)] 0).run Try.prog w = .ok (.int .i64 a.op) w := fun w => by simp [part, go_sem]
    have p1 : ∀ w, (part 3 #[.int .i64 a.op, .int .i64 a.at_, .int .u64 (U a.a), .int .u64 (U a.b)] 1).run Try.prog w = .ok (.int .i64 a.at_) w := fun w => by simp [part, go_sem]
    have p2 : ∀ w, (part 35 #[.int .i64 a.op, .int .i64 a.at_, .int .u64 (U a.a), .int .u64 (U a.b)] 2).run Try.prog w = .ok (.int .u64 (U a.a)) w := fun w => by simp [part, go_sem]
    have p3 : ∀ w, (part 35 #[.int .i64 a.op, .int .i64 a.at_, .int .u64 (U a.a), .int .u64 (U a.b)] 3).run Try.prog w = .ok (.int .u64 (U a.b)) w := fun w => by simp [part, go_sem]
    have q0 : ∀ x w, (Op.equalIn (d + 1) 3 (.int .i64 x) (.int .i64 x)).run Try.prog w = .ok true w := fun x w => by rw [run_equalIn_int w d _ _ _ _ _ Try.underlying3]; simp
    have q1 : ∀ x w, (Op.equalIn (d + 1) 35 (.int .u64 x) (.int .u64 x)).run Try.prog w = .ok true w := fun x w => by rw [run_equalIn_int w d _ _ _ _ _ Try.underlying35]; simp
    by_cases n0 : f0.name = "_" <;> by_cases n1 : f1.name = "_" <;> by_cases n2 : f2.name = "_" <;> by_cases n3 : f3.name = "_" <;> simp [n0, n1, n2, n3, p0, p1, p2, p3, q0, q1]
theorem eqAcc (a : Acc) (w : World) : (binOp .eql 42 (.agg #[.int .i64 a.op, .int .i64 a.at_, .int .u64 (U a.a), .int .u64 (U a.b)]) (.agg #[.int .i64 a.op, .int .i64 a.at_, .int .u64 (U a.a), .int .u64 (U a.b)])).run Try.prog w = .ok (.bool true) w := by
  rw [run_eql_struct, equalAcc a w 9998]
  rfl
theorem neAcc (a : Acc) (w : World) : (binOp .neq 42 (.agg #[.int .i64 a.op, .int .i64 a.at_, .int .u64 (U a.a), .int .u64 (U a.b)]) (.agg #[.int .i64 a.op, .int .i64 a.at_, .int .u64 (U a.a), .int .u64 (U a.b)])).run Try.prog w = .ok (.bool false) w := by
  rw [run_neq_struct, equalAcc a w 9998]
  rfl
theorem gdAcc (op : BinOp) (x y : Operand) (xs ys : Array Value) (w : World) : (eqGuard op 42 x y (.agg xs) (.agg ys)).run Try.prog w = .ok () w := run_eqGuard_agg w op _ x y xs ys (by kernel_rfl)

def StepsRel (D : Nat → Prop) (lo hi : Nat) (L : Lay) (B cb : Nat) (l : List Acc) (w : World) (i : Value) (wr : World) : Prop :=
  ∃ (k : Nat) (t : List (BitVec 64)) (M : MS) (v : Value), k ≤ l.length ∧ i = .int .i64 (k : Int) ∧ t.length = k ∧ Mem8 M ∧ StIn D lo hi L B cb (l.drop k) t M v w wr

set_option maxRecDepth 8000 in
set_option maxHeartbeats 4000000 in
theorem progSteps_small (l : List Acc) (a0 : Option Addr) (cap : Nat) (st : Int) (w : World) (hl : l.length ≤ 20) (hs0 : 0 ≤ st) (hs1 : st ≤ 255) (hA : Hid (AsB (fun _ => False) w (.slice a0 l.length cap) l)) :
    Calls Try.prog 5 #[.slice a0 l.length cap, .int .u8 st] w (Ret (.bool true) w) := by
  have q0 : decide (20 < (l.length : Int)) = false := by simp; omega
  go_enter Try.func5, Try.ntmps5
  go_wp2_with (first
    | (go_at_call 9; refine (awake_any _).mono ?_; rintro e w' hr'; obtain ⟨rfl, s, rfl⟩ := hr'.over; clear hr')
    | (go_at_call 10; refine (new_law [8] _ _ (over_below w s) rfl rfl ok8).mono ?_; rintro e X ⟨lo, hi, L, rfl, hM, hX, hlo⟩; have HM : Hid (MemIn lo hi L (M0 [8] 1) X) := Lib.hid hM; have HX := Lib.hid hX; clear hM hX)
    | (go_at_call 12; refine (cap_int HM.out 0 1#64 (by decide) (by decide) (Lib.hid rfl)).mono ?_; rintro e w' hr'; obtain ⟨rfl, s1, rfl⟩ := hr'.over; clear hr')
    | (go_at_call 14; refine (list_any (fun k => lo ≤ k ∧ k < hi) l _ _ (hA.out.ext (ext_alloc _ (ext_over s1 HX.out))) (by omega) (fun k hk => by have := HM.out.top; have := over_size X s1; simp; omega)).mono ?_; rintro e w1 ⟨v1, rfl, hx, hp⟩; refine Hid.out ?_))
  refine Lib.hid ?_
  have HC1 := (hx.block (over X s1).heap.size (by simp)).trans (heap_at (over X s1) _ _ rfl)
  have HM1 := (((HM.out.over s1).alloc (.cells #[.int .i64 0, .int .u64 (U 1#64)] 37)).ext hx)
  have HX1 := ext_trans (ext_alloc (.cells #[.int .i64 0, .int .u64 (U 1#64)] 37) (ext_over s1 HX.out)) hx
  have hcb : hi ≤ (over X s1).heap.size := Nat.le_trans HM.out.top (over_size X s1)
  have hcb1 := heap_lt HC1
  generalize (over X s1).heap.size = cb at HC1 hcb hcb1 ⊢
  obtain ⟨sa, n, c, a, fn, rfl, hfn⟩ := hp.shape
  have HFN := Lib.hid hfn
  have HS : Hid (StIn (fun k => (lo ≤ k ∧ k < hi) ∨ k = w1.heap.size) lo hi L w1.heap.size cb (l.drop 0) [] (M0 [8] 1) (pV (.slice sa n c) a fn (.pointer none)) w (w1.alloc (.cells #[.slice sa n c, .int .i64 a.op, .int .i64 a.at_, .int .u64 (U a.a), .int .u64 (U a.b), fn, .pointer none] 46))) := by
    refine Lib.hid ⟨(hp.h.more fun k hk => ⟨fun h => h.resolve_right (by omega), .inl⟩).ext (ext_alloc _ (ext_refl w1)), HM1.alloc _, ⟨sa, n, c, a, fn, none, rfl, HFN.out, heap_at _ _ _ rfl⟩, ?_, ext_alloc _ HX1⟩
    rw [Below.heap_alloc _ _ _ hcb1]
    exact HC1
  have hB : hi ≤ w1.heap.size := by omega
  have hwB : w.heap.size ≤ w1.heap.size := HX1.size
  clear hp hfn HC1 HM1 HX1 HM HX hx
  have hDm : ∀ k, lo ≤ k → k < hi → ((lo ≤ k ∧ k < hi) ∨ k = w1.heap.size) := fun k h1 h2 => .inl ⟨h1, h2⟩
  unfold pV at HS ⊢
  rcases HFN.out with rfl | ⟨g, caps, rfl⟩
  all_goals
    go_wp2
    replace HS := Lib.hid HS.out
    generalize hW : w1.alloc _ = W at HS ⊢
    generalize w1.heap.size = B at HS hB hDm hwB ⊢
    clear hW
    go_loopw [9] (fun i wr => StepsRel (fun k => (lo ≤ k ∧ k < hi) ∨ k = B) lo hi L B cb l w i wr) (fun i _ => (l.length - intOf i).toNat)
    case atStart => exact ⟨0, [], _, _, Nat.zero_le _, rfl, rfl, Mem8.zero, HS.out⟩
    case round =>
      clear HS
      obtain ⟨k, t, M, v, hk, rfl, ht, h8, hS⟩ := hrel
      have H8 := Lib.hid h8
      by_cases hlt : k < l.length
      · rw [drop_cons l k hlt] at hS
        obtain ⟨g, caps, parts, rfl, hblk⟩ := box_cons hS.p hS.box
        obtain ⟨cc0, cc1, cc2, cc3, cc4, cc5, cc6, cz, ll⟩ := sev_of hblk
        have HS := Lib.hid hS
        have HK := Lib.hid hblk
        clear h8 hS hblk
        go_wp2_with (first
          | (go_at_call 21; refine (access_yes _ (aN l k) (l.drop (k + 1)) t _ _ HS.out.p).mono ?_; rintro e w2 ⟨rfl, hx⟩; have HX2 := Lib.hid hx; have cc0 := ext_cell hx cc0; have cc1 := ext_cell hx cc1; have cc2 := ext_cell hx cc2; have cc3 := ext_cell hx cc3; have cc4 := ext_cell hx cc4; have cc5 := ext_cell hx cc5; have cc6 := ext_cell hx cc6; have ll2 := Nat.lt_of_lt_of_le ll hx.size; clear hx; unfold accV)
          | (go_at_call 22; refine (over_no _ (aN l k) (l.drop (k + 1)) t _ _ (HS.out.grow (ext_alloc _ HX2.out)).p).mono ?_; rintro e w3 ⟨rfl, hx⟩; refine Hid.out ?_))
        refine Lib.hid ?_
        have HS3 := Lib.hid (HS.out.grow (ext_trans (ext_alloc (.cells #[.int .i64 (aN l k).op, .int .i64 (aN l k).at_, .int .u64 (U (aN l k).a), .int .u64 (U (aN l k).b)] 42) HX2.out) hx))
        have HK3 := Lib.hid (((ext_trans (ext_alloc (.cells #[.int .i64 (aN l k).op, .int .i64 (aN l k).at_, .int .u64 (U (aN l k).a), .int .u64 (U (aN l k).b)] 42) HX2.out) hx).block _ ll).trans HK.out)
        have hq := (hx.block w2.heap.size (by simp)).trans (heap_at w2 _ _ rfl)
        have e0 := cell_at (o := 0) hq rfl
        have e1 := cell_at (o := 1) hq rfl
        have e2 := cell_at (o := 2) hq rfl
        have e3 := cell_at (o := 3) hq rfl
        have HQ := Lib.hid hq
        have lq := heap_lt hq
        have hqB : hi ≤ w2.heap.size := by have := HS.out.mem.top; have := HX2.out.size; omega
        clear cc0 cc1 cc2 cc3 cc4 cc5 cc6 cz hx hq HX2 ll2 ll HS
        generalize w2.heap.size = bq at e0 e1 e2 e3 HQ lq hqB ⊢
        clear w2
        obtain ⟨b, o, rfl, hb, hlw, hcells⟩ := hA.out.at (by omega)
        obtain ⟨d0, d1, d2, d3⟩ := hcells k hlt
        replace d0 := ext_cell HS3.out.ext d0
        replace d1 := ext_cell HS3.out.ext d1
        replace d2 := ext_cell HS3.out.ext d2
        replace d3 := ext_cell HS3.out.ext d3
        have lb := cell_lt d0
        have gA : ∀ w, (binOp .neq 42 (.agg #[.int .i64 (aN l k).op, .int .i64 (aN l k).at_, .int .u64 (U (aN l k).a), .int .u64 (U (aN l k).b)]) (.agg #[.int .i64 (aN l k).op, .int .i64 (aN l k).at_, .int .u64 (U (aN l k).a), .int .u64 (U (aN l k).b)])).run Try.prog w = .ok (.bool false) w := neAcc (aN l k)
        have gB : ∀ w, (binOp .eql 42 (.agg #[.int .i64 (aN l k).op, .int .i64 (aN l k).at_, .int .u64 (U (aN l k).a), .int .u64 (U (aN l k).b)]) (.agg #[.int .i64 (aN l k).op, .int .i64 (aN l k).at_, .int .u64 (U (aN l k).a), .int .u64 (U (aN l k).b)])).run Try.prog w = .ok (.bool true) w := eqAcc (aN l k)
        clear hcells
        go_wp2
        refine wp_region_over (by kernel_rfl) (by kernel_rfl) ?_
        repeat (go_big_quiet_step (fail))
        refine wpQuiet_nil ?_
        intro _ hw'
        obtain ⟨s3, hw''⟩ := hw'
        subst hw''
        have HS4 := Lib.hid (HS3.out.grow (over_below w3 s3))
        have HQ4 := Lib.hid (((over_below w3 s3).block bq lq).trans HQ.out)
        have HK4 := Lib.hid (((over_below w3 s3).block B (heap_lt HK3.out)).trans HK3.out)
        clear HK3
        have lq4 := heap_lt HQ4.out
        clear e0 e1 e2 e3 d0 d1 d2 d3 lb HQ lq HS3
        generalize over w3 s3 = Y at HS4 HQ4 HK4 lq4 ⊢
        by_cases hst : (k : Int) = st
        · have q1 : (((k : Nat) : Int) == st) = true := by rw [hst]; simp
          go_wp2_with (go_at_call 23; refine (bump_int HS4.out.mem 0 _ (by decide) (by rw [H8.out.n]; decide) (Lib.hid rfl)).mono ?_; rintro e Z ⟨rfl, hM, hF⟩; refine Hid.out ?_)
          refine Lib.hid ?_
          have HS5 := Lib.hid (HS4.out.turn hF hM hDm hB hcb hlo)
          have HQ5 := Lib.hid ((hF.block bq lq4 (.inr hqB)).trans HQ4.out)
          have lq5 := heap_lt HQ5.out
          have HK5 := Lib.hid ((hF.block B (heap_lt HK4.out) (.inr hB)).trans HK4.out)
          have HN : Hid (¬ DoOk (M.bump (0 : Int).toNat) 0 1#64 (aN l k).op (aN l k).at_) := Lib.hid fun hd => by
            have h1 : M.ep 0 + 1#64 = 1#64 := hd.1.2.2
            rw [H8.out.e] at h1
            exact absurd h1 (by decide)
          clear hM hF HS4 HQ4 lq4 HK4
          obtain ⟨cc0, cc1, cc2, cc3, cc4, cc5, cc6, cz, ll⟩ := sev_of HK5.out
          have cp0 := cell_at (o := 0) HS5.out.cap rfl
          have cp1 := cell_at (o := 1) HS5.out.cap rfl
          have lp := heap_lt HS5.out.cap
          go_wp2_with (first
            | (go_at_call 24; refine (step_no _ (aN l k) (l.drop (k + 1)) t _ 0 1#64 _ HS5.out.p HS5.out.mem HN.out).mono ?_; rintro e w6 ⟨rfl, hx⟩; have HX6 := Lib.hid hx; have lq6 := Nat.lt_of_lt_of_le lq5 hx.size; have e0 := ext_cell hx (cell_at (o := 0) HQ5.out rfl); have e1 := ext_cell hx (cell_at (o := 1) HQ5.out rfl); have e2 := ext_cell hx (cell_at (o := 2) HQ5.out rfl); have e3 := ext_cell hx (cell_at (o := 3) HQ5.out rfl); clear hx; unfold pV)
            | (go_at_call 21; refine (access_yes _ (aN l k) (l.drop (k + 1)) t _ _ (HS5.out.grow (ext_alloc _ HX6.out)).p).mono ?_; rintro e w7 ⟨rfl, hx⟩; have HX7 := Lib.hid hx; have lq7 : bq < w7.heap.size := by have := hx.size; simp at this; omega
               have e0 := ext_cell hx (ext_cell (ext_alloc _ (ext_refl w6)) e0); have e1 := ext_cell hx (ext_cell (ext_alloc _ (ext_refl w6)) e1); have e2 := ext_cell hx (ext_cell (ext_alloc _ (ext_refl w6)) e2); have e3 := ext_cell hx (ext_cell (ext_alloc _ (ext_refl w6)) e3); clear hx; unfold accV))
          go_ret
          exact Ret.mk (ext_alloc _ (ext_trans HS5.out.ext (ext_trans (ext_alloc _ HX6.out) HX7.out)))
        · have q1 : (((k : Nat) : Int) == st) = false := beq_eq_false_iff_ne.2 hst
          by_cases hd : DoOk M 0 1#64 (aN l k).op (aN l k).at_
          · have HD := Lib.hid hd
            clear hd
            obtain ⟨cc0, cc1, cc2, cc3, cc4, cc5, cc6, cz, ll⟩ := sev_of HK4.out
            have cp0 := cell_at (o := 0) HS4.out.cap rfl
            have cp1 := cell_at (o := 1) HS4.out.cap rfl
            have lp := heap_lt HS4.out.cap
            go_wp2_with (go_at_call 24; refine (step_yes _ (aN l k) (l.drop (k + 1)) t _ 0 1#64 _ HS4.out.p HS4.out.mem HD.out hDm (fun j hj => by have := HS4.out.mem.top; rcases hj with hj | rfl <;> omega)).mono ?_; rintro e w6 ⟨v6, rfl, hp, hm, hf⟩; refine Hid.out ?_)
            refine Lib.hid ?_
            obtain ⟨sa2, n2, c2, a2, fn2, rfl, hfn2⟩ := hp.shape
            have HFN2 := Lib.hid hfn2
            have hB6 := (hf.block _ ll (.inr hB)).trans HK4.out
            have hC6 := (hf.block _ lp (.inr hcb)).trans HS4.out.cap
            clear cc0 cc1 cc2 cc3 cc4 cc5 cc6 cz hfn2 cp0 cp1
            obtain ⟨cc0, cc1, cc2, cc3, cc4, cc5, cc6, cz, ll6⟩ := sev_of hB6
            have hne : B ≠ cb := fun e => by rw [e] at hB6; rw [hB6] at hC6; simp at hC6
            have HN6 : Hid (∀ o, StIn (fun k => (lo ≤ k ∧ k < hi) ∨ k = B) lo hi L B cb (l.drop (k + 1)) (t ++ [M.wd (0 : Int).toNat (aN l k).at_.toNat]) (M.done 0 (aN l k).op (aN l k).at_ (aN l k).a (aN l k).b) (pV (.slice sa2 n2 c2) a2 fn2 (.pointer none)) w ((put7 B (.slice sa2 n2 c2) (.int .i64 a2.op) (.int .i64 a2.at_) (.int .u64 (U a2.a)) (.int .u64 (U a2.b)) fn2 (.pointer none) w6).alloc o)) := by
              refine Lib.hid fun o => ⟨((hp.fr (put7_fd _ _ _ _ _ _ _ (.inr rfl))).ext (ext_alloc o (ext_refl _))).h, (put7_mem _ _ _ _ _ _ _ hm hB).alloc o, ⟨_, _, _, _, _, _, rfl, HFN2.out, (Below.heap_alloc _ _ _ (by rw [put7_size]; exact ll6)).trans (put7_block _ _ _ _ _ _ _ hB6)⟩, ?_, ?_⟩
              · rw [Below.heap_alloc _ _ _ (by rw [put7_size]; exact heap_lt hC6), put7_other _ _ _ _ _ _ _ (Ne.symm hne)]
                exact hC6
              · exact ext_alloc o (put7_ext _ _ _ _ _ _ _ (hf.below HS4.out.ext hlo) hwB)
            clear hp hm hf hB6 hC6 HD HS4 HQ4 lq4 HK4
            unfold pV at HN6 ⊢
            rcases HFN2.out with rfl | ⟨g', caps', rfl⟩
            all_goals
              go_wp2
              exact ⟨⟨k + 1, _, _, _, by omega, by go_num, by simp [ht], H8.out.done _ _ _ _ _, HN6.out _⟩, by simp [intOf]; omega⟩
          · have HN := Lib.hid hd
            have HS5 := HS4
            have HQ5 := HQ4
            have lq5 := lq4
            have HK5 := HK4
            clear hd HS4 HQ4 lq4 HK4
            obtain ⟨cc0, cc1, cc2, cc3, cc4, cc5, cc6, cz, ll⟩ := sev_of HK5.out
            have cp0 := cell_at (o := 0) HS5.out.cap rfl
            have cp1 := cell_at (o := 1) HS5.out.cap rfl
            have lp := heap_lt HS5.out.cap
            go_wp2_with (first
              | (go_at_call 24; refine (step_no _ (aN l k) (l.drop (k + 1)) t _ 0 1#64 _ HS5.out.p HS5.out.mem HN.out).mono ?_; rintro e w6 ⟨rfl, hx⟩; have HX6 := Lib.hid hx; have lq6 := Nat.lt_of_lt_of_le lq5 hx.size; have e0 := ext_cell hx (cell_at (o := 0) HQ5.out rfl); have e1 := ext_cell hx (cell_at (o := 1) HQ5.out rfl); have e2 := ext_cell hx (cell_at (o := 2) HQ5.out rfl); have e3 := ext_cell hx (cell_at (o := 3) HQ5.out rfl); clear hx; unfold pV)
              | (go_at_call 21; refine (access_yes _ (aN l k) (l.drop (k + 1)) t _ _ (HS5.out.grow (ext_alloc _ HX6.out)).p).mono ?_; rintro e w7 ⟨rfl, hx⟩; have HX7 := Lib.hid hx; have lq7 : bq < w7.heap.size := by have := hx.size; simp at this; omega
                 have e0 := ext_cell hx (ext_cell (ext_alloc _ (ext_refl w6)) e0); have e1 := ext_cell hx (ext_cell (ext_alloc _ (ext_refl w6)) e1); have e2 := ext_cell hx (ext_cell (ext_alloc _ (ext_refl w6)) e2); have e3 := ext_cell hx (ext_cell (ext_alloc _ (ext_refl w6)) e3); clear hx; unfold accV))
            go_ret
            exact Ret.mk (ext_alloc _ (ext_trans HS5.out.ext (ext_trans (ext_alloc _ HX6.out) HX7.out)))
      · have e0 : l.drop k = [] := List.drop_eq_nil_of_le (by omega)
        rw [e0] at hS
        obtain ⟨ra, rc, parts, rfl, hblk⟩ := box_nil hS.p hS.box
        obtain ⟨cc0, cc1, cc2, cc3, cc4, cc5, cc6, cz, ll⟩ := sev_of hblk
        have HS := Lib.hid hS
        have qe : (((t.length : Nat) : Int) == ((l.length : Nat) : Int)) = true := beq_iff_eq.2 (by omega)
        have qe2 : (t.length == l.length) = true := beq_iff_eq.2 (by omega)
        have hlt0 : ¬ ((k : Int) < (l.length : Int)) := by omega
        have HT : Hid (t.length ≤ 1000) := Lib.hid (by omega)
        clear ht
        have cp0 := cell_at (o := 0) HS.out.cap rfl
        have cp1 := cell_at (o := 1) HS.out.cap rfl
        have lp := heap_lt HS.out.cap
        have hbk : ∀ j, ((lo ≤ j ∧ j < hi) ∨ j = B) → j < wr.heap.size := fun j hj => by
          have := HS.out.mem.top
          rcases hj with hj | rfl <;> omega
        clear h8 hS hblk
        go_wp2_with (first
          | (go_at_call 21; refine (access_no _ t _ _ HS.out.p).mono ?_; rintro e w2 ⟨rfl, hx⟩; have HX2 := Lib.hid hx; have cc0 := ext_cell hx cc0; have cc1 := ext_cell hx cc1; have cc2 := ext_cell hx cc2; have cc3 := ext_cell hx cc3; have cc4 := ext_cell hx cc4; have cc5 := ext_cell hx cc5; have cc6 := ext_cell hx cc6; have cp0 := ext_cell hx cp0; have cp1 := ext_cell hx cp1; have ll2 := Nat.lt_of_lt_of_le ll hx.size; have lp2 := Nat.lt_of_lt_of_le lp hx.size; clear hx; unfold accV accZ)
          | (go_at_call 22; refine (over_yes _ t _ _ (HS.out.grow (ext_alloc _ HX2.out)).p HT.out (fun j hj => by have := hbk j hj; have := HX2.out.size; simp; omega)).mono ?_; rintro e w3 ⟨rv, rfl, hu, hx⟩; obtain ⟨ra3, cap3, rfl, _⟩ := id hu; have HX3 := Lib.hid (ext_trans (ext_alloc _ HX2.out) hx); have cc0 := ext_cell hx (ext_cell (ext_alloc _ (ext_refl w2)) cc0); have cc1 := ext_cell hx (ext_cell (ext_alloc _ (ext_refl w2)) cc1); have cc2 := ext_cell hx (ext_cell (ext_alloc _ (ext_refl w2)) cc2); have cc3 := ext_cell hx (ext_cell (ext_alloc _ (ext_refl w2)) cc3); have cc4 := ext_cell hx (ext_cell (ext_alloc _ (ext_refl w2)) cc4); have cc5 := ext_cell hx (ext_cell (ext_alloc _ (ext_refl w2)) cc5); have cc6 := ext_cell hx (ext_cell (ext_alloc _ (ext_refl w2)) cc6); have cp0 := ext_cell hx (ext_cell (ext_alloc _ (ext_refl w2)) cp0); have cp1 := ext_cell hx (ext_cell (ext_alloc _ (ext_refl w2)) cp1); clear hx hu)
          | (go_at_call 24; refine (step_over _ t _ _ 0 1#64 _ (HS.out.grow HX3.out).p).mono ?_; rintro e w4 ⟨rfl, hx⟩; have HX4 := Lib.hid (ext_trans HX3.out hx); clear hx; unfold pV accZ))
        go_ret
        exact Ret.mk (ext_alloc _ (ext_trans HS.out.ext HX4.out))

set_option maxHeartbeats 1000000 in
theorem progSteps_great (n : Nat) (a0 : Option Addr) (cap : Nat) (st : Int) (w : World) (h : 20 < n) :
    Calls Try.prog 5 #[.slice a0 n cap, .int .u8 st] w (Ret (.bool true) w) := by
  have q0 : decide (20 < (n : Int)) = true := by simp; omega
  go_enter Try.func5, Try.ntmps5
  go_wp2_with (go_at_call 9; refine (awake_any _).mono ?_; rintro e w' hr'; obtain ⟨rfl, s, rfl⟩ := hr'.over; clear hr')
  go_ret
  exact Ret.mk (by repeat (first | exact ext_refl _ | apply ext_over))

theorem progSteps_any (f : Nat → Acc) (n : Nat) (v : Value) (st : Int) (w : World) (h0 : 0 ≤ st) (h1 : st ≤ 255) (hf : As w v n f) : Calls Try.prog 5 #[v, .int .u8 st] w (Ret (.bool true) w) := by
  have hA := asB_of hf
  obtain ⟨a0, cap, rfl, _⟩ := id hf
  by_cases hl : n ≤ 20
  · have e1 : ((List.range n).map f).length = n := by simp
    have := progSteps_small ((List.range n).map f) a0 cap st w (by omega) h0 h1 (Lib.hid (by rw [e1]; exact hA))
    rwa [e1] at this
  · exact progSteps_great n a0 cap st w (by omega)

end Go.Proofs.Ytmianpfomoghjaa
