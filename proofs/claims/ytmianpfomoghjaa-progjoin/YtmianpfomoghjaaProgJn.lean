/-
  What the call of joined comes to. Conditions: those of each theorem.
-/
import Derived.Test.YtmianpfomoghjaaProgLaw
namespace Go.Proofs.Ytmianpfomoghjaa
open Go Go.RowKit

/-- The number of a pointer's block, and one; 0 for nil. -/
def ptrNum : Value → Nat
  | .pointer (some a) => a.block + 1
  | _ => 0
/-- Programs that are to come, one behind the other. -/
def Row (D : Nat → Prop) (w : World) : List (List Acc × List (BitVec 64)) → Value → Prop
  | [], v => v = .pointer none
  | p :: ps, v => ∃ g sa n c a fn rest, v = .pointer (some ⟨g, 0, none⟩) ∧ ¬ D g ∧ w.heap[g]? = some (.cells #[.slice sa n c, .int .i64 a.op, .int .i64 a.at_, .int .u64 (U a.a), .int .u64 (U a.b), fn, .pointer none, rest] 109) ∧
      PL D p.1 p.2 (pV (.slice sa n c) a fn (.pointer none)) w ∧ (fn = .nilFunc ∨ ∃ g caps, fn = .func (.func g) #[] caps) ∧ ptrNum rest ≤ g ∧ Row D w ps rest
theorem Row.fr {D : Nat → Prop} {w w' : World} (hf : FD D w w') : ∀ {ps : List (List Acc × List (BitVec 64))} {v : Value}, Row D w ps v → Row D w' ps v
  | [], _, h => h
  | _ :: _, _, ⟨g, sa, n, c, a, fn, rest, e, hg, hb, hp, hfn, hr, h⟩ => ⟨g, sa, n, c, a, fn, rest, e, hg, (hf.block g (heap_lt hb) hg).trans hb, hp.fr hf, hfn, hr, Row.fr hf h⟩
theorem Row.ext {D : Nat → Prop} {w w' : World} {ps : List (List Acc × List (BitVec 64))} {v : Value} (h : Row D w ps v) (hx : Ext w w') : Row D w' ps v := h.fr (.of_ext hx)
theorem Row.more {D E : Nat → Prop} {w : World} (he : ∀ k, k < w.heap.size → (E k ↔ D k)) : ∀ {ps : List (List Acc × List (BitVec 64))} {v : Value}, Row D w ps v → Row E w ps v
  | [], _, h => h
  | _ :: _, _, ⟨g, sa, n, c, a, fn, rest, e, hg, hb, hp, hfn, hr, h⟩ => ⟨g, sa, n, c, a, fn, rest, e, fun x => hg ((he g (heap_lt hb)).1 x), hb, hp.more he, hfn, hr, Row.more he h⟩
theorem Row.mono {D E : Nat → Prop} {w : World} (hd : ∀ k, D k → E k) : ∀ {ps : List (List Acc × List (BitVec 64))} {v : Value}, Row E w ps v → Row D w ps v
  | [], _, h => h
  | _ :: _, _, ⟨g, sa, n, c, a, fn, rest, e, hg, hb, hp, hfn, hr, h⟩ => ⟨g, sa, n, c, a, fn, rest, e, fun x => hg (hd g x), hb, PL.mono hd hp, hfn, hr, Row.mono hd h⟩
theorem Row.ptr {D : Nat → Prop} {w : World} : ∀ {ps : List (List Acc × List (BitVec 64))} {v : Value}, Row D w ps v → ∃ p, v = .pointer p
  | [], _, h => ⟨none, h⟩
  | _ :: _, _, ⟨_, _, _, _, _, _, _, e, _⟩ => ⟨_, e⟩
theorem Row.num {D : Nat → Prop} {w : World} : ∀ {ps : List (List Acc × List (BitVec 64))} {v : Value}, Row D w ps v → ptrNum v ≤ w.heap.size
  | [], _, h => by rw [show _ = Value.pointer none from h]; exact Nat.zero_le _
  | _ :: _, _, ⟨g, _, _, _, _, _, _, e, _, hb, _⟩ => by rw [e]; exact heap_lt hb
theorem Told.mono {D E : Nat → Prop} {w : World} (hd : ∀ k, D k → E k) : ∀ {r : List (BitVec 64)} {v : Value}, Told E w r v → Told D w r v
  | [], _, h => h
  | _ :: _, _, ⟨g, p, e, h0, hlt, c0, c1, h⟩ => ⟨g, p, e, fun x => h0 (hd g x), hlt, c0, c1, Told.mono hd h⟩
def accs (ps : List (List Acc × List (BitVec 64))) : List Acc := ps.flatMap (·.1)
def tsum : List (List Acc × List (BitVec 64)) → List (BitVec 64)
  | [] => []
  | p :: _ => p.2
def Fresh : List (List Acc × List (BitVec 64)) → Prop
  | [] => True
  | _ :: ps => ∀ p ∈ ps, p.2 = []
theorem tsum_tail {p : List Acc × List (BitVec 64)} {ps : List (List Acc × List (BitVec 64))} (h : Fresh (p :: ps)) : tsum ps = [] ∧ Fresh ps := by
  cases ps with
  | nil => exact ⟨rfl, trivial⟩
  | cons q ps => exact ⟨h q (by simp), fun r hr => h r (by simp [hr])⟩
/-- What joined is asked. -/
def JoinedAt (N : Nat) : Prop := ∀ (D : Nat → Prop) (told : List (BitVec 64)) (ps : List (List Acc × List (BitVec 64))) (tv rv : Value) (w : World), (accs ps).length ≤ N → Told D w told.reverse tv → Row D w ps rv → Fresh ps → told.length + (tsum ps).length + (accs ps).length ≤ 1000 → (∀ k, D k → k < w.heap.size) → Calls Try.prog 42 #[tv, rv] w (RetPL D (accs ps) (told ++ tsum ps) w)

set_option maxRecDepth 8000 in
set_option maxHeartbeats 2000000 in
theorem joined1 (N : Nat) (IH : Hid (JoinedAt N)) (D : Nat → Prop) (x : BitVec 64) (a : Acc) (l : List Acc) (t told : List (BitVec 64)) (ps : List (List Acc × List (BitVec 64))) (tv rest : Value) (sa : Option Addr) (n c : Nat) (fn : Value) (B bp br : Nat) (w : World)
    (hN : ((l, t ++ [x]) :: ps |> accs).length ≤ N) (hT : Told D w told.reverse tv) (hP : PL D (a :: l) t (pV (.slice sa n c) a fn (.pointer none)) w) (hR : Row D w ps rest) (hF : ∀ p ∈ ps, p.2 = [])
    (k1 : w.cell? ⟨B, 0, none⟩ = some tv) (k2 : w.heap[bp]? = some (.cells #[.slice sa n c, .int .i64 a.op, .int .i64 a.at_, .int .u64 (U a.a), .int .u64 (U a.b), fn, .pointer none] 46)) (k3 : w.cell? ⟨br, 0, none⟩ = some rest)
    (hl : told.length + t.length + 1 + (accs ((l, t ++ [x]) :: ps)).length ≤ 1000) (hb : ∀ k, D k → k < w.heap.size) :
    Calls Try.prog 64 #[.int .u64 (U x), .pointer (some ⟨B, 0, none⟩), .pointer (some ⟨bp, 0, none⟩), .pointer (some ⟨br, 0, none⟩)] w (RetPL D (l ++ accs ps) (told ++ (t ++ [x])) w) := by
  obtain ⟨g, caps, e1, hg, hc⟩ := id hP
  have efn : fn = .func (.func g) #[] caps := by
    unfold pV at e1
    simp at e1
    exact e1.2
  subst efn
  obtain ⟨tp, rfl⟩ := hT.ptr
  obtain ⟨rp, rfl⟩ := hR.ptr
  have k2' := cell_at (o := 5) k2 rfl
  have l1 := cell_lt k1
  have l2 := cell_lt k2'
  have l3 := cell_lt k3
  have HT := Lib.hid hT
  have HR := Lib.hid hR
  have HC := Lib.hid hc
  clear hT hR hc hP e1 k2
  go_enter Try.func64, Try.ntmps64
  go_wp2
  have m1 := ext_cell (ext_alloc (.cells #[.slice none 0 0, .int .i64 0, .int .i64 0, .int .u64 0, .int .u64 0, .nilFunc, .pointer none] 46) (ext_refl w)) k1
  have m2 := ext_cell (ext_alloc (.cells #[.slice none 0 0, .int .i64 0, .int .i64 0, .int .u64 0, .int .u64 0, .nilFunc, .pointer none] 46) (ext_refl w)) k2'
  have m3 := ext_cell (ext_alloc (.cells #[.slice none 0 0, .int .i64 0, .int .i64 0, .int .u64 0, .int .u64 0, .nilFunc, .pointer none] 46) (ext_refl w)) k3
  have hEW : Ext w (w.alloc (.cells #[.slice none 0 0, .int .i64 0, .int .i64 0, .int .u64 0, .int .u64 0, .nilFunc, .pointer none] 46)) := ext_alloc _ (ext_refl w)
  have hbW := heap_at w (.cells #[.slice none 0 0, .int .i64 0, .int .i64 0, .int .u64 0, .int .u64 0, .nilFunc, .pointer none] 46) w.heap.size rfl
  generalize w.alloc (.cells #[.slice none 0 0, .int .i64 0, .int .i64 0, .int .u64 0, .int .u64 0, .nilFunc, .pointer none] 46) = W at m1 m2 m3 hEW hbW ⊢
  have n1 := cell_lt m1
  have n2 := cell_lt m2
  have n3 := cell_lt m3
  have HE := Lib.hid hEW
  have HB := Lib.hid hbW
  clear hEW hbW k1 k2' k3
  refine wp_region_mix (fun w' => ∃ s, w' = over W s) [(0, [0, 1, 2, 3, 5]), (1, [4]), (0, [6]), (1, [7]), (1, [8]), (2, [9])] (by kernel_rfl) (by kernel_rfl) (over_of (ext_drew (ext_refl W))) ?_
  simp only [pieces, pickL, List.map_cons, List.map_nil, List.getD_cons_zero, List.getD_cons_succ]
  refine mix_reads ?_
  repeat (go_big_quiet_step (fail))
  refine wpQuiet_nil (mix_acts ?_)
  have hlt0 := heap_lt HB.out
  have HDE : Hid (∀ T : World, Ext W T → ∀ k, (D k ∨ k = w.heap.size) → k < T.heap.size) := Lib.hid fun T hT k hk => by
    have := hT.size
    rcases hk with hk | rfl
    · have := hb k hk; omega
    · omega
  have HCX : Hid (Calls Try.prog g (#[.int .u64 (U x)] ++ caps) W.drew fun e w'' => ∃ v', e = .returned v' ∧ Ext W.drew w'' ∧ PL (fun k => D k ∨ k = w.heap.size) l (t ++ [x]) v' w'') :=
    Lib.hid (HC.out (fun k => D k ∨ k = w.heap.size) (fun k hk => ⟨fun h => h.resolve_right (by omega), .inl⟩) x W.drew (FD.of_ext (ext_drew HE.out)) (HDE.out _ (ext_drew (ext_refl W))))
  go_wp2_with (refine HCX.out.mono ?_; rintro e2 w1 ⟨v', rfl, hx, hp⟩; obtain ⟨sa1, n1', c1, a1, fn1, rfl, hfn1⟩ := hp.shape; have HX1 := Lib.hid (ext_trans (ext_drew (ext_refl W)) hx); have HP1 := Lib.hid hp; have HFN1 := Lib.hid hfn1; clear hx hp hfn1; unfold pV)
  refine mixQ_mk (over_of HX1.out) (mix_reads ?_)
  repeat (go_big_quiet_step (fail))
  refine wpQuiet_nil (mix_acts ?_)
  go_wp2
  have HX2 := Lib.hid (ext_alloc (.cells #[.slice sa1 n1' c1, .int .i64 a1.op, .int .i64 a1.at_, .int .u64 (U a1.a), .int .u64 (U a1.b), fn1, .pointer none, .pointer rp] 109) HX1.out)
  have HRV : Hid (Row (fun k => D k ∨ k = w.heap.size) (w1.alloc (.cells #[.slice sa1 n1' c1, .int .i64 a1.op, .int .i64 a1.at_, .int .u64 (U a1.a), .int .u64 (U a1.b), fn1, .pointer none, .pointer rp] 109)) ((l, t ++ [x]) :: ps) (.pointer (some ⟨w1.heap.size, 0, none⟩))) := by
    have hsz := HX1.out.size
    have hEw := HE.out.size
    refine Lib.hid ⟨w1.heap.size, sa1, n1', c1, a1, fn1, .pointer rp, rfl, fun h => by have := HDE.out w1 HX1.out _ h; omega, heap_at _ _ _ rfl, HP1.out.ext (ext_alloc _ (ext_refl _)), HFN1.out, by have := HR.out.num; omega, ?_⟩
    exact (HR.out.more (E := fun k => D k ∨ k = w.heap.size) fun k hk => ⟨fun h => h.resolve_right (by omega), .inl⟩).ext (ext_trans HE.out HX2.out)
  have HTV : Hid (Told (fun k => D k ∨ k = w.heap.size) (w1.alloc (.cells #[.slice sa1 n1' c1, .int .i64 a1.op, .int .i64 a1.at_, .int .u64 (U a1.a), .int .u64 (U a1.b), fn1, .pointer none, .pointer rp] 109)) told.reverse (.pointer tp)) :=
    Lib.hid ((HT.out.more (fun k hk h => h.resolve_right (Nat.ne_of_lt hk))).ext (ext_trans HE.out HX2.out))
  generalize w1.alloc (.cells #[.slice sa1 n1' c1, .int .i64 a1.op, .int .i64 a1.at_, .int .u64 (U a1.a), .int .u64 (U a1.b), fn1, .pointer none, .pointer rp] 109) = V at HX2 HRV HTV ⊢
  generalize w1.heap.size = gr at HRV ⊢
  refine mixQ_mk (over_of HX2.out) (mix_acts ?_)
  go_wp2_with (go_at_call 42; refine (IH.out (fun k => D k ∨ k = w.heap.size) told ((l, t ++ [x]) :: ps) _ _ V hN HTV.out HRV.out hF (by show told.length + (t ++ [x]).length + _ ≤ 1000; simp only [List.length_append, List.length_cons, List.length_nil]; omega) (HDE.out V HX2.out)).mono ?_; rintro e w2 ⟨v2, rfl, hx, hp⟩; have HP := Lib.hid hp; have HX3 := Lib.hid (ext_trans HX2.out hx); obtain ⟨sa2, n2', c2, a2, fn2, rfl, hfn2⟩ := hp.shape; have HFN2 := Lib.hid hfn2; clear hp hx hfn2)
  refine mixQ_mk (over_of HX3.out) (mix_late ?_)
  have hbx := (HX3.out.block w.heap.size (heap_lt HB.out)).trans HB.out
  obtain ⟨cc0, cc1, cc2, cc3, cc4, cc5, cc6, cz, ll⟩ := sev_of hbx
  have hX := put7_ext (b := w.heap.size) (.slice sa2 n2' c2) (.int .i64 a2.op) (.int .i64 a2.at_) (.int .u64 (U a2.a)) (.int .u64 (U a2.b)) fn2 (.pointer none) (ext_trans HE.out HX3.out) (Nat.le_refl _)
  have hB := put7_block (.slice sa2 n2' c2) (.int .i64 a2.op) (.int .i64 a2.at_) (.int .u64 (U a2.a)) (.int .u64 (U a2.b)) fn2 (.pointer none) hbx
  have hP := PL.mono (D := D) (fun k hk => .inl hk) (HP.out.fr (put7_fd (w := w2) (b := w.heap.size) (.slice sa2 n2' c2) (.int .i64 a2.op) (.int .i64 a2.at_) (.int .u64 (U a2.a)) (.int .u64 (U a2.b)) fn2 (.pointer none) (.inr rfl)))
  rw [put7] at hB hX hP
  have HB2 := Lib.hid hB
  have HX4 := Lib.hid hX
  have HP3 := Lib.hid hP
  have hsf := store_fn HFN2.out
  clear hB hX hP HP hbx
  unfold pV at HP3 ⊢
  go_wp2
  refine lateQ_mk (fun _ => True) trivial (mix_end ?_)
  clear cc0 cc1 cc2 cc3 cc4 cc5 cc6 cz ll
  replace HB2 := HB2.out
  replace HX4 := HX4.out
  replace HP3 := HP3.out
  generalize (World.setCell _ (⟨w.heap.size, 6, none⟩ : Addr) _) = Z at HB2 HX4 HP3 ⊢
  obtain ⟨c0, c1, c2, c3, c4, c5, c6, cz, ll⟩ := sev_of HB2
  replace HX4 := Lib.hid HX4
  replace HP3 := Lib.hid HP3
  clear HB2
  go_wp2
  exact bodyPost_ret (by simp only [results, Try.results64, go_sem]; simp [go_sem, c0, c1, c2, c3, c4, c5, c6]) rfl ⟨_, rfl, HX4.out, HP3.out⟩


end Go.Proofs.Ytmianpfomoghjaa
