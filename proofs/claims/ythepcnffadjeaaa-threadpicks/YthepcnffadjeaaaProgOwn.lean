/-
  What the calls of slices.Clone, own, Over and Access come to. Conditions: those of each theorem.
-/
import Derived.Test.YthepcnffadjeaaaProgTold
namespace Go.Proofs.Ythepcnffadjeaaa
open Go Go.RowKit

theorem eql_slice (P : Program) (w : World) (t e : TypeId) (a : Option Addr) (n c : Nat) (h : P.underlying t = some (.slice e)) : (binOp .eql t (.slice a n c) (.slice none 0 0)).run P w = .ok (.bool a.isNone) w := by
  have h1 : ∀ d, (Op.equalIn (d + 1) t (.slice a n c) (.slice none 0 0)).run P w = .ok a.isNone w := by
    intro d
    cases a <;> simp [Op.equalIn, run_underlying h]
  simp only [binOp]
  simp [show Op.equal t (.slice a n c) (.slice none 0 0) = Op.equalIn (9999 + 1) t (.slice a n c) (.slice none 0 0) from rfl, h1 9999]
theorem news_us {w : World} {ad : Addr} {n c : Nat} {l : List (BitVec 64)} (h : Us w (.slice (some ad) n c) l) : ∀ j u, (l.map W1)[j]? = some u → w.cell? (ad.add j) = some u := by
  intro j u hj
  have hlt : j < l.length := by
    have := (List.getElem?_eq_some_iff.1 hj).1
    simpa using this
  obtain ⟨b, off, ea, _, hc⟩ := h.at (by omega)
  cases ea
  rw [add_at', hc j hlt]
  rw [List.getElem?_map, List.getElem?_eq_getElem hlt] at hj
  simp [W1] at hj
  rw [← hj]
  simp [uN, List.getD_eq_getElem?_getD, hlt]
theorem ones_us (l : List (BitVec 64)) : ∀ u ∈ l.map W1, u.oneCell' = true := by
  intro u hu
  obtain ⟨i, _, rfl⟩ := List.mem_map.1 hu
  rfl
theorem usB_of_own {D : Nat → Prop} {base : Nat} {w : World} {v : Value} {l : List (BitVec 64)} (h : w.ownsRow base 43 1 v l.length (l.map W1)) (hb : ∀ k, D k → k < base) : UsB D w v l := by
  rcases row_of_own h with ⟨rfl, rfl⟩ | ⟨g, cap, rfl, hc, hg, hlt, hR⟩
  · exact UsB.nil _ _
  · exact ⟨_, cap, rfl, hc, fun _ => ⟨g, 0, rfl, fun x => Nat.not_lt.2 hg (hb _ x), hlt, fun i hi => by rw [Nat.zero_add]; exact hR.cell hi⟩⟩
def RetUs (D : Nat → Prop) (l : List (BitVec 64)) (w : World) (e : Ending) (w' : World) : Prop := ∃ v, e = .returned v ∧ UsB D w' v l ∧ Ext w w'

set_option maxRecDepth 8000 in
set_option maxHeartbeats 1000000 in
theorem cloneU_any (D : Nat → Prop) (l : List (BitVec 64)) (v : Value) (w : World) (hU : Us w v l) (hl : l.length ≤ 1000) (hb : ∀ k, D k → k < w.heap.size) :
    Calls Try.prog 51 #[v] w (RetUs D l w) := by
  have HU := Lib.hid hU
  obtain ⟨a0, cap, rfl, hc, hcell⟩ := hU
  have hq : ∀ a n c w, (binOp .eql 31 (.slice a n c) (.slice none 0 0)).run Try.prog w = .ok (.bool a.isNone) w := fun a n c w => eql_slice _ w _ _ a n c Try.underlying31
  obtain ⟨iU, hiU, hy0, hy1, hy2⟩ := info_parts Try.infoU64t
  cases a0 with
  | none =>
    have e0 : l = [] := by
      cases l with
      | nil => rfl
      | cons x l => obtain ⟨b, off, ea, _⟩ := hcell (by simp); cases ea
    subst e0
    clear hcell HU
    go_enter Try.func51, Try.ntmps51
    go_wp2
    go_ret
    exact ⟨_, rfl, UsB.nil _ _, ext_refl _⟩
  | some ad =>
    clear hcell
    go_enter Try.func51, Try.ntmps51
    go_wp2_with (at_builtin; refine wpList_append_own _ rfl (.tmp 5) (.tmp 6) 31 rfl w.heap.size 43 iU (.int .u64 0) 1 8 Try.underlying31 hiU hy0 hy1 hy2 rfl (by decide) (.slice (some ⟨w.heap.size, 0, none⟩) 0 0) 0 [] rfl (own_none _ _ _ _ _ rfl (Nat.le_refl _)) ad l.length cap (l.map W1) rfl (by simp) (news_us (HU.out.ext (ext_alloc _ (ext_refl w)))) (ones_us l) (by unfold maxLen; omega) (by omega) (by simp) ?_; intro v2 w2 hv2 hg2 hn2; have HV := Lib.hid hv2; have HX2 := Lib.hid (ext_own (w := w) (ext_alloc _ (ext_refl w)) (own_none _ _ _ 1 _ rfl (Nat.le_refl _)) hg2); clear hv2 hg2 hn2)
    go_ret
    refine ⟨_, rfl, ?_, HX2.out⟩
    have hv := HV.out
    rw [Nat.zero_add, List.nil_append] at hv
    exact usB_of_own hv hb

set_option maxRecDepth 8000 in
set_option maxHeartbeats 1000000 in
theorem ownU_any (D : Nat → Prop) (l : List (BitVec 64)) (v : Value) (w : World) (hU : Us w v l) (hl : l.length ≤ 1000) (hb : ∀ k, D k → k < w.heap.size) :
    Calls Try.prog 45 #[v] w (RetUs D l w) := by
  have HU := Lib.hid hU
  have ta : ∀ v w, (Instr.typeAssert (.iface 114 v) 20 114 true).run Try.prog w = .ok (.tuple #[v, .bool true]) w := assert_yes
  obtain ⟨a0, cap, rfl, hc, hcell⟩ := hU
  clear hcell
  go_enter Try.func45, Try.ntmps45
  go_wp2_with (go_at_call 51; refine (cloneU_any (fun k => k < w.heap.size + 1) l _ _ (HU.out.ext (ext_alloc _ (ext_refl w))) hl (fun k hk => by simpa using hk)).mono ?_; rintro e w' ⟨v', rfl, hu, hx⟩; obtain ⟨a1, cap1, rfl, _⟩ := id hu; have HU' := Lib.hid hu; have hbx := (hx.block w.heap.size (by simp)).trans (heap_alloc_new w _); have HX := Lib.hid hx; have cb := cell_at (o := 0) hbx rfl; have cz := free_at (o := 0) hbx; have hlt := heap_lt hbx; clear hu hx hbx)
  go_ret
  refine ⟨_, rfl, ?_, ext_set _ (Nat.le_refl _) (ext_trans (ext_alloc _ (ext_refl w)) HX.out)⟩
  exact (HU'.out.fr (FD.of_fr ((Fr.refl 0 (w.heap.size + 1) w').set (p := ⟨w.heap.size, 0, none⟩) _ (Nat.zero_le _) (Nat.lt_succ_self _)) fun k _ h => h)).mono fun k hk => Nat.lt_succ_of_lt (hb k hk)

/-- The cells of an access. -/
def A4 (a : Acc) : List Value := [.int .i64 a.op, .int .i64 a.at_, .int .u64 (U a.a), .int .u64 (U a.b)]
theorem a4_len (l : List Acc) : (l.flatMap A4).length = l.length * 4 := by
  induction l with
  | nil => rfl
  | cons p l ih => rw [List.flatMap_cons, List.length_append, ih]; simp [A4]; omega
theorem a4_get (l : List Acc) : ∀ i, i < l.length → ∀ j, j < 4 → (l.flatMap A4)[i * 4 + j]? = (A4 (aN l i))[j]? := by
  induction l with
  | nil => intro i hi; exact absurd hi (Nat.not_lt_zero _)
  | cons p l ih =>
    intro i hi j hj
    rw [List.flatMap_cons]
    cases i with
    | zero =>
      rw [List.getElem?_append_left (by simp [A4]; omega), Nat.zero_mul, Nat.zero_add]
      rfl
    | succ k =>
      have h := ih k (by simpa using hi) j hj
      rw [show (k + 1) * 4 + j = 4 + (k * 4 + j) by omega, List.getElem?_append_right (by simp [A4])]
      simp only [A4, List.length_cons, List.length_nil, Nat.zero_add, Nat.reduceAdd, Nat.add_sub_cancel_left]
      exact h
theorem news_as {D : Nat → Prop} {w : World} {ad : Addr} {n c : Nat} {l : List Acc} (h : AsB D w (.slice (some ad) n c) l) : ∀ j u, (l.flatMap A4)[j]? = some u → w.cell? (ad.add j) = some u := by
  intro j u hj
  have hlt : j < l.length * 4 := by
    have := (List.getElem?_eq_some_iff.1 hj).1
    rwa [a4_len] at this
  obtain ⟨b, off, ea, _, _, hc⟩ := h.at (by omega)
  cases ea
  obtain ⟨i, k, hk, rfl⟩ : ∃ i k, k < 4 ∧ j = i * 4 + k := ⟨j / 4, j % 4, by omega, by omega⟩
  rw [a4_get l i (by omega) k hk] at hj
  obtain ⟨h0, h1, h2, h3⟩ := hc i (by omega)
  rw [add_at', ← Nat.add_assoc]
  rcases (show k = 0 ∨ k = 1 ∨ k = 2 ∨ k = 3 by omega) with rfl | rfl | rfl | rfl <;> simp [A4] at hj <;> subst hj
  · exact h0
  · exact h1
  · exact h2
  · exact h3
theorem ones_as (l : List Acc) : ∀ u ∈ l.flatMap A4, u.oneCell' = true := by
  intro u hu
  obtain ⟨a, _, hu⟩ := List.mem_flatMap.1 hu
  simp [A4] at hu
  rcases hu with rfl | rfl | rfl | rfl <;> rfl
theorem asB_of_own {D : Nat → Prop} {base : Nat} {w : World} {e : TypeId} {v : Value} {l : List Acc} (h : w.ownsRow base e 4 v l.length (l.flatMap A4)) (hb : ∀ k, D k → k < base) : AsB D w v l := by
  rcases h.2 with ⟨rfl, h2⟩ | ⟨g, cap, cur, rfl, hg, hh, hc, hm, hs, ht⟩
  · have : l = [] := List.eq_nil_of_length_eq_zero h2
    subst this
    exact ⟨none, 0, rfl, Nat.le_refl _, fun h => absurd h (Nat.not_lt_zero _)⟩
  · refine ⟨_, cap, rfl, hc, fun _ => ⟨g, 0, rfl, fun x => Nat.not_lt.2 hg (hb _ x), heap_lt hh, fun i hi => ?_⟩⟩
    have h3 : ∀ j, j < 4 → cur[i * 4 + j]? = (A4 (aN l i))[j]? := by
      intro j hj
      rw [← a4_get l i hi j hj, ← ht, List.getElem?_take, if_pos (by omega), Array.getElem?_toList]
    rw [Nat.zero_add]
    exact ⟨cell_at hh (h3 0 (by omega)), cell_at hh (h3 1 (by omega)), cell_at hh (h3 2 (by omega)), cell_at hh (h3 3 (by omega))⟩
def RetAs (D : Nat → Prop) (l : List Acc) (w : World) (e : Ending) (w' : World) : Prop := ∃ v, e = .returned v ∧ AsB D w' v l ∧ Ext w w'
theorem Try.infoAcc : (Try.prog.info? 70).map (fun i => (i.zero, i.size, i.bytes)) = some (some (.agg #[.int .i64 0, .int .i64 0, .int .u64 0, .int .u64 0]), 4, 32) := by kernel_rfl

set_option maxRecDepth 8000 in
set_option maxHeartbeats 1000000 in
theorem cloneA_any (D : Nat → Prop) (l : List Acc) (v : Value) (w : World) (hU : AsB (fun _ => False) w v l) (hl : l.length ≤ 1000) (hb : ∀ k, D k → k < w.heap.size) :
    Calls Try.prog 29 #[v] w (RetAs D l w) := by
  have HU := Lib.hid hU
  obtain ⟨a0, cap, rfl, hc, hcell⟩ := hU
  have hq : ∀ a n c w, (binOp .eql 40 (.slice a n c) (.slice none 0 0)).run Try.prog w = .ok (.bool a.isNone) w := fun a n c w => eql_slice _ w _ _ a n c Try.underlying40
  obtain ⟨iU, hiU, hy0, hy1, hy2⟩ := info_parts Try.infoAcc
  cases a0 with
  | none =>
    have e0 : l = [] := by
      cases l with
      | nil => rfl
      | cons x l => obtain ⟨b, off, ea, _⟩ := hcell (by simp); cases ea
    subst e0
    clear hcell HU
    go_enter Try.func29, Try.ntmps29
    go_wp2
    go_ret
    exact ⟨_, rfl, ⟨none, 0, rfl, Nat.le_refl _, fun h => absurd h (Nat.not_lt_zero _)⟩, ext_refl _⟩
  | some ad =>
    clear hcell
    go_enter Try.func29, Try.ntmps29
    go_wp2_with (at_builtin; refine wpList_append_own _ rfl (.tmp 5) (.tmp 6) 40 rfl w.heap.size 70 iU _ 4 32 Try.underlying40 hiU hy0 hy1 hy2 rfl (by decide) (.slice (some ⟨w.heap.size, 0, none⟩) 0 0) 0 [] rfl (own_none _ _ _ _ _ rfl (Nat.le_refl _)) ad l.length cap (l.flatMap A4) rfl (a4_len l) (news_as (HU.out.ext (ext_alloc _ (ext_refl w)))) (ones_as l) (by unfold maxLen; omega) (by omega) (by simp) ?_; intro v2 w2 hv2 hg2 hn2; have HV := Lib.hid hv2; have HX2 := Lib.hid (ext_own (w := w) (ext_alloc _ (ext_refl w)) (own_none _ _ _ 1 _ rfl (Nat.le_refl _)) hg2); clear hv2 hg2 hn2)
    go_ret
    refine ⟨_, rfl, ?_, HX2.out⟩
    have hv := HV.out
    rw [Nat.zero_add, List.nil_append] at hv
    exact asB_of_own hv hb

/-- A program that is over: Over. -/
def RetOver (D : Nat → Prop) (t : List (BitVec 64)) (w : World) (e : Ending) (w' : World) : Prop := ∃ v, e = .returned (.tuple #[v, .bool true]) ∧ UsB D w' v t ∧ Ext w w'
set_option maxRecDepth 8000 in
set_option maxHeartbeats 1000000 in
theorem over_yes (D : Nat → Prop) (t : List (BitVec 64)) (v : Value) (w : World) (hP : PH D [] t v w) (hl : t.length ≤ 1000) (hb : ∀ k, D k → k < w.heap.size) :
    Calls Try.prog 34 #[v] w (RetOver D t w) := by
  obtain ⟨rv, parts, rfl, hU⟩ := hP
  obtain ⟨ra, cap, rfl, _⟩ := id hU
  have HU := Lib.hid hU
  clear hU
  have n0 : ∀ w, (binOp .neq 84 .nilFunc .nilFunc).run Try.prog w = .ok (.bool false) w := fun w => neq_nil w fnUs
  unfold pV
  go_enter Try.func34, Try.ntmps34
  go_wp2_with (go_at_call 45; refine (ownU_any D t _ _ (HU.out.us.ext (ext_alloc _ (ext_refl w))) hl (fun k hk => by simpa using Nat.lt_succ_of_lt (hb k hk))).mono ?_; rintro e w' ⟨v', rfl, hu, hx⟩; have HU' := Lib.hid hu; have HX := Lib.hid (ext_trans (ext_alloc _ (ext_refl w)) hx); clear hu hx)
  go_ret2
  exact ⟨_, rfl, HU'.out, HX.out⟩
set_option maxRecDepth 8000 in
set_option maxHeartbeats 1000000 in
theorem over_no (D : Nat → Prop) (a : Acc) (l : List Acc) (t : List (BitVec 64)) (v : Value) (w : World) (hP : PH D (a :: l) t v w) :
    Calls Try.prog 34 #[v] w (Ret (.tuple #[.slice none 0 0, .bool false]) w) := by
  obtain ⟨g, caps, parts, rfl, _⟩ := hP
  have n0 : ∀ f x y w, (binOp .neq 84 (.func f x y) .nilFunc).run Try.prog w = .ok (.bool true) w := fun f x y w => neq_fn w fnUs f x y
  unfold pV
  go_enter Try.func34, Try.ntmps34
  go_wp2
  go_ret2
  exact Ret.mk (ext_alloc _ (ext_refl w))

def accV (a : Acc) : Value := .agg #[.int .i64 a.op, .int .i64 a.at_, .int .u64 (U a.a), .int .u64 (U a.b)]

end Go.Proofs.Ythepcnffadjeaaa
