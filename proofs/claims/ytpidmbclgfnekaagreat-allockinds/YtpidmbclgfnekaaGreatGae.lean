/-
  What the calls of with and words come to, and slices.Reverse of words. Conditions: those of each theorem.
-/
import Derived.Test.YtpidmbclgfnekaaGreatGad
import Derived.Shelf.Abstract
namespace Go.Proofs.YtpidmbclgfnekaaGreat
open Go Go.RowKit

def RetTold (D : Nat → Prop) (r : List (BitVec 64)) (w : World) (e : Ending) (w' : World) : Prop := ∃ v, e = .returned v ∧ Told D w' r v ∧ Ext w w'
theorem rev_take_succ (l r : List (BitVec 64)) (k : Nat) (h : k < l.length) : (l.take (k + 1)).reverse ++ r = uN l k :: ((l.take k).reverse ++ r) := by
  rw [List.take_succ_eq_append_getElem h, List.reverse_append]
  simp [uN, List.getD_eq_getElem?_getD, h]
theorem told_new {D : Nat → Prop} {w : World} {r : List (BitVec 64)} {p : Value} (h : Told D w r p) (hb : ∀ k, D k → k < w.heap.size) (x : BitVec 64) (t : TypeId) :
    Told D (w.alloc (.cells #[.int .u64 (U x), p] t)) (x :: r) (.pointer (some ⟨w.heap.size, 0, none⟩)) := by
  have h0 := heap_alloc_new w (.cells #[.int .u64 (U x), p] t)
  exact ⟨_, p, rfl, fun x => absurd (hb _ x) (Nat.lt_irrefl _), by simp, cell_at h0 rfl, cell_at h0 rfl, h.ext (ext_alloc _ (ext_refl w))⟩
theorem Told.ptr {D : Nat → Prop} {w : World} : ∀ {r : List (BitVec 64)} {v : Value}, Told D w r v → ∃ p, v = .pointer p
  | [], _, h => ⟨none, h⟩
  | _ :: _, _, ⟨_, _, e, _⟩ => ⟨_, e⟩
def WithRel (D : Nat → Prop) (l r : List (BitVec 64)) (w : World) (t i : Value) (wr : World) : Prop :=
  ∃ k : Nat, k ≤ l.length ∧ i = .int .i64 (k : Int) ∧ Told D wr ((l.take k).reverse ++ r) t ∧ Ext w wr

set_option maxHeartbeats 1000000 in
theorem with_any (D : Nat → Prop) (l r : List (BitVec 64)) (v wv : Value) (w : World) (hT : Told D w r v) (hU : Us w wv l) (hl : l.length ≤ 1000) (hb : ∀ k, D k → k < w.heap.size) :
    Calls Tryz.prog 209 #[v, wv] w (RetTold D (l.reverse ++ r) w) := by
  have HT := Lib.hid hT
  have HU := Lib.hid hU
  obtain ⟨a0, cap, rfl, hc, hcell⟩ := hU
  clear hcell hT
  go_enter Tryz.func209, Tryz.ntmps209
  go_wp2
  go_loopw [0, 9] (fun t i wr => WithRel D l r w t i wr) (fun t i _ => (l.length - intOf i).toNat)
  case atStart => exact ⟨0, Nat.zero_le _, rfl, HT.out, ext_refl w⟩
  case round =>
    obtain ⟨k, hk, rfl, hT, hX⟩ := hrel
    have HK := Lib.hid hT
    have HX := Lib.hid hX
    obtain ⟨p, rfl⟩ := hT.ptr
    clear hT hX
    by_cases hlt : k < l.length
    · obtain ⟨b, off, rfl, hb', hcells⟩ := (HU.out.ext HX.out).at (by omega)
      have c1 := hcells k hlt
      clear hcells
      go_wp2
      refine ⟨⟨k + 1, by omega, by go_num, ?_, ext_alloc _ HX.out⟩, by simp [intOf]; omega⟩
      rw [rev_take_succ l r k hlt]
      exact told_new HK.out (fun k hk => Nat.lt_of_lt_of_le (hb k hk) HX.out.size) _ _
    · obtain rfl : k = l.length := by omega
      go_wp2
      go_ret
      refine ⟨_, rfl, ?_, HX.out⟩
      rw [← List.take_length (l := l)]
      exact HK.out

/-- The cells of a row of words, the first k and the last k of n turned about. -/
def revN (n : Nat) (x : Nat → BitVec 64) (k i : Nat) : BitVec 64 := if i < k ∨ n - 1 - k < i then x (n - 1 - i) else x i
structure RowIs (g n : Nat) (x : Nat → BitVec 64) (w : World) : Prop where
  blk : ∃ c, w.heap[g]? = some (.cells c 40 (0, 0)) ∧ ∀ i, i < n → c[i]? = some (.int .u64 (U (x i)))
theorem RowIs.cell {g n : Nat} {x : Nat → BitVec 64} {w : World} (h : RowIs g n x w) {i : Nat} (hi : i < n) : w.cell? ⟨g, i, none⟩ = some (.int .u64 (U (x i))) := by
  obtain ⟨c, hc, hx⟩ := h.blk
  exact cell_at hc (hx i hi)
theorem RowIs.free {g n : Nat} {x : Nat → BitVec 64} {w : World} (h : RowIs g n x w) (i : Nat) : w.frozen? ⟨g, i, none⟩ = false := by
  obtain ⟨c, hc, _⟩ := h.blk
  exact free_at hc
theorem RowIs.set {g n : Nat} {x : Nat → BitVec 64} {w : World} (h : RowIs g n x w) (i : Nat) (y : BitVec 64) : RowIs g n (fun j => if j = i then y else x j) (w.setCell ⟨g, i, none⟩ (.int .u64 (U y))) := by
  obtain ⟨c, hc, hx⟩ := h.blk
  refine ⟨_, set_same _ hc, fun j hj => ?_⟩
  rw [Array.getElem?_setIfInBounds]
  have hj' := hx j hj
  have hlt : j < c.size := (Array.getElem?_eq_some_iff.1 hj').1
  by_cases hij : i = j
  · subst hij; simp [hlt]
  · rw [if_neg hij, hj']; simp [Ne.symm hij]
theorem RowIs.congr {g n : Nat} {x y : Nat → BitVec 64} {w : World} (h : RowIs g n x w) (e : ∀ i, i < n → x i = y i) : RowIs g n y w := by
  obtain ⟨c, hc, hx⟩ := h.blk
  exact ⟨c, hc, fun i hi => by rw [← e i hi]; exact hx i hi⟩
theorem RowIs.fr {g n : Nat} {x : Nat → BitVec 64} {w w' : World} (h : RowIs g n x w) (hb : w'.heap[g]? = w.heap[g]?) : RowIs g n x w' := by
  obtain ⟨c, hc, hx⟩ := h.blk
  exact ⟨c, hb.trans hc, hx⟩
def RevRel (g n : Nat) (x : Nat → BitVec 64) (w : World) (i j : Value) (wr : World) : Prop :=
  ∃ k : Nat, 2 * k ≤ n ∧ i = .int .i64 (k : Int) ∧ j = .int .i64 ((n : Int) - 1 - k) ∧ RowIs g n (revN n x k) wr ∧ Fr g (g + 1) w wr
def RetRev (g n : Nat) (x : Nat → BitVec 64) (w : World) (e : Ending) (w' : World) : Prop :=
  e = .returned (.tuple #[]) ∧ RowIs g n (fun i => x (n - 1 - i)) w' ∧ Fr g (g + 1) w w'

set_option maxHeartbeats 1000000 in
theorem rev_row (g n cap : Nat) (x : Nat → BitVec 64) (w : World) (hn : n ≤ 1000) (hR : RowIs g n x w) :
    Calls Tryz.prog 210 #[.slice (some ⟨g, 0, none⟩) n cap] w (RetRev g n x w) := by
  have HR := Lib.hid hR
  clear hR
  go_enter Tryz.func210, Tryz.ntmps210
  go_wp2
  go_loopw [2, 3] (fun i j wr => RevRel g n x w i j wr) (fun i j _ => (n - intOf i).toNat)
  case atStart =>
    refine ⟨0, Nat.zero_le _, rfl, by simp, HR.out.congr fun i hi => ?_, Fr.refl _ _ _⟩
    unfold revN
    rw [if_neg (by omega)]
  case round =>
    obtain ⟨k, hk, rfl, rfl, hr, hf⟩ := hrel
    have HK := Lib.hid hr
    have HF := Lib.hid hf
    clear hr hf
    by_cases hlt : (k : Int) < (n : Int) - 1 - k
    · have ei : (n : Int) - 1 - k = ((n - 1 - k : Nat) : Int) := by omega
      rw [ei]
      have c1 := HK.out.cell (i := k) (by omega)
      have c2 := HK.out.cell (i := n - 1 - k) (by omega)
      have f1 := HK.out.free k
      have hg := cell_lt c1
      have f2 := HK.out.free (n - 1 - k)
      go_wp2
      go_region
      all_goals (try go_wp2)
      refine ⟨⟨k + 1, by omega, by go_num, ?_, ?_, ?_⟩, by simp [intOf]; omega⟩
      · show Value.int .i64 (((n - 1 - k : Nat) : Int) - 1) = .int .i64 ((n : Int) - 1 - ((k + 1 : Nat) : Int))
        congr 1
        omega
      · refine (RowIs.fr (w' := World.drew _) ((HK.out.set k (revN n x k (n - 1 - k))).set (n - 1 - k) (revN n x k k)) rfl).congr fun i hi => ?_
        have e1 : n - 1 - (n - 1 - k) = k := by omega
        unfold revN
        by_cases h1 : i = n - 1 - k
        · subst h1
          rw [if_pos rfl, if_neg (by omega), if_pos (by omega), e1]
        · by_cases h2 : i = k
          · subst h2
            rw [if_neg h1, if_pos rfl, if_neg (by omega), if_pos (by omega)]
          · rw [if_neg h1, if_neg h2]
            by_cases h3 : i < k ∨ n - 1 - k < i
            · rw [if_pos h3, if_pos (by omega)]
            · rw [if_neg h3, if_neg (by omega)]
      · exact ((HF.out.set _ (Nat.le_refl _) (Nat.lt_succ_self _)).set _ (Nat.le_refl _) (Nat.lt_succ_self _)).drew
    · go_wp2
      refine bodyPost_ret (v := .tuple #[]) (by simp [results, Tryz.results210, go_sem]) rfl ⟨rfl, HK.out.congr fun i hi => ?_, HF.out⟩
      unfold revN
      by_cases h3 : i < k ∨ n - 1 - k < i
      · rw [if_pos h3]
      · rw [if_neg h3, show n - 1 - i = i by omega]

set_option maxHeartbeats 1000000 in
theorem rev_nil (w : World) : Calls Tryz.prog 210 #[.slice none 0 0] w (Ret (.tuple #[]) w) := by
  go_enter Tryz.func210, Tryz.ntmps210
  go_wp2
  refine wp_loop_rounds 1 ?_
  rw [rounds_succ]
  go_wp2
  exact bodyPost_ret (v := .tuple #[]) (by simp [results, Tryz.results210, go_sem]) rfl (Ret.mk (ext_refl _))

def W1 (x : BitVec 64) : Value := .int .u64 (U x)
theorem Tryz.infoU64t : (Tryz.prog.info? 40).map (fun i => (i.zero, i.size, i.bytes)) = some (some (.int .u64 0), 1, 8) := by kernel_rfl
theorem row_of_own {w : World} {base : Nat} {v : Value} {l : List (BitVec 64)} (h : w.ownsRow base 40 1 v l.length (l.map W1)) :
    (v = .slice none 0 0 ∧ l = []) ∨ ∃ g cap, v = .slice (some ⟨g, 0, none⟩) l.length cap ∧ l.length ≤ cap ∧ base ≤ g ∧ g < w.heap.size ∧ RowIs g l.length (uN l) w := by
  rcases h.2 with ⟨h1, h2⟩ | ⟨g, cap, cur, rfl, hg, hh, hc, hm, hs, ht⟩
  · exact .inl ⟨h1, List.eq_nil_of_length_eq_zero h2⟩
  · refine .inr ⟨g, cap, rfl, hc, hg, heap_lt hh, ⟨cur, hh, fun i hi => ?_⟩⟩
    have h3 : (cur.toList.take (l.length * 1))[i]? = (l.map W1)[i]? := by rw [ht]
    rw [List.getElem?_take, if_pos (by omega), Array.getElem?_toList, List.getElem?_map, List.getElem?_eq_getElem hi] at h3
    rw [h3]
    simp [W1, uN, List.getD_eq_getElem?_getD, hi]
def WordsRel (D : Nat → Prop) (r : List (BitVec 64)) (w : World) (t l : Value) (wr : World) : Prop :=
  ∃ r1 r2, r = r1 ++ r2 ∧ Told D w r2 t ∧ wr.ownsRow w.heap.size 40 1 l r1.length (r1.map W1) ∧ Ext w wr
def RetWords (r : List (BitVec 64)) (w : World) (e : Ending) (w' : World) : Prop := ∃ v, e = .returned v ∧ UsB (· < w.heap.size) w' v r.reverse ∧ Ext w w'
def sliceLen : Value → Nat
  | .slice _ n _ => n
  | _ => 0
theorem own_len {w : World} {base : Nat} {e : TypeId} {size : Nat} {v : Value} {n : Nat} {xs : List Value} (h : w.ownsRow base e size v n xs) : sliceLen v = n := by
  rcases h.2 with ⟨rfl, h2⟩ | ⟨g, cap, cur, rfl, _⟩
  · exact h2.symm
  · rfl

set_option maxHeartbeats 1000000 in
theorem words_any (D : Nat → Prop) (r : List (BitVec 64)) (v : Value) (w : World) (hT : Told D w r v) (hl : r.length ≤ 1000) :
    Calls Tryz.prog 207 #[v] w (RetWords r w) := by
  have HT := Lib.hid hT
  clear hT
  obtain ⟨iU, hiU, hy0, hy1, hy2⟩ := info_parts Tryz.infoU64t
  go_enter Tryz.func207, Tryz.ntmps207
  go_wp2
  go_loopw [0, 3] (fun t l wr => WordsRel D r w t l wr) (fun t l _ => r.length - sliceLen l)
  case atStart => exact ⟨[], r, rfl, HT.out, World.ownsRow_nil _ _ _ _, ext_refl w⟩
  case round =>
    obtain ⟨r1, r2, hr, hT, hO, hX⟩ := hrel
    have HO := Lib.hid hO
    have HX := Lib.hid hX
    have HR := Lib.hid hr
    have hlen : r.length = r1.length + r2.length := by rw [hr]; simp
    clear hO hX hr HT
    cases r2 with
    | nil =>
      cases hT
      rcases row_of_own HO.out with ⟨rfl, rfl⟩ | ⟨g, cap, rfl, hc, hg, hlt, hR⟩
      · go_wp2_with (go_at_call 210; refine (rev_nil _).mono ?_; rintro e w' hr'; obtain ⟨rfl, s, rfl⟩ := hr'.over; clear hr')
        go_ret
        exact ⟨_, rfl, by rw [HR.out]; exact UsB.nil _ _, ext_over s HX.out⟩
      · skip
        have HRow := Lib.hid hR
        clear hR
        go_wp2_with (go_at_call 210; refine (rev_row g r1.length cap (uN r1) _ (by simp at hlen; omega) HRow.out).mono ?_; rintro e w' ⟨rfl, hr', hf'⟩; have HR' := Lib.hid hr'; have HF' := Lib.hid hf'; clear hr' hf')
        go_ret
        refine ⟨_, rfl, ?_, HF'.out.below HX.out hg⟩
        have er : r = r1 := by rw [HR.out]; simp
        rw [er]
        refine ⟨_, cap, by rw [List.length_reverse]; rfl, by simpa using hc, fun _ => ⟨g, 0, rfl, Nat.not_lt.2 hg, Nat.lt_of_lt_of_le hlt HF'.out.size, fun i hi => ?_⟩⟩
        have hi' : i < r1.length := by simpa using hi
        rw [Nat.zero_add, HR'.out.cell hi']
        simp [uN, List.getD_eq_getElem?_getD, List.getElem?_reverse hi']
    | cons x r2 =>
      obtain ⟨g, p, rfl, h0, hlt, c0, c1, hT⟩ := hT
      have HT := Lib.hid hT
      obtain ⟨q, rfl⟩ := hT.ptr
      clear hT
      have d0 := ext_cell HX.out c0
      have d1 := ext_cell HX.out c1
      have c1' := c1
      have hlt' := Nat.lt_of_lt_of_le hlt HX.out.size
      clear c0 c1
      have HO1 := Lib.hid (own_ext' HO.out (ext_alloc (.cells #[.int .u64 (U x)] 40) (ext_refl wr)))
      go_wp2_with (at_builtin; refine wpList_append_own _ rfl (.tmp 10) (.tmp 15) 116 rfl w.heap.size 40 iU (.int .u64 0) 1 8 Tryz.underlying116 hiU hy0 hy1 hy2 rfl (by decide) u3 r1.length (r1.map W1) rfl HO1.out ⟨wr.heap.size, 0, none⟩ 1 1 [.int .u64 (U x)] rfl rfl (newp _ _ _ _ rfl) (by simp [Value.oneCell']) (by unfold maxLen; omega) (by omega) (by have := HX.out.size; simp; omega) ?_; intro v2 w2 hv2 hg2 hn2; have HV := Lib.hid hv2; have HX2 := Lib.hid (ext_own (ext_alloc _ HX.out) HO1.out hg2); clear hv2 hg2 hn2; have d2 := ext_cell HX2.out c1')
      have e2 : r = (r1 ++ [x]) ++ r2 := by rw [HR.out]; simp
      have hV : w2.ownsRow w.heap.size 40 1 v2 (r1 ++ [x]).length ((r1 ++ [x]).map W1) := by
        rw [List.map_append, List.length_append]
        exact HV.out
      refine ⟨⟨r1 ++ [x], r2, e2, HT.out, hV, HX2.out⟩, ?_⟩
      rw [own_len hV, own_len HO.out]
      simp at hlen ⊢
      omega

end Go.Proofs.YtpidmbclgfnekaaGreat

/-
  What the calls of slices.Clone, own, Over and Access come to. Conditions: those of each theorem.
-/
namespace Go.Proofs.YtpidmbclgfnekaaGreat
open Go Go.RowKit

theorem eql_slice (P : Program) (w : World) (t e : TypeId) (a : Option Addr) (n c : Nat) (h : P.underlying t = some (.slice e)) : (binOp .eql t (.slice a n c) (.slice none 0 0)).run P w = .ok (.bool a.isNone) w := by
  have h1 : ∀ d, (Op.equalIn (d + 1) t (.slice a n c) (.slice none 0 0)).run P w = .ok a.isNone w := by
    intro d
    cases a <;> simp [Op.equalIn, run_underlying h]
  simp only [binOp]
  simp [show Op.equal t (.slice a n c) (.slice none 0 0) = Op.equalIn (9999 + 1) t (.slice a n c) (.slice none 0 0) from rfl, h1 9999]
theorem news_us {w : World} {ad : Addr} {n c : Nat} {l : List (BitVec 64)} (h : Us w (.slice (some ad) n c) l) : ∀ j u, (l.map W1)[j]? = some u → w.cell? (ad.add j) = some u := by
  intro j u hj
  have hlt : j < l.length := by
    have := (List.getElem?_eq_some_iff.1 hj).1
    simpa using this
  obtain ⟨b, off, ea, _, hc⟩ := h.at (by omega)
  cases ea
  rw [add_at', hc j hlt]
  rw [List.getElem?_map, List.getElem?_eq_getElem hlt] at hj
  simp [W1] at hj
  rw [← hj]
  simp [uN, List.getD_eq_getElem?_getD, hlt]
theorem ones_us (l : List (BitVec 64)) : ∀ u ∈ l.map W1, u.oneCell' = true := by
  intro u hu
  obtain ⟨i, _, rfl⟩ := List.mem_map.1 hu
  rfl
theorem usB_of_own {D : Nat → Prop} {base : Nat} {w : World} {v : Value} {l : List (BitVec 64)} (h : w.ownsRow base 40 1 v l.length (l.map W1)) (hb : ∀ k, D k → k < base) : UsB D w v l := by
  rcases row_of_own h with ⟨rfl, rfl⟩ | ⟨g, cap, rfl, hc, hg, hlt, hR⟩
  · exact UsB.nil _ _
  · exact ⟨_, cap, rfl, hc, fun _ => ⟨g, 0, rfl, fun x => Nat.not_lt.2 hg (hb _ x), hlt, fun i hi => by rw [Nat.zero_add]; exact hR.cell hi⟩⟩
def RetUs (D : Nat → Prop) (l : List (BitVec 64)) (w : World) (e : Ending) (w' : World) : Prop := ∃ v, e = .returned v ∧ UsB D w' v l ∧ Ext w w'

set_option maxRecDepth 8000 in
set_option maxHeartbeats 1000000 in
theorem cloneU_any (D : Nat → Prop) (l : List (BitVec 64)) (v : Value) (w : World) (hU : Us w v l) (hl : l.length ≤ 1000) (hb : ∀ k, D k → k < w.heap.size) :
    Calls Tryz.prog 142 #[v] w (RetUs D l w) := by
  have HU := Lib.hid hU
  obtain ⟨a0, cap, rfl, hc, hcell⟩ := hU
  have hq : ∀ a n c w, (binOp .eql 116 (.slice a n c) (.slice none 0 0)).run Tryz.prog w = .ok (.bool a.isNone) w := fun a n c w => eql_slice _ w _ _ a n c Tryz.underlying116
  obtain ⟨iU, hiU, hy0, hy1, hy2⟩ := info_parts Tryz.infoU64t
  cases a0 with
  | none =>
    have e0 : l = [] := by
      cases l with
      | nil => rfl
      | cons x l => obtain ⟨b, off, ea, _⟩ := hcell (by simp); cases ea
    subst e0
    clear hcell HU
    go_enter Tryz.func142, Tryz.ntmps142
    go_wp2
    go_ret
    exact ⟨_, rfl, UsB.nil _ _, ext_refl _⟩
  | some ad =>
    clear hcell
    go_enter Tryz.func142, Tryz.ntmps142
    go_wp2_with (at_builtin; refine wpList_append_own _ rfl (.tmp 5) (.tmp 6) 116 rfl w.heap.size 40 iU (.int .u64 0) 1 8 Tryz.underlying116 hiU hy0 hy1 hy2 rfl (by decide) (.slice (some ⟨w.heap.size, 0, none⟩) 0 0) 0 [] rfl (own_none _ _ _ _ _ rfl (Nat.le_refl _)) ad l.length cap (l.map W1) rfl (by simp) (news_us (HU.out.ext (ext_alloc _ (ext_refl w)))) (ones_us l) (by unfold maxLen; omega) (by omega) (by simp) ?_; intro v2 w2 hv2 hg2 hn2; have HV := Lib.hid hv2; have HX2 := Lib.hid (ext_own (w := w) (ext_alloc _ (ext_refl w)) (own_none _ _ _ 1 _ rfl (Nat.le_refl _)) hg2); clear hv2 hg2 hn2)
    go_ret
    refine ⟨_, rfl, ?_, HX2.out⟩
    have hv := HV.out
    rw [Nat.zero_add, List.nil_append] at hv
    exact usB_of_own hv hb

set_option maxRecDepth 8000 in
set_option maxHeartbeats 1000000 in
theorem ownU_any (D : Nat → Prop) (l : List (BitVec 64)) (v : Value) (w : World) (hU : Us w v l) (hl : l.length ≤ 1000) (hb : ∀ k, D k → k < w.heap.size) :
    Calls Tryz.prog 201 #[v] w (RetUs D l w) := by
  have HU := Lib.hid hU
  have ta : ∀ v w, (Instr.typeAssert (.iface 196 v) 20 196 true).run Tryz.prog w = .ok (.tuple #[v, .bool true]) w := assert_yes
  obtain ⟨a0, cap, rfl, hc, hcell⟩ := hU
  clear hcell
  go_enter Tryz.func201, Tryz.ntmps201
  go_wp2_with (go_at_call 142; refine (cloneU_any (fun k => k < w.heap.size + 1) l _ _ (HU.out.ext (ext_alloc _ (ext_refl w))) hl (fun k hk => by simpa using hk)).mono ?_; rintro e w' ⟨v', rfl, hu, hx⟩; obtain ⟨a1, cap1, rfl, _⟩ := id hu; have HU' := Lib.hid hu; have hbx := (hx.block w.heap.size (by simp)).trans (heap_alloc_new w _); have HX := Lib.hid hx; have cb := cell_at (o := 0) hbx rfl; have cz := free_at (o := 0) hbx; have hlt := heap_lt hbx; clear hu hx hbx)
  go_ret
  refine ⟨_, rfl, ?_, ext_set _ (Nat.le_refl _) (ext_trans (ext_alloc _ (ext_refl w)) HX.out)⟩
  exact (HU'.out.fr (FD.of_fr ((Fr.refl 0 (w.heap.size + 1) w').set (p := ⟨w.heap.size, 0, none⟩) _ (Nat.zero_le _) (Nat.lt_succ_self _)) fun k _ h => h)).mono fun k hk => Nat.lt_succ_of_lt (hb k hk)

/-- The cells of an access. -/
def A4 (a : Acc) : List Value := [.int .i64 a.op, .int .i64 a.at_, .int .u64 (U a.a), .int .u64 (U a.b)]
theorem a4_len (l : List Acc) : (l.flatMap A4).length = l.length * 4 := by
  induction l with
  | nil => rfl
  | cons p l ih => rw [List.flatMap_cons, List.length_append, ih]; simp [A4]; omega
theorem a4_get (l : List Acc) : ∀ i, i < l.length → ∀ j, j < 4 → (l.flatMap A4)[i * 4 + j]? = (A4 (aN l i))[j]? := by
  induction l with
  | nil => intro i hi; exact absurd hi (Nat.not_lt_zero _)
  | cons p l ih =>
    intro i hi j hj
    rw [List.flatMap_cons]
    cases i with
    | zero =>
      rw [List.getElem?_append_left (by simp [A4]; omega), Nat.zero_mul, Nat.zero_add]
      rfl
    | succ k =>
      have h := ih k (by simpa using hi) j hj
      rw [show (k + 1) * 4 + j = 4 + (k * 4 + j) by omega, List.getElem?_append_right (by simp [A4])]
      simp only [A4, List.length_cons, List.length_nil, Nat.zero_add, Nat.reduceAdd, Nat.add_sub_cancel_left]
      exact h
theorem news_as {D : Nat → Prop} {w : World} {ad : Addr} {n c : Nat} {l : List Acc} (h : AsB D w (.slice (some ad) n c) l) : ∀ j u, (l.flatMap A4)[j]? = some u → w.cell? (ad.add j) = some u := by
  intro j u hj
  have hlt : j < l.length * 4 := by
    have := (List.getElem?_eq_some_iff.1 hj).1
    rwa [a4_len] at this
  obtain ⟨b, off, ea, _, _, hc⟩ := h.at (by omega)
  cases ea
  obtain ⟨i, k, hk, rfl⟩ : ∃ i k, k < 4 ∧ j = i * 4 + k := ⟨j / 4, j % 4, by omega, by omega⟩
  rw [a4_get l i (by omega) k hk] at hj
  obtain ⟨h0, h1, h2, h3⟩ := hc i (by omega)
  rw [add_at', ← Nat.add_assoc]
  rcases (show k = 0 ∨ k = 1 ∨ k = 2 ∨ k = 3 by omega) with rfl | rfl | rfl | rfl <;> simp [A4] at hj <;> subst hj
  · exact h0
  · exact h1
  · exact h2
  · exact h3
theorem ones_as (l : List Acc) : ∀ u ∈ l.flatMap A4, u.oneCell' = true := by
  intro u hu
  obtain ⟨a, _, hu⟩ := List.mem_flatMap.1 hu
  simp [A4] at hu
  rcases hu with rfl | rfl | rfl | rfl <;> rfl
theorem asB_of_own {D : Nat → Prop} {base : Nat} {w : World} {e : TypeId} {v : Value} {l : List Acc} (h : w.ownsRow base e 4 v l.length (l.flatMap A4)) (hb : ∀ k, D k → k < base) : AsB D w v l := by
  rcases h.2 with ⟨rfl, h2⟩ | ⟨g, cap, cur, rfl, hg, hh, hc, hm, hs, ht⟩
  · have : l = [] := List.eq_nil_of_length_eq_zero h2
    subst this
    exact ⟨none, 0, rfl, Nat.le_refl _, fun h => absurd h (Nat.not_lt_zero _)⟩
  · refine ⟨_, cap, rfl, hc, fun _ => ⟨g, 0, rfl, fun x => Nat.not_lt.2 hg (hb _ x), heap_lt hh, fun i hi => ?_⟩⟩
    have h3 : ∀ j, j < 4 → cur[i * 4 + j]? = (A4 (aN l i))[j]? := by
      intro j hj
      rw [← a4_get l i hi j hj, ← ht, List.getElem?_take, if_pos (by omega), Array.getElem?_toList]
    rw [Nat.zero_add]
    exact ⟨cell_at hh (h3 0 (by omega)), cell_at hh (h3 1 (by omega)), cell_at hh (h3 2 (by omega)), cell_at hh (h3 3 (by omega))⟩
def RetAs (D : Nat → Prop) (l : List Acc) (w : World) (e : Ending) (w' : World) : Prop := ∃ v, e = .returned v ∧ AsB D w' v l ∧ Ext w w'
theorem Tryz.infoAcc : (Tryz.prog.info? 42).map (fun i => (i.zero, i.size, i.bytes)) = some (some (.agg #[.int .i64 0, .int .i64 0, .int .u64 0, .int .u64 0]), 4, 32) := by kernel_rfl

set_option maxRecDepth 8000 in
set_option maxHeartbeats 1000000 in
theorem cloneA_any (D : Nat → Prop) (l : List Acc) (v : Value) (w : World) (hU : AsB (fun _ => False) w v l) (hl : l.length ≤ 1000) (hb : ∀ k, D k → k < w.heap.size) :
    Calls Tryz.prog 203 #[v] w (RetAs D l w) := by
  have HU := Lib.hid hU
  obtain ⟨a0, cap, rfl, hc, hcell⟩ := hU
  have hq : ∀ a n c w, (binOp .eql 237 (.slice a n c) (.slice none 0 0)).run Tryz.prog w = .ok (.bool a.isNone) w := fun a n c w => eql_slice _ w _ _ a n c Tryz.underlying237
  obtain ⟨iU, hiU, hy0, hy1, hy2⟩ := info_parts Tryz.infoAcc
  cases a0 with
  | none =>
    have e0 : l = [] := by
      cases l with
      | nil => rfl
      | cons x l => obtain ⟨b, off, ea, _⟩ := hcell (by simp); cases ea
    subst e0
    clear hcell HU
    go_enter Tryz.func203, Tryz.ntmps203
    go_wp2
    go_ret
    exact ⟨_, rfl, ⟨none, 0, rfl, Nat.le_refl _, fun h => absurd h (Nat.not_lt_zero _)⟩, ext_refl _⟩
  | some ad =>
    clear hcell
    go_enter Tryz.func203, Tryz.ntmps203
    go_wp2_with (at_builtin; refine wpList_append_own _ rfl (.tmp 5) (.tmp 6) 237 rfl w.heap.size 42 iU _ 4 32 Tryz.underlying237 hiU hy0 hy1 hy2 rfl (by decide) (.slice (some ⟨w.heap.size, 0, none⟩) 0 0) 0 [] rfl (own_none _ _ _ _ _ rfl (Nat.le_refl _)) ad l.length cap (l.flatMap A4) rfl (a4_len l) (news_as (HU.out.ext (ext_alloc _ (ext_refl w)))) (ones_as l) (by unfold maxLen; omega) (by omega) (by simp) ?_; intro v2 w2 hv2 hg2 hn2; have HV := Lib.hid hv2; have HX2 := Lib.hid (ext_own (w := w) (ext_alloc _ (ext_refl w)) (own_none _ _ _ 1 _ rfl (Nat.le_refl _)) hg2); clear hv2 hg2 hn2)
    go_ret
    refine ⟨_, rfl, ?_, HX2.out⟩
    have hv := HV.out
    rw [Nat.zero_add, List.nil_append] at hv
    exact asB_of_own hv hb

/-- A program that is over: Over. -/
def RetOver (D : Nat → Prop) (t : List (BitVec 64)) (w : World) (e : Ending) (w' : World) : Prop := ∃ v, e = .returned (.tuple #[v, .bool true]) ∧ UsB D w' v t ∧ Ext w w'
set_option maxRecDepth 8000 in
set_option maxHeartbeats 1000000 in
theorem over_yes (D : Nat → Prop) (t : List (BitVec 64)) (v : Value) (w : World) (hP : PH D [] t v w) (hl : t.length ≤ 1000) (hb : ∀ k, D k → k < w.heap.size) :
    Calls Tryz.prog 194 #[v] w (RetOver D t w) := by
  obtain ⟨rv, parts, rfl, hU⟩ := hP
  obtain ⟨ra, cap, rfl, _⟩ := id hU
  have HU := Lib.hid hU
  clear hU
  have n0 : ∀ w, (binOp .neq 228 .nilFunc .nilFunc).run Tryz.prog w = .ok (.bool false) w := fun w => neq_nil w fnUs
  unfold pV
  go_enter Tryz.func194, Tryz.ntmps194
  go_wp2_with (go_at_call 201; refine (ownU_any D t _ _ (HU.out.us.ext (ext_alloc _ (ext_refl w))) hl (fun k hk => by simpa using Nat.lt_succ_of_lt (hb k hk))).mono ?_; rintro e w' ⟨v', rfl, hu, hx⟩; have HU' := Lib.hid hu; have HX := Lib.hid (ext_trans (ext_alloc _ (ext_refl w)) hx); clear hu hx)
  go_ret2
  exact ⟨_, rfl, HU'.out, HX.out⟩
set_option maxRecDepth 8000 in
set_option maxHeartbeats 1000000 in
theorem over_no (D : Nat → Prop) (a : Acc) (l : List Acc) (t : List (BitVec 64)) (v : Value) (w : World) (hP : PH D (a :: l) t v w) :
    Calls Tryz.prog 194 #[v] w (Ret (.tuple #[.slice none 0 0, .bool false]) w) := by
  obtain ⟨g, caps, parts, rfl, _⟩ := hP
  have n0 : ∀ f x y w, (binOp .neq 228 (.func f x y) .nilFunc).run Tryz.prog w = .ok (.bool true) w := fun f x y w => neq_fn w fnUs f x y
  unfold pV
  go_enter Tryz.func194, Tryz.ntmps194
  go_wp2
  go_ret2
  exact Ret.mk (ext_alloc _ (ext_refl w))

def accV (a : Acc) : Value := .agg #[.int .i64 a.op, .int .i64 a.at_, .int .u64 (U a.a), .int .u64 (U a.b)]

end Go.Proofs.YtpidmbclgfnekaaGreat

/-
  What the calls of List come to. Conditions: those of each theorem.
-/
namespace Go.Proofs.YtpidmbclgfnekaaGreat
open Go Go.RowKit

theorem put7_fd {D : Nat → Prop} {w : World} {b : Nat} (x0 x1 x2 x3 x4 x5 x6 : Value) (hb : D b) : FD D w (put7 b x0 x1 x2 x3 x4 x5 x6 w) := by
  refine FD.of_fr (lo := b) (hi := b + 1) ?_ fun k h1 h2 => by rw [show k = b by omega]; exact hb
  have h := Nat.lt_succ_self b
  have z := Nat.le_refl b
  exact (((((((Fr.refl b (b + 1) w).set (p := ⟨b, 0, none⟩) x0 z h).set (p := ⟨b, 1, none⟩) x1 z h).set (p := ⟨b, 2, none⟩) x2 z h).set (p := ⟨b, 3, none⟩) x3 z h).set (p := ⟨b, 4, none⟩) x4 z h).set (p := ⟨b, 5, none⟩) x5 z h).set (p := ⟨b, 6, none⟩) x6 z h
def RetPL (D : Nat → Prop) (l : List Acc) (t : List (BitVec 64)) (w : World) (e : Ending) (w' : World) : Prop := ∃ v, e = .returned v ∧ Ext w w' ∧ PL D l t v w'
set_option maxRecDepth 8000 in
set_option maxHeartbeats 1000000 in
theorem listed_none (D : Nat → Prop) (t : List (BitVec 64)) (v lv : Value) (w : World) (hT : Told D w t.reverse v) (hA : AsB D w lv []) (hl : t.length ≤ 1000) (hb : ∀ k, D k → k < w.heap.size) :
    Calls Tryz.prog 202 #[v, lv] w (RetPL D [] t w) := by
  obtain ⟨a0, cap, rfl, _⟩ := hA
  have HT := Lib.hid hT
  obtain ⟨p, rfl⟩ := hT.ptr
  clear hT
  simp only [List.length_nil] at *
  go_enter Tryz.func202, Tryz.ntmps202
  go_wp2_with (go_at_call 207; refine (words_any D t.reverse _ _ (HT.out.ext (ext_alloc _ (ext_alloc _ (ext_alloc _ (ext_refl w))))) (by simpa using hl)).mono ?_; rintro e w' ⟨v', rfl, hu, hx⟩; obtain ⟨a1, cap1, rfl, _⟩ := id hu; have hbx := (hx.block (w.heap.size + 1 + 1) (by simp)).trans (heap_at _ _ _ (by simp)); obtain ⟨cc0, cc1, cc2, cc3, cc4, cc5, cc6, cz, ll⟩ := sev_of hbx; have HBX := Lib.hid hbx; have HU' := Lib.hid hu; have HX := Lib.hid (ext_trans (ext_alloc _ (ext_alloc _ (ext_alloc _ (ext_refl w)))) hx); clear hu hx hbx)
  clear cc0 cc1 cc2 cc3 cc4 cc5 cc6 cz ll
  have hB := put7_block (.slice a1 t.reverse.reverse.length cap1) (.int .i64 0) (.int .i64 0) (.int .u64 0) (.int .u64 0) .nilFunc (.pointer none) HBX.out
  have hX := put7_ext (b := w.heap.size + 1 + 1) (.slice a1 t.reverse.reverse.length cap1) (.int .i64 0) (.int .i64 0) (.int .u64 0) (.int .u64 0) .nilFunc (.pointer none) HX.out (by omega)
  have hF := put7_fr (w := w') (b := w.heap.size + 1 + 1) (.slice a1 t.reverse.reverse.length cap1) (.int .i64 0) (.int .i64 0) (.int .u64 0) (.int .u64 0) .nilFunc (.pointer none)
  rw [put7] at hB hX hF
  rw [List.reverse_reverse] at hB hX hF
  generalize (World.setCell _ (⟨w.heap.size + 1 + 1, 6, none⟩ : Addr) _) = Z at hB hX hF ⊢
  obtain ⟨c0, c1, c2, c3, c4, c5, c6, cz, ll⟩ := sev_of hB
  have hu := (HU'.out.fr (FD.of_fr hF fun k _ h => by simpa using h)).mono (D := D) (fun k hk => by have := hb k hk; simp; omega)
  rw [List.reverse_reverse] at hu
  exact bodyPost_ret (v := .agg #[.slice a1 t.length cap1, .int .i64 0, .int .i64 0, .int .u64 0, .int .u64 0, .nilFunc, .pointer none]) (by simp [results, Tryz.results202, go_sem, c0, c1, c2, c3, c4, c5, c6]) rfl ⟨_, rfl, hX, _, by unfold pV accZ; rw [U_0], hu⟩

/-- What is left behind the first. -/
theorem AsB.tail {D : Nat → Prop} {w : World} {b o cap : Nat} {a : Acc} {l : List Acc} (h : AsB D w (.slice (some ⟨b, o, none⟩) (l.length + 1) cap) (a :: l)) (v : Option Addr) (c : Nat) (hv : 0 < l.length → v = some ⟨b, o + 4, none⟩) (hc : l.length ≤ c) : AsB D w (.slice v l.length c) l := by
  obtain ⟨b', o', e, h0, hlt, hcell⟩ := h.at (by simp)
  cases e
  refine ⟨v, c, rfl, hc, fun hl => ⟨b, o + 4, hv hl, h0, hlt, fun i hi => ?_⟩⟩
  have := hcell (i + 1) (by simpa using hi)
  rw [show o + (i + 1) * 4 = o + 4 + i * 4 by omega] at this
  exact this
theorem PL.shape {D : Nat → Prop} {l : List Acc} {t : List (BitVec 64)} {v : Value} {w : World} (h : PL D l t v w) : ∃ sa n c a fn, v = pV (.slice sa n c) a fn (.pointer none) ∧ (fn = .nilFunc ∨ ∃ g caps, fn = .func (.func g) #[] caps) := by
  cases l with
  | nil => obtain ⟨rv, e, hu⟩ := h; obtain ⟨a1, c1, rfl, _⟩ := hu; exact ⟨_, _, _, _, _, e, .inl rfl⟩
  | cons a l => obtain ⟨g, caps, e, _⟩ := h; exact ⟨_, _, _, _, _, e, .inr ⟨_, _, rfl⟩⟩

set_option maxRecDepth 8000 in
set_option maxHeartbeats 1000000 in
theorem listed1 (D : Nat → Prop) (x : BitVec 64) (a : Acc) (l : List Acc) (t : List (BitVec 64)) (v lv : Value) (B1 B2 : Nat) (w : World) (hT : Told D w t.reverse v) (hA : AsB D w lv (a :: l)) (d1 : w.cell? ⟨B1, 0, none⟩ = some v) (d2 : w.cell? ⟨B2, 0, none⟩ = some lv)
    (hl : t.length + l.length ≤ 999) (hb : ∀ k, D k → k < w.heap.size)
    (IH : Hid (∀ (D : Nat → Prop) (t : List (BitVec 64)) v lv w, Told D w t.reverse v → AsB D w lv l → t.length + l.length ≤ 1000 → (∀ k, D k → k < w.heap.size) → Calls Tryz.prog 202 #[v, lv] w (RetPL D l t w))) :
    Calls Tryz.prog 208 #[.int .u64 (U x), .pointer (some ⟨B1, 0, none⟩), .pointer (some ⟨B2, 0, none⟩)] w (RetPL D l (t ++ [x]) w) := by
  have HA := Lib.hid hA
  obtain ⟨a0, cap, rfl, hc, _⟩ := hA
  obtain ⟨b, o, rfl, hb', hlt, hcell⟩ := HA.out.at (by simp)
  have HT := Lib.hid hT
  obtain ⟨p, rfl⟩ := hT.ptr
  have l1 := cell_lt d1
  have l2 := cell_lt d2
  clear hT hcell
  have l1' : B1 < w.heap.size + 1 := by omega
  have l2' : B2 < w.heap.size + 1 := by omega
  simp only [List.length_cons] at hc d2
  have HA' : Hid (AsB D w (.slice (some ⟨b, o, none⟩) (l.length + 1) cap) (a :: l)) := HA
  clear HA
  go_enter Tryz.func208, Tryz.ntmps208
  go_wp2
  generalize hW : w.alloc _ = W
  refine wp_region_mix (fun w' => ∃ s, w' = over W s) [(0, [0, 1, 4, 5]), (1, [2]), (1, [3]), (1, [6]), (2, [7])] (by kernel_rfl) (by kernel_rfl) (over_of (ext_drew (ext_refl W))) ?_
  simp only [pieces, pickL, List.map_cons, List.map_nil, List.getD_cons_zero, List.getD_cons_succ]
  refine mix_reads ?_
  have k1 : W.cell? ⟨B1, 0, none⟩ = some (.pointer p) := by rw [← hW]; exact ext_cell (ext_alloc _ (ext_refl w)) d1
  have k2 : W.cell? ⟨B2, 0, none⟩ = some (.slice (some ⟨b, o, none⟩) (l.length + 1) cap) := by rw [← hW]; exact ext_cell (ext_alloc _ (ext_refl w)) d2
  have m1 := cell_lt k1
  have m2 := cell_lt k2
  repeat (go_big_quiet_step (fail))
  have hva : ∃ va, va = (if cap = 1 then some (⟨b, o, none⟩ : Addr) else some ⟨b, o + 4, none⟩) ∧ (0 < l.length → va = some ⟨b, o + 4, none⟩) := ⟨_, rfl, fun h => if_neg (by omega)⟩
  obtain ⟨va, eva, hva⟩ := hva
  rw [← eva]
  clear eva
  have HV : Hid (AsB D w (.slice va l.length (cap - 1)) l) := Lib.hid (HA'.out.tail va (cap - 1) hva (by omega))
  clear hva HA'
  have HW : Hid (Ext w W) := Lib.hid (by rw [← hW]; exact ext_alloc _ (ext_refl w))
  have hB : W.heap[w.heap.size]? = some (.cells #[.slice none 0 0, .int .i64 0, .int .i64 0, .int .u64 0, .int .u64 0, .nilFunc, .pointer none] 230) := by rw [← hW]; exact heap_alloc_new _ _
  have HB := Lib.hid hB
  clear hB hW d1 d2 k1 k2 m1 m2
  refine wpQuiet_nil (mix_acts ?_)
  go_wp2
  refine mixQ_mk (over_of (ext_alloc _ (ext_drew (ext_refl W)))) (mix_acts ?_)
  have HU : Hid (Us (W.drew.alloc (.cells #[.int .u64 (U x)] 40)) (.slice (some ⟨W.heap.size, 0, none⟩) 1 1) [x]) := by
    have h0 := heap_at W.drew (.cells #[.int .u64 (U x)] 40) W.heap.size rfl
    refine Lib.hid ⟨_, 1, rfl, Nat.le_refl _, fun _ => ⟨_, 0, rfl, by simp, fun i hi => ?_⟩⟩
    have : i = 0 := by simpa using hi
    subst this
    exact cell_at h0 rfl
  have hb1 : ∀ k, (D k ∨ k = w.heap.size) → k < W.heap.size := fun k hk => by
    have := heap_lt HB.out
    rcases hk with hk | rfl
    · have := hb k hk; omega
    · exact this
  have HT1' : Hid (Told (fun k => D k ∨ k = w.heap.size) (W.drew.alloc (.cells #[.int .u64 (U x)] 40)) t.reverse (.pointer p)) := Lib.hid (((HT.out.more (fun k hk h => h.resolve_right (Nat.ne_of_lt hk))).ext HW.out).ext (ext_alloc (.cells #[.int .u64 (U x)] 40) (ext_drew (ext_refl W))))
  have HV' : Hid (AsB (fun k => D k ∨ k = w.heap.size) w (.slice va l.length (cap - 1)) l) := Lib.hid (HV.out.more (fun k hk h => h.resolve_right (Nat.ne_of_lt hk)))
  go_wp2_with (go_at_call 209; refine (with_any (fun k => D k ∨ k = w.heap.size) [x] t.reverse _ _ _ HT1'.out HU.out (by simp) (fun k hk => by have := hb1 k hk; simp; omega)).mono ?_; rintro e w1 ⟨v1, rfl, ht, hx⟩; have HT2 := Lib.hid ht; have HX1 := Lib.hid (ext_trans (ext_alloc _ (ext_drew (ext_refl W))) hx); obtain ⟨p1, rfl⟩ := ht.ptr; clear ht hx)
  refine mixQ_mk (over_of HX1.out) (mix_acts ?_)
  have HV2 := Lib.hid ((HV'.out.ext HW.out).ext HX1.out)
  have HT3 : Hid (Told (fun k => D k ∨ k = w.heap.size) w1 (t ++ [x]).reverse (.pointer p1)) := by
    rw [List.reverse_append]
    exact HT2
  have hb2 : ∀ k, (D k ∨ k = w.heap.size) → k < w1.heap.size := fun k hk => Nat.lt_of_lt_of_le (hb1 k hk) HX1.out.size
  go_wp2_with (go_at_call 202; refine (IH.out (fun k => D k ∨ k = w.heap.size) (t ++ [x]) _ _ _ HT3.out HV2.out (by simp; omega) hb2).mono ?_; rintro e w2 ⟨v2, rfl, hx, hp⟩; have HP := Lib.hid hp; have HX2 := Lib.hid (ext_trans HX1.out hx); obtain ⟨sa, n, c, a', fn, rfl, hfn⟩ := hp.shape; have HFN := Lib.hid hfn; clear hp hx hfn)
  refine mixQ_mk (over_of HX2.out) (mix_late ?_)
  have hbx := (HX2.out.block w.heap.size (heap_lt HB.out)).trans HB.out
  obtain ⟨cc0, cc1, cc2, cc3, cc4, cc5, cc6, cz, ll⟩ := sev_of hbx
  have HBX := Lib.hid hbx
  clear hbx
  have HE := Lib.hid (ext_trans HW.out HX2.out)
  have hX := put7_ext (b := w.heap.size) (.slice sa n c) (.int .i64 a'.op) (.int .i64 a'.at_) (.int .u64 (U a'.a)) (.int .u64 (U a'.b)) fn (.pointer none) HE.out (Nat.le_refl _)
  have hB := put7_block (.slice sa n c) (.int .i64 a'.op) (.int .i64 a'.at_) (.int .u64 (U a'.a)) (.int .u64 (U a'.b)) fn (.pointer none) HBX.out
  have hP := PL.mono (D := D) (fun k hk => .inl hk) (HP.out.fr (put7_fd (w := w2) (b := w.heap.size) (.slice sa n c) (.int .i64 a'.op) (.int .i64 a'.at_) (.int .u64 (U a'.a)) (.int .u64 (U a'.b)) fn (.pointer none) (.inr rfl)))
  rw [put7] at hB hX hP
  have HB2 := Lib.hid hB
  have HX3 := Lib.hid hX
  have HP3 := Lib.hid hP
  clear hB hX hP HP
  unfold pV at HP3 ⊢
  rcases HFN.out with rfl | ⟨g, caps, rfl⟩
  all_goals
    go_wp2
    refine lateQ_mk (fun _ => True) trivial (mix_end ?_)
    clear cc0 cc1 cc2 cc3 cc4 cc5 cc6 cz ll
    replace HB2 := HB2.out
    replace HX3 := HX3.out
    replace HP3 := HP3.out
    generalize (World.setCell _ (⟨w.heap.size, 6, none⟩ : Addr) _) = Z at HB2 HX3 HP3 ⊢
    obtain ⟨c0, c1, c2, c3, c4, c5, c6, cz, ll⟩ := sev_of HB2
    replace HX3 := Lib.hid HX3
    replace HP3 := Lib.hid HP3
    clear HB2
    go_wp2
    exact bodyPost_ret (by simp only [results, Tryz.results208, go_sem]; simp [go_sem, c0, c1, c2, c3, c4, c5, c6]) rfl ⟨_, rfl, HX3.out, HP3.out⟩

set_option maxRecDepth 8000 in
set_option maxHeartbeats 1000000 in
theorem listed_some (D : Nat → Prop) (a : Acc) (l : List Acc) (t : List (BitVec 64)) (v lv : Value) (w : World) (hT : Told D w t.reverse v) (hA : AsB D w lv (a :: l)) (hl : t.length + l.length ≤ 999) (hb : ∀ k, D k → k < w.heap.size)
    (IH : Hid (∀ (D : Nat → Prop) (t : List (BitVec 64)) v lv w, Told D w t.reverse v → AsB D w lv l → t.length + l.length ≤ 1000 → (∀ k, D k → k < w.heap.size) → Calls Tryz.prog 202 #[v, lv] w (RetPL D l t w))) :
    Calls Tryz.prog 202 #[v, lv] w (RetPL D (a :: l) t w) := by
  have HA := Lib.hid hA
  obtain ⟨a0, cap, rfl, hc, _⟩ := hA
  obtain ⟨b, o, rfl, hb', hlt, hcell⟩ := HA.out.at (by simp)
  obtain ⟨c0, c1, c2, c3⟩ := hcell 0 (by simp)
  rw [Nat.zero_mul, Nat.add_zero] at c0 c1 c2 c3
  have ea : aN (a :: l) 0 = a := rfl
  rw [ea] at c0 c1 c2 c3
  clear ea
  have hlt1 : b < w.heap.size + 1 := by omega
  have hlt2 : b < w.heap.size + 1 + 1 := by omega
  have HT := Lib.hid hT
  obtain ⟨p, rfl⟩ := hT.ptr
  clear hT hcell
  have HE : Hid (∀ args w, (callFunc 208 args).run Tryz.prog w = .ok (.enter 208 args) w) := Lib.hid (enters_of Tryz.func208 (by kernel_rfl) rfl)
  go_enter Tryz.func202, Tryz.ntmps202
  go_wp2
  have hX : ∀ o3, Ext w (((w.alloc (.cells #[.pointer p] 242)).alloc (.cells #[.slice (some ⟨b, o, none⟩) (l.length + 1) cap] 237)).alloc o3) := fun o3 => ext_alloc _ (ext_alloc _ (ext_alloc _ (ext_refl w)))
  have hD1 : ¬ D w.heap.size := fun h => Nat.lt_irrefl _ (hb _ h)
  have hD2 : ¬ D (w.heap.size + 1) := fun h => by have := hb _ h; omega
  refine bodyPost_ret (v := pV (.slice none 0 0) a (.func (.func 208) #[] #[.pointer (some ⟨w.heap.size, 0, none⟩), .pointer (some ⟨w.heap.size + 1, 0, none⟩)]) (.pointer none)) (by simp [results, Tryz.results202, go_sem, pV]) rfl ⟨_, rfl, hX _, _, _, rfl, HE.out, fun E hE x w' hf hs => ?_⟩
  have e1 := heap_at w (.cells #[.pointer p] 242) w.heap.size rfl
  have e2 := heap_at (w.alloc (.cells #[.pointer p] 242)) (.cells #[.slice (some ⟨b, o, none⟩) (l.length + 1) cap] 237) (w.heap.size + 1) (by simp)
  have hE1 : ¬ E w.heap.size := fun h => hD1 ((hE _ (by simp; omega)).1 h)
  have hE2 : ¬ E (w.heap.size + 1) := fun h => hD2 ((hE _ (by simp)).1 h)
  have d1 : w'.cell? ⟨w.heap.size, 0, none⟩ = some (.pointer p) := by
    rw [hf.cell (by simp; omega) hE1]
    exact ext_cell (ext_alloc _ (ext_alloc _ (ext_refl _))) (cell_at e1 rfl)
  have d2 : w'.cell? ⟨w.heap.size + 1, 0, none⟩ = some (.slice (some ⟨b, o, none⟩) (l.length + 1) cap) := by
    rw [hf.cell (by simp) hE2]
    exact ext_cell (ext_alloc _ (ext_refl _)) (cell_at e2 rfl)
  exact listed1 E x a l t _ _ w.heap.size (w.heap.size + 1) w' (((HT.out.ext (hX _)).more fun k hk h => (hE k hk).1 h).fr hf) (((HA.out.ext (hX _)).more fun k hk h => (hE k hk).1 h).fr hf) d1 d2 hl hs IH

theorem listed_any : ∀ (l : List Acc) (D : Nat → Prop) (t : List (BitVec 64)) (v lv : Value) (w : World), Told D w t.reverse v → AsB D w lv l → t.length + l.length ≤ 1000 → (∀ k, D k → k < w.heap.size) → Calls Tryz.prog 202 #[v, lv] w (RetPL D l t w)
  | [], D, t, v, lv, w, hT, hA, hl, hb => listed_none D t v lv w hT hA (by simpa using hl) hb
  | a :: l, D, t, v, lv, w, hT, hA, hl, hb => listed_some D a l t v lv w hT hA (by simp at hl; omega) hb (Lib.hid (listed_any l))

set_option maxRecDepth 8000 in
set_option maxHeartbeats 1000000 in
theorem list_any (D : Nat → Prop) (l : List Acc) (lv : Value) (w : World) (hA : AsB (fun _ => False) w lv l) (hl : l.length ≤ 1000) (hb : ∀ k, D k → k < w.heap.size) :
    Calls Tryz.prog 197 #[lv] w (RetPL D l [] w) := by
  have HA := Lib.hid hA
  obtain ⟨a0, cap, rfl, hc, _⟩ := hA
  have hbD : ∀ k, (D k ∨ k = w.heap.size) → k < w.heap.size + 1 := fun k hk => by
    rcases hk with hk | rfl
    · have := hb k hk; omega
    · omega
  go_enter Tryz.func197, Tryz.ntmps197
  go_wp2_with (first
    | (go_at_call 203; refine (cloneA_any (fun k => D k ∨ k = w.heap.size) l _ _ (HA.out.ext (ext_alloc _ (ext_refl w))) hl (fun k hk => by simpa using hbD k hk)).mono ?_; rintro e w1 ⟨v1, rfl, ha, hx⟩; have HA1 := Lib.hid ha; have HX1 := Lib.hid hx; clear ha hx)
    | (go_at_call 202; refine (listed_any l (fun k => D k ∨ k = w.heap.size) [] _ _ _ rfl HA1.out (by simpa using hl) (fun k hk => by have := HX1.out.size; simp at this; have := hbD k hk; omega)).mono ?_; rintro e w2 ⟨v2, rfl, hx, hp⟩; have HP := Lib.hid hp; have HX2 := Lib.hid (ext_trans HX1.out hx); obtain ⟨sa, n, c, a', fn, rfl, hfn⟩ := hp.shape; have HFN := Lib.hid hfn; clear hp hx hfn; refine Hid.out ?_))
  refine Lib.hid ?_
  have hbx := (HX2.out.block w.heap.size (by simp)).trans (heap_at w _ _ rfl)
  obtain ⟨cc0, cc1, cc2, cc3, cc4, cc5, cc6, cz, ll⟩ := sev_of hbx
  have HBX := Lib.hid hbx
  clear hbx
  have HE := Lib.hid (ext_trans (ext_alloc _ (ext_refl w)) HX2.out)
  have hX := put7_ext (b := w.heap.size) (.slice sa n c) (.int .i64 a'.op) (.int .i64 a'.at_) (.int .u64 (U a'.a)) (.int .u64 (U a'.b)) fn (.pointer none) HE.out (Nat.le_refl _)
  have hB := put7_block (.slice sa n c) (.int .i64 a'.op) (.int .i64 a'.at_) (.int .u64 (U a'.a)) (.int .u64 (U a'.b)) fn (.pointer none) HBX.out
  have hP := PL.mono (D := D) (fun k hk => .inl hk) (HP.out.fr (put7_fd (w := w2) (b := w.heap.size) (.slice sa n c) (.int .i64 a'.op) (.int .i64 a'.at_) (.int .u64 (U a'.a)) (.int .u64 (U a'.b)) fn (.pointer none) (.inr rfl)))
  rw [put7] at hB hX hP
  have HB2 := Lib.hid hB
  have HX3 := Lib.hid hX
  have HP3 := Lib.hid hP
  clear hB hX hP HP
  unfold pV at HP3 ⊢
  rcases HFN.out with rfl | ⟨g, caps, rfl⟩
  all_goals
    go_wp2
    clear cc0 cc1 cc2 cc3 cc4 cc5 cc6 cz ll
    replace HB2 := HB2.out
    replace HX3 := HX3.out
    replace HP3 := HP3.out
    generalize (World.setCell _ (⟨w.heap.size, 6, none⟩ : Addr) _) = Z at HB2 HX3 HP3 ⊢
    obtain ⟨c0, c1, c2, c3, c4, c5, c6, cz, ll⟩ := sev_of HB2
    exact bodyPost_ret (by simp only [results, Tryz.results197, go_sem]; simp [go_sem, c0, c1, c2, c3, c4, c5, c6]) rfl ⟨_, rfl, HX3, HP3⟩

end Go.Proofs.YtpidmbclgfnekaaGreat

/-
  What the calls of Step come to. Conditions: those of each theorem.
-/
namespace Go.Proofs.YtpidmbclgfnekaaGreat
open Go Go.RowKit

theorem put7_frNew {lo hi : Nat} {a w : World} {b : Nat} (x0 x1 x2 x3 x4 x5 x6 : Value) (h : Fr lo hi a w) (hb : a.heap.size ≤ b) : Fr lo hi a (put7 b x0 x1 x2 x3 x4 x5 x6 w) :=
  ((((((h.setNew (p := ⟨b, 0, none⟩) x0 hb).setNew (p := ⟨b, 1, none⟩) x1 hb).setNew (p := ⟨b, 2, none⟩) x2 hb).setNew (p := ⟨b, 3, none⟩) x3 hb).setNew (p := ⟨b, 4, none⟩) x4 hb).setNew (p := ⟨b, 5, none⟩) x5 hb).setNew (p := ⟨b, 6, none⟩) x6 hb
theorem put7_mem {lo hi : Nat} {L : Lay} {M : MS} {w : World} {b : Nat} (x0 x1 x2 x3 x4 x5 x6 : Value) (h : MemIn lo hi L M w) (hb : hi ≤ b) : MemIn lo hi L M (put7 b x0 x1 x2 x3 x4 x5 x6 w) :=
  ((((((h.setFar (p := ⟨b, 0, none⟩) x0 (.inr hb)).setFar (p := ⟨b, 1, none⟩) x1 (.inr hb)).setFar (p := ⟨b, 2, none⟩) x2 (.inr hb)).setFar (p := ⟨b, 3, none⟩) x3 (.inr hb)).setFar (p := ⟨b, 4, none⟩) x4 (.inr hb)).setFar (p := ⟨b, 5, none⟩) x5 (.inr hb)).setFar (p := ⟨b, 6, none⟩) x6 (.inr hb)
def RetStep (D : Nat → Prop) (lo hi : Nat) (L : Lay) (M' : MS) (l : List Acc) (t : List (BitVec 64)) (w : World) (e : Ending) (w' : World) : Prop :=
  ∃ v, e = .returned (.tuple #[v, .bool true]) ∧ PL D l t v w' ∧ MemIn lo hi L M' w' ∧ Fr lo hi w w'

end Go.Proofs.YtpidmbclgfnekaaGreat
