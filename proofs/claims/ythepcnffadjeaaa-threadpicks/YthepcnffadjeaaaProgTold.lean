/-
  What the calls of with and words come to, and slices.Reverse of words. Conditions: those of each theorem.
-/
import Derived.Test.YthepcnffadjeaaaProgM
import Derived.Test.YthepcnffadjeaaaApps
namespace Go.Proofs.Ythepcnffadjeaaa
open Go Go.RowKit

def RetTold (D : Nat → Prop) (r : List (BitVec 64)) (w : World) (e : Ending) (w' : World) : Prop := ∃ v, e = .returned v ∧ Told D w' r v ∧ Ext w w'
theorem rev_take_succ (l r : List (BitVec 64)) (k : Nat) (h : k < l.length) : (l.take (k + 1)).reverse ++ r = uN l k :: ((l.take k).reverse ++ r) := by
  rw [List.take_succ_eq_append_getElem h, List.reverse_append]
  simp [uN, List.getD_eq_getElem?_getD, h]
theorem told_new {D : Nat → Prop} {w : World} {r : List (BitVec 64)} {p : Value} (h : Told D w r p) (hb : ∀ k, D k → k < w.heap.size) (x : BitVec 64) (t : TypeId) :
    Told D (w.alloc (.cells #[.int .u64 (U x), p] t)) (x :: r) (.pointer (some ⟨w.heap.size, 0, none⟩)) := by
  have h0 := heap_alloc_new w (.cells #[.int .u64 (U x), p] t)
  exact ⟨_, p, rfl, fun x => absurd (hb _ x) (Nat.lt_irrefl _), by simp, cell_at h0 rfl, cell_at h0 rfl, h.ext (ext_alloc _ (ext_refl w))⟩
theorem Told.ptr {D : Nat → Prop} {w : World} : ∀ {r : List (BitVec 64)} {v : Value}, Told D w r v → ∃ p, v = .pointer p
  | [], _, h => ⟨none, h⟩
  | _ :: _, _, ⟨_, _, e, _⟩ => ⟨_, e⟩
def WithRel (D : Nat → Prop) (l r : List (BitVec 64)) (w : World) (t i : Value) (wr : World) : Prop :=
  ∃ k : Nat, k ≤ l.length ∧ i = .int .i64 (k : Int) ∧ Told D wr ((l.take k).reverse ++ r) t ∧ Ext w wr

set_option maxHeartbeats 1000000 in
theorem with_any (D : Nat → Prop) (l r : List (BitVec 64)) (v wv : Value) (w : World) (hT : Told D w r v) (hU : Us w wv l) (hl : l.length ≤ 1000) (hb : ∀ k, D k → k < w.heap.size) :
    Calls Try.prog 50 #[v, wv] w (RetTold D (l.reverse ++ r) w) := by
  have HT := Lib.hid hT
  have HU := Lib.hid hU
  obtain ⟨a0, cap, rfl, hc, hcell⟩ := hU
  clear hcell hT
  go_enter Try.func50, Try.ntmps50
  go_wp2
  go_loopw [0, 9] (fun t i wr => WithRel D l r w t i wr) (fun t i _ => (l.length - intOf i).toNat)
  case atStart => exact ⟨0, Nat.zero_le _, rfl, HT.out, ext_refl w⟩
  case round =>
    obtain ⟨k, hk, rfl, hT, hX⟩ := hrel
    have HK := Lib.hid hT
    have HX := Lib.hid hX
    obtain ⟨p, rfl⟩ := hT.ptr
    clear hT hX
    by_cases hlt : k < l.length
    · obtain ⟨b, off, rfl, hb', hcells⟩ := (HU.out.ext HX.out).at (by omega)
      have c1 := hcells k hlt
      clear hcells
      go_wp2
      refine ⟨⟨k + 1, by omega, by go_num, ?_, ext_alloc _ HX.out⟩, by simp [intOf]; omega⟩
      rw [rev_take_succ l r k hlt]
      exact told_new HK.out (fun k hk => Nat.lt_of_lt_of_le (hb k hk) HX.out.size) _ _
    · obtain rfl : k = l.length := by omega
      go_wp2
      go_ret
      refine ⟨_, rfl, ?_, HX.out⟩
      rw [← List.take_length (l := l)]
      exact HK.out

/-- The cells of a row of words, the first k and the last k of n turned about. -/
def revN (n : Nat) (x : Nat → BitVec 64) (k i : Nat) : BitVec 64 := if i < k ∨ n - 1 - k < i then x (n - 1 - i) else x i
structure RowIs (g n : Nat) (x : Nat → BitVec 64) (w : World) : Prop where
  blk : ∃ c, w.heap[g]? = some (.cells c 43 (0, 0)) ∧ ∀ i, i < n → c[i]? = some (.int .u64 (U (x i)))
theorem RowIs.cell {g n : Nat} {x : Nat → BitVec 64} {w : World} (h : RowIs g n x w) {i : Nat} (hi : i < n) : w.cell? ⟨g, i, none⟩ = some (.int .u64 (U (x i))) := by
  obtain ⟨c, hc, hx⟩ := h.blk
  exact cell_at hc (hx i hi)
theorem RowIs.free {g n : Nat} {x : Nat → BitVec 64} {w : World} (h : RowIs g n x w) (i : Nat) : w.frozen? ⟨g, i, none⟩ = false := by
  obtain ⟨c, hc, _⟩ := h.blk
  exact free_at hc
theorem RowIs.set {g n : Nat} {x : Nat → BitVec 64} {w : World} (h : RowIs g n x w) (i : Nat) (y : BitVec 64) : RowIs g n (fun j => if j = i then y else x j) (w.setCell ⟨g, i, none⟩ (.int .u64 (U y))) := by
  obtain ⟨c, hc, hx⟩ := h.blk
  refine ⟨_, set_same _ hc, fun j hj => ?_⟩
  rw [Array.getElem?_setIfInBounds]
  have hj' := hx j hj
  have hlt : j < c.size := (Array.getElem?_eq_some_iff.1 hj').1
  by_cases hij : i = j
  · subst hij; simp [hlt]
  · rw [if_neg hij, hj']; simp [Ne.symm hij]
theorem RowIs.congr {g n : Nat} {x y : Nat → BitVec 64} {w : World} (h : RowIs g n x w) (e : ∀ i, i < n → x i = y i) : RowIs g n y w := by
  obtain ⟨c, hc, hx⟩ := h.blk
  exact ⟨c, hc, fun i hi => by rw [← e i hi]; exact hx i hi⟩
theorem RowIs.fr {g n : Nat} {x : Nat → BitVec 64} {w w' : World} (h : RowIs g n x w) (hb : w'.heap[g]? = w.heap[g]?) : RowIs g n x w' := by
  obtain ⟨c, hc, hx⟩ := h.blk
  exact ⟨c, hb.trans hc, hx⟩
def RevRel (g n : Nat) (x : Nat → BitVec 64) (w : World) (i j : Value) (wr : World) : Prop :=
  ∃ k : Nat, 2 * k ≤ n ∧ i = .int .i64 (k : Int) ∧ j = .int .i64 ((n : Int) - 1 - k) ∧ RowIs g n (revN n x k) wr ∧ Fr g (g + 1) w wr
def RetRev (g n : Nat) (x : Nat → BitVec 64) (w : World) (e : Ending) (w' : World) : Prop :=
  e = .returned (.tuple #[]) ∧ RowIs g n (fun i => x (n - 1 - i)) w' ∧ Fr g (g + 1) w w'

set_option maxHeartbeats 1000000 in
theorem rev_row (g n cap : Nat) (x : Nat → BitVec 64) (w : World) (hn : n ≤ 1000) (hR : RowIs g n x w) :
    Calls Try.prog 54 #[.slice (some ⟨g, 0, none⟩) n cap] w (RetRev g n x w) := by
  have HR := Lib.hid hR
  clear hR
  go_enter Try.func54, Try.ntmps54
  go_wp2
  go_loopw [2, 3] (fun i j wr => RevRel g n x w i j wr) (fun i j _ => (n - intOf i).toNat)
  case atStart =>
    refine ⟨0, Nat.zero_le _, rfl, by simp, HR.out.congr fun i hi => ?_, Fr.refl _ _ _⟩
    unfold revN
    rw [if_neg (by omega)]
  case round =>
    obtain ⟨k, hk, rfl, rfl, hr, hf⟩ := hrel
    have HK := Lib.hid hr
    have HF := Lib.hid hf
    clear hr hf
    by_cases hlt : (k : Int) < (n : Int) - 1 - k
    · have ei : (n : Int) - 1 - k = ((n - 1 - k : Nat) : Int) := by omega
      rw [ei]
      have c1 := HK.out.cell (i := k) (by omega)
      have c2 := HK.out.cell (i := n - 1 - k) (by omega)
      have f1 := HK.out.free k
      have hg := cell_lt c1
      have f2 := HK.out.free (n - 1 - k)
      go_wp2
      go_region
      all_goals (try go_wp2)
      refine ⟨⟨k + 1, by omega, by go_num, ?_, ?_, ?_⟩, by simp [intOf]; omega⟩
      · show Value.int .i64 (((n - 1 - k : Nat) : Int) - 1) = .int .i64 ((n : Int) - 1 - ((k + 1 : Nat) : Int))
        congr 1
        omega
      · refine (RowIs.fr (w' := World.drew _) ((HK.out.set k (revN n x k (n - 1 - k))).set (n - 1 - k) (revN n x k k)) rfl).congr fun i hi => ?_
        have e1 : n - 1 - (n - 1 - k) = k := by omega
        unfold revN
        by_cases h1 : i = n - 1 - k
        · subst h1
          rw [if_pos rfl, if_neg (by omega), if_pos (by omega), e1]
        · by_cases h2 : i = k
          · subst h2
            rw [if_neg h1, if_pos rfl, if_neg (by omega), if_pos (by omega)]
          · rw [if_neg h1, if_neg h2]
            by_cases h3 : i < k ∨ n - 1 - k < i
            · rw [if_pos h3, if_pos (by omega)]
            · rw [if_neg h3, if_neg (by omega)]
      · exact ((HF.out.set _ (Nat.le_refl _) (Nat.lt_succ_self _)).set _ (Nat.le_refl _) (Nat.lt_succ_self _)).drew
    · go_wp2
      refine bodyPost_ret (v := .tuple #[]) (by simp [results, Try.results54, go_sem]) rfl ⟨rfl, HK.out.congr fun i hi => ?_, HF.out⟩
      unfold revN
      by_cases h3 : i < k ∨ n - 1 - k < i
      · rw [if_pos h3]
      · rw [if_neg h3, show n - 1 - i = i by omega]

set_option maxHeartbeats 1000000 in
theorem rev_nil (w : World) : Calls Try.prog 54 #[.slice none 0 0] w (Ret (.tuple #[]) w) := by
  go_enter Try.func54, Try.ntmps54
  go_wp2
  refine wp_loop_rounds 1 ?_
  rw [rounds_succ]
  go_wp2
  exact bodyPost_ret (v := .tuple #[]) (by simp [results, Try.results54, go_sem]) rfl (Ret.mk (ext_refl _))

def W1 (x : BitVec 64) : Value := .int .u64 (U x)
theorem Try.infoU64t : (Try.prog.info? 43).map (fun i => (i.zero, i.size, i.bytes)) = some (some (.int .u64 0), 1, 8) := by kernel_rfl
theorem row_of_own {w : World} {base : Nat} {v : Value} {l : List (BitVec 64)} (h : w.ownsRow base 43 1 v l.length (l.map W1)) :
    (v = .slice none 0 0 ∧ l = []) ∨ ∃ g cap, v = .slice (some ⟨g, 0, none⟩) l.length cap ∧ l.length ≤ cap ∧ base ≤ g ∧ g < w.heap.size ∧ RowIs g l.length (uN l) w := by
  rcases h.2 with ⟨h1, h2⟩ | ⟨g, cap, cur, rfl, hg, hh, hc, hm, hs, ht⟩
  · exact .inl ⟨h1, List.eq_nil_of_length_eq_zero h2⟩
  · refine .inr ⟨g, cap, rfl, hc, hg, heap_lt hh, ⟨cur, hh, fun i hi => ?_⟩⟩
    have h3 : (cur.toList.take (l.length * 1))[i]? = (l.map W1)[i]? := by rw [ht]
    rw [List.getElem?_take, if_pos (by omega), Array.getElem?_toList, List.getElem?_map, List.getElem?_eq_getElem hi] at h3
    rw [h3]
    simp [W1, uN, List.getD_eq_getElem?_getD, hi]
def WordsRel (D : Nat → Prop) (r : List (BitVec 64)) (w : World) (t l : Value) (wr : World) : Prop :=
  ∃ r1 r2, r = r1 ++ r2 ∧ Told D w r2 t ∧ wr.ownsRow w.heap.size 43 1 l r1.length (r1.map W1) ∧ Ext w wr
def RetWords (r : List (BitVec 64)) (w : World) (e : Ending) (w' : World) : Prop := ∃ v, e = .returned v ∧ UsB (· < w.heap.size) w' v r.reverse ∧ Ext w w'
def sliceLen : Value → Nat
  | .slice _ n _ => n
  | _ => 0
theorem own_len {w : World} {base : Nat} {e : TypeId} {size : Nat} {v : Value} {n : Nat} {xs : List Value} (h : w.ownsRow base e size v n xs) : sliceLen v = n := by
  rcases h.2 with ⟨rfl, h2⟩ | ⟨g, cap, cur, rfl, _⟩
  · exact h2.symm
  · rfl

set_option maxHeartbeats 1000000 in
theorem words_any (D : Nat → Prop) (r : List (BitVec 64)) (v : Value) (w : World) (hT : Told D w r v) (hl : r.length ≤ 1000) :
    Calls Try.prog 48 #[v] w (RetWords r w) := by
  have HT := Lib.hid hT
  clear hT
  obtain ⟨iU, hiU, hy0, hy1, hy2⟩ := info_parts Try.infoU64t
  go_enter Try.func48, Try.ntmps48
  go_wp2
  go_loopw [0, 3] (fun t l wr => WordsRel D r w t l wr) (fun t l _ => r.length - sliceLen l)
  case atStart => exact ⟨[], r, rfl, HT.out, World.ownsRow_nil _ _ _ _, ext_refl w⟩
  case round =>
    obtain ⟨r1, r2, hr, hT, hO, hX⟩ := hrel
    have HO := Lib.hid hO
    have HX := Lib.hid hX
    have HR := Lib.hid hr
    have hlen : r.length = r1.length + r2.length := by rw [hr]; simp
    clear hO hX hr HT
    cases r2 with
    | nil =>
      cases hT
      rcases row_of_own HO.out with ⟨rfl, rfl⟩ | ⟨g, cap, rfl, hc, hg, hlt, hR⟩
      · go_wp2_with (go_at_call 54; refine (rev_nil _).mono ?_; rintro e w' hr'; obtain ⟨rfl, s, rfl⟩ := hr'.over; clear hr')
        go_ret
        exact ⟨_, rfl, by rw [HR.out]; exact UsB.nil _ _, ext_over s HX.out⟩
      · skip
        have HRow := Lib.hid hR
        clear hR
        go_wp2_with (go_at_call 54; refine (rev_row g r1.length cap (uN r1) _ (by simp at hlen; omega) HRow.out).mono ?_; rintro e w' ⟨rfl, hr', hf'⟩; have HR' := Lib.hid hr'; have HF' := Lib.hid hf'; clear hr' hf')
        go_ret
        refine ⟨_, rfl, ?_, HF'.out.below HX.out hg⟩
        have er : r = r1 := by rw [HR.out]; simp
        rw [er]
        refine ⟨_, cap, by rw [List.length_reverse]; rfl, by simpa using hc, fun _ => ⟨g, 0, rfl, Nat.not_lt.2 hg, Nat.lt_of_lt_of_le hlt HF'.out.size, fun i hi => ?_⟩⟩
        have hi' : i < r1.length := by simpa using hi
        rw [Nat.zero_add, HR'.out.cell hi']
        simp [uN, List.getD_eq_getElem?_getD, List.getElem?_reverse hi']
    | cons x r2 =>
      obtain ⟨g, p, rfl, h0, hlt, c0, c1, hT⟩ := hT
      have HT := Lib.hid hT
      obtain ⟨q, rfl⟩ := hT.ptr
      clear hT
      have d0 := ext_cell HX.out c0
      have d1 := ext_cell HX.out c1
      have c1' := c1
      have hlt' := Nat.lt_of_lt_of_le hlt HX.out.size
      clear c0 c1
      have HO1 := Lib.hid (own_ext' HO.out (ext_alloc (.cells #[.int .u64 (U x)] 43) (ext_refl wr)))
      go_wp2_with (at_builtin; refine wpList_append_own _ rfl (.tmp 10) (.tmp 15) 31 rfl w.heap.size 43 iU (.int .u64 0) 1 8 Try.underlying31 hiU hy0 hy1 hy2 rfl (by decide) u3 r1.length (r1.map W1) rfl HO1.out ⟨wr.heap.size, 0, none⟩ 1 1 [.int .u64 (U x)] rfl rfl (newp _ _ _ _ rfl) (by simp [Value.oneCell']) (by unfold maxLen; omega) (by omega) (by have := HX.out.size; simp; omega) ?_; intro v2 w2 hv2 hg2 hn2; have HV := Lib.hid hv2; have HX2 := Lib.hid (ext_own (ext_alloc _ HX.out) HO1.out hg2); clear hv2 hg2 hn2; have d2 := ext_cell HX2.out c1')
      have e2 : r = (r1 ++ [x]) ++ r2 := by rw [HR.out]; simp
      have hV : w2.ownsRow w.heap.size 43 1 v2 (r1 ++ [x]).length ((r1 ++ [x]).map W1) := by
        rw [List.map_append, List.length_append]
        exact HV.out
      refine ⟨⟨r1 ++ [x], r2, e2, HT.out, hV, HX2.out⟩, ?_⟩
      rw [own_len hV, own_len HO.out]
      simp at hlen ⊢
      omega

end Go.Proofs.Ythepcnffadjeaaa
