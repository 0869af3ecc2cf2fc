/-
  What the reference's New comes to. Conditions: those of each theorem.
-/
import Derived.Test.YthepcnffadjeaaaMemRef3
namespace Go.Proofs.Ythepcnffadjeaaa
open Go Go.RowKit

theorem Try.infoSr : (Try.prog.info? 31).map (fun i => (i.zero, i.size, i.bytes)) = some (some (.slice none 0 0), 1, 24) := by kernel_rfl

/-- The first loop: the first k sizes fit. -/
def RNewRel1 (l : List Int) (all i : Value) : Prop := ∃ k : Nat, k ≤ l.length ∧ k ≤ 65 ∧ i = .int .i64 (k : Int) ∧ all = .int .i64 (sumTo l k) ∧ FitTo' l k

def rowsL (l : List Int) (xb : Nat → Nat) (k : Nat) : List Value := (List.range k).map fun i => .slice (some ⟨xb i, 0, none⟩) (iN l i).toNat (iN l i).toNat
def onesL (k : Nat) : List Value := (List.range k).map fun _ => .int .u64 1
/-- Where the reference's New stands: k rows of words are made, k' epochs; s: its box. -/
structure RNewIn (l : List Int) (s k k' : Nat) (v u : Value) (xb : Nat → Nat) (w0 w : World) : Prop where
  ext : Ext w0 w
  big : w0.heap.size < s
  m : w.heap[s]? = some (.cells #[v, u, .int .i64 0] 33 (0, 0))
  t : w.heap[w0.heap.size]? = some (.cells #[.slice none 0 0, .slice none 0 0, .int .i64 0] 33 (0, 0))
  own : w.ownsRow w0.heap.size 31 1 v k (rowsL l xb k)
  ep : w.ownsRow w0.heap.size 43 1 u k' (onesL k')
  nil : k' = 0 → u = .slice none 0 0
  wds : ∀ i, i < k → w0.heap.size ≤ xb i ∧ ∃ cur, w.heap[xb i]? = some (.cells cur 43 (0, 0)) ∧ cur.size = (iN l i).toNat ∧ ∀ j, j < (iN l i).toNat → cur[j]? = some (.int .u64 0)

/-- The row of epochs is none of the rows of words. -/
theorem ones_ne {w : World} {base k' : Nat} {u : Value} (h : w.ownsRow base 43 1 u k' (onesL k')) (hn : k' = 0 → u = .slice none 0 0) {b : Nat} {cur : Array Value} {n : Nat} (hb : w.heap[b]? = some (.cells cur 43 (0, 0))) (hs : cur.size = n) (hc : ∀ j, j < n → cur[j]? = some (.int .u64 0)) :
    some b ≠ u.ownBlock := by
  by_cases h0 : k' = 0
  · rw [hn h0]; simp [Value.ownBlock]
  · rcases h.2 with ⟨rfl, _⟩ | ⟨g, cap, cur', rfl, _, hh, hkc, _, hs', ht⟩
    · simp [Value.ownBlock]
    · intro e
      simp [Value.ownBlock] at e
      subst e
      rw [hb] at hh
      simp at hh
      subst hh
      have h3 : (cur.toList.take (k' * 1))[0]? = (onesL k')[0]? := by rw [ht]
      rw [List.getElem?_take, if_pos (by omega), Array.getElem?_toList, hc 0 (by omega)] at h3
      unfold onesL at h3
      rw [range_get _ _ _ (by omega)] at h3
      simp at h3

theorem rows_snoc (l : List Int) (xb : Nat → Nat) (k g : Nat) : rowsL l xb k ++ [.slice (some ⟨g, 0, none⟩) (iN l k).toNat (iN l k).toNat] = rowsL l (fun i => if i = k then g else xb i) (k + 1) := by
  unfold rowsL
  rw [List.range_succ, List.map_append]
  congr 1
  · apply List.map_congr_left
    intro i hi
    have : i ≠ k := by have := List.mem_range.1 hi; omega
    simp [this]
  · simp
theorem ones_snoc (k : Nat) : onesL k ++ [.int .u64 1] = onesL (k + 1) := by
  unfold onesL
  rw [List.range_succ, List.map_append]
  rfl

theorem own_keep {w w' : World} {base : Nat} {e : TypeId} {size : Nat} {v : Value} {n : Nat} {xs : List Value} (h : w.ownsRow base e size v n xs) (hb : ∀ {b : Nat} {c : Array Value}, w.heap[b]? = some (.cells c e (0, 0)) → some b = v.ownBlock → w'.heap[b]? = some (.cells c e (0, 0))) : w'.ownsRow base e size v n xs := by
  obtain ⟨h1, h2⟩ := h
  refine ⟨h1, ?_⟩
  rcases h2 with h2 | ⟨g, cap, cur, hv, hgb, hh, r⟩
  · exact .inl h2
  · exact .inr ⟨g, cap, cur, hv, hgb, hb hh (by rw [hv]; rfl), r⟩

theorem RNewIn.stepW {l : List Int} {s k k' : Nat} {v v' u : Value} {xb : Nat → Nat} {w0 wr w3 w4 : World} {g1 : Nat} {z : Array Value} (h : RNewIn l s k k' v u xb w0 wr) (h3 : Ext wr w3)
    (hg1 : wr.heap.size ≤ g1) (hz : w3.heap[g1]? = some (.cells z 43 (0, 0))) (hz1 : z.size = (iN l k).toNat) (hz2 : ∀ j, j < (iN l k).toNat → z[j]? = some (.int .u64 0))
    (hg : w3.grownBy w4 v.ownBlock) (ho : w4.ownsRow w0.heap.size 31 1 v' (k + 1) (rowsL l xb k ++ [.slice (some ⟨g1, 0, none⟩) (iN l k).toNat (iN l k).toNat])) :
    RNewIn l s (k + 1) k' v' u (fun i => if i = k then g1 else xb i) w0 (w4.setCell ⟨s, 0, none⟩ v') := by
  have up : ∀ {b : Nat} {c : Array Value} {t : TypeId}, wr.heap[b]? = some (.cells c t (0, 0)) → w3.heap[b]? = some (.cells c t (0, 0)) := fun hb => (h3.block _ (heap_lt hb)).trans hb
  have hown3 := own_keep h.own fun hb _ => up hb
  have keep : ∀ {b : Nat} {c : Array Value} {t : TypeId}, w3.heap[b]? = some (.cells c t (0, 0)) → t ≠ 31 → w4.heap[b]? = some (.cells c t (0, 0)) := fun hb hne => by
    rw [hg.block _ (heap_lt hb) (own_ne hown3 hb hne)]; exact hb
  have hm4 := keep (up h.m) (by decide)
  have far : ∀ {b : Nat} {c : Array Value} {t : TypeId}, w4.heap[b]? = some (.cells c t (0, 0)) → b ≠ s → (w4.setCell ⟨s, 0, none⟩ v').heap[b]? = some (.cells c t (0, 0)) := fun hb hne => by
    rw [set_other _ hne]; exact hb
  have hext4 : Ext w0 w4 := (ext_trans h.ext h3).grown hg (Nat.le_trans h.ext.size h3.size) (fun j hj => by
    rcases hown3.2 with ⟨rfl, _⟩ | ⟨g, cap, cur, rfl, hgb, _⟩
    · simp [Value.ownBlock] at hj
    · simp [Value.ownBlock] at hj; omega)
  have hbig := h.big
  refine ⟨ext_set _ (by show w0.heap.size ≤ s; omega) hext4, h.big, ?_, far (keep (up h.t) (by decide)) (by omega), ?_, ?_, h.nil, fun i hi => ?_⟩
  · rw [set_same _ hm4]; rfl
  · rw [← rows_snoc]
    exact own_keep ho fun hb _ => far hb (block_ne hb hm4 (by decide))
  · exact own_keep h.ep fun hb _ => far (keep (up hb) (by decide)) (block_ne (keep (up hb) (by decide)) hm4 (by decide))
  · by_cases e : i = k
    · subst e
      simp only [if_true]
      exact ⟨Nat.le_trans h.ext.size hg1, z, far (keep hz (by decide)) (block_ne (keep hz (by decide)) hm4 (by decide)), hz1, hz2⟩
    · simp only [e, if_false]
      obtain ⟨h1, cur, h2, h4⟩ := h.wds i (by omega)
      exact ⟨h1, cur, far (keep (up h2) (by decide)) (block_ne (keep (up h2) (by decide)) hm4 (by decide)), h4⟩

theorem RNewIn.stepE {l : List Int} {s k k' : Nat} {v u u' : Value} {xb : Nat → Nat} {w0 wr w3 w4 : World} (h : RNewIn l s k k' v u xb w0 wr) (h3 : Ext wr w3)
    (hg : w3.grownBy w4 u.ownBlock) (ho : w4.ownsRow w0.heap.size 43 1 u' (k' + 1) (onesL k' ++ [.int .u64 1])) :
    RNewIn l s k (k' + 1) v u' xb w0 (w4.setCell ⟨s, 1, none⟩ u') := by
  have up : ∀ {b : Nat} {c : Array Value} {t : TypeId}, wr.heap[b]? = some (.cells c t (0, 0)) → w3.heap[b]? = some (.cells c t (0, 0)) := fun hb => (h3.block _ (heap_lt hb)).trans hb
  have hown3 := own_keep h.ep fun hb _ => up hb
  have keep : ∀ {b : Nat} {c : Array Value} {t : TypeId}, w3.heap[b]? = some (.cells c t (0, 0)) → t ≠ 43 → w4.heap[b]? = some (.cells c t (0, 0)) := fun hb hne => by
    rw [hg.block _ (heap_lt hb) (own_ne hown3 hb hne)]; exact hb
  have hm4 := keep (up h.m) (by decide)
  have far : ∀ {b : Nat} {c : Array Value} {t : TypeId}, w4.heap[b]? = some (.cells c t (0, 0)) → b ≠ s → (w4.setCell ⟨s, 1, none⟩ u').heap[b]? = some (.cells c t (0, 0)) := fun hb hne => by
    rw [set_other _ hne]; exact hb
  have hext4 : Ext w0 w4 := (ext_trans h.ext h3).grown hg (Nat.le_trans h.ext.size h3.size) (fun j hj => by
    rcases hown3.2 with ⟨rfl, _⟩ | ⟨g, cap, cur, rfl, hgb, _⟩
    · simp [Value.ownBlock] at hj
    · simp [Value.ownBlock] at hj; omega)
  have hbig := h.big
  refine ⟨ext_set _ (by show w0.heap.size ≤ s; omega) hext4, h.big, ?_, far (keep (up h.t) (by decide)) (by omega), ?_, ?_, fun e => absurd e (by omega), fun i hi => ?_⟩
  · rw [set_same _ hm4]; rfl
  · exact own_keep h.own fun hb _ => far (keep (up hb) (by decide)) (block_ne (keep (up hb) (by decide)) hm4 (by decide))
  · rw [← ones_snoc]
    exact own_keep ho fun hb _ => far hb (block_ne hb hm4 (by decide))
  · obtain ⟨h1, cur, h2, h4, h5⟩ := h.wds i (by omega)
    have h6 : w4.heap[xb i]? = some (.cells cur 43 (0, 0)) := by
      rw [hg.block _ (heap_lt (up h2)) (ones_ne hown3 h.nil (up h2) h4 h5)]
      exact up h2
    exact ⟨h1, cur, far h6 (block_ne h6 hm4 (by decide)), h4, h5⟩

/-- It is a reference's memory then. -/
theorem RNewIn.done {l : List Int} {s : Nat} {v u : Value} {xb : Nat → Nat} {w0 w : World} (h : RNewIn l s l.length l.length v u xb w0 w) (hok : SizesOk l) :
    ∃ (wa ea : Option Addr) (wc ec bw be : Nat), v = .slice wa l.length wc ∧ u = .slice ea l.length ec ∧ ∀ F : World, Fr w0.heap.size (w0.heap.size + 1) w F →
      RefIn (w0.heap.size ≤ ·) ⟨bw, be, wa, ea, wc, ec, xb, fun i => (iN l i).toNat⟩ (M0 l l.length) F ∧ Ext w0 F := by
  obtain ⟨h65, hfit⟩ := hok
  have hsm : ∀ i, i < l.length → (iN l i).toNat ≤ 16777216 := fun i hi => by
    have h1 := hfit i hi
    have h2 := FitTo'.sum (l := l) (k := i) fun j hj => hfit j (by omega)
    omega
  have hE : ∀ F : World, Fr w0.heap.size (w0.heap.size + 1) w F → Ext w0 F := fun F hF => hF.below h.ext (Nat.le_refl _)
  have ht := h.t
  by_cases hl : l.length = 0
  · have e1 : ∀ i, i < l.length → False := fun i hi => by omega
    have hv : ∃ wa wc, v = .slice wa l.length wc := by
      rcases h.own.2 with ⟨rfl, hn⟩ | ⟨g, cap, cur, rfl, _⟩
      · exact ⟨none, 0, by rw [hn]⟩
      · exact ⟨_, cap, rfl⟩
    have hu : ∃ ea ec, u = .slice ea l.length ec := by
      rcases h.ep.2 with ⟨rfl, hn⟩ | ⟨g, cap, cur, rfl, _⟩
      · exact ⟨none, 0, by rw [hn]⟩
      · exact ⟨_, cap, rfl⟩
    obtain ⟨wa, wc, hv⟩ := hv
    obtain ⟨ea, ec, hu⟩ := hu
    exact ⟨wa, ea, wc, ec, 0, 0, hv, hu, fun F hF => ⟨⟨h65, hsm, fun b hb => Nat.le_trans (hE F hF).size hb, fun h0 => absurd h0 (by show ¬ 0 < l.length; omega), fun h0 => absurd h0 (by show ¬ 0 < l.length; omega),
      fun i hi => (e1 i hi).elim, fun i hi => (e1 i hi).elim, fun i hi => (e1 i hi).elim, fun i _ hi => (e1 i hi).elim⟩, hE F hF⟩⟩
  · obtain ⟨g1, c1, rfl, hg1, hl1, hr1, _⟩ := own_row h.own (by omega)
    obtain ⟨g2, c2, rfl, hg2, hl2, hr2, _⟩ := own_row h.ep (by omega)
    have n1 : g1 ≠ w0.heap.size := by
      intro e
      have := own_ne h.own ht (by decide)
      rw [← e] at this
      exact this rfl
    have n2 : g2 ≠ w0.heap.size := by
      intro e
      have := own_ne h.ep ht (by decide)
      rw [← e] at this
      exact this rfl
    refine ⟨_, _, c1, c2, g1, g2, rfl, rfl, fun F hF => ⟨⟨h65, hsm, fun b hb => Nat.le_trans (hE F hF).size hb, fun _ => ⟨rfl, hg1, Nat.lt_of_lt_of_le hl1 hF.size⟩, fun _ => ⟨rfl, hg2, Nat.lt_of_lt_of_le hl2 hF.size⟩,
      fun i hi => ?_, fun i hi => ?_, fun i hi => ?_, fun i j hi hj => ?_⟩, hE F hF⟩⟩
    · have hi' : i < l.length := hi
      show F.cell? ⟨g1, i, none⟩ = _
      rw [hF.cell hl1 (by omega), hr1 i hi']
      exact range_get _ _ _ hi'
    · have hi' : i < l.length := hi
      show F.cell? ⟨g2, i, none⟩ = _
      rw [hF.cell hl2 (by omega), hr2 i hi']
      unfold onesL
      rw [range_get _ _ _ hi']
      show _ = some (Value.int .u64 (U 1#64))
      rw [U_of 1#64 1 (by decide)]
    · obtain ⟨h1, cur, h2, _⟩ := h.wds i hi
      exact ⟨h1, Nat.lt_of_lt_of_le (heap_lt h2) hF.size⟩
    · obtain ⟨h1, cur, h2, h3, h4⟩ := h.wds i hi
      have : xb i ≠ w0.heap.size := block_ne h2 ht (by decide)
      show F.cell? ⟨xb i, j, none⟩ = _
      rw [hF.cell (heap_lt h2) (by omega)]
      show _ = some (Value.int .u64 (U 0#64))
      rw [U_0]
      exact cell_at h2 (h4 j hj)
end Go.Proofs.Ythepcnffadjeaaa
