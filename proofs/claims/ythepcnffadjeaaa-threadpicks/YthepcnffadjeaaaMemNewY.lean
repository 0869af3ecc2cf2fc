/-
  What the call of New comes to, where the sizes are a memory's. Conditions: those of each theorem.
-/
import Derived.Test.YthepcnffadjeaaaMemNew
namespace Go.Proofs.Ythepcnffadjeaaa
open Go Go.RowKit

/-- The pointers to the first k regions. -/
def ptrs (rb : Nat → Nat) (k : Nat) : List Value := (List.range k).map fun i => .pointer (some ⟨rb i, 0, none⟩)
/-- Where New stands: k regions are made. -/
structure NewIn (l : List Int) (bm k : Nat) (v : Value) (rb wb : Nat → Nat) (w0 w : World) : Prop where
  ext : Ext w0 w
  bm0 : w0.heap.size ≤ bm
  m : w.heap[bm]? = some (.cells #[v, .int .i64 0] 76 (0, 0))
  own : w.ownsRow w0.heap.size 77 1 v k (ptrs rb k)
  reg : ∀ i, i < k → w0.heap.size ≤ rb i ∧ w.heap[rb i]? = some (.cells #[.slice (some ⟨wb i, 0, none⟩) (iN l i).toNat (iN l i).toNat, .int .u64 1] 79 (0, 0))
  wds : ∀ i, i < k → w0.heap.size ≤ wb i ∧ ∃ cur, w.heap[wb i]? = some (.cells cur 43 (0, 0)) ∧ (iN l i).toNat ≤ cur.size ∧ ∀ j, j < (iN l i).toNat → cur[j]? = some (.int .u64 0)
  rinj : ∀ i j, i < k → j < k → rb i = rb j → i = j
  winj : ∀ i j, i < k → j < k → wb i = wb j → i = j

theorem heap_lt {w : World} {b : Nat} {o : Obj} (h : w.heap[b]? = some o) : b < w.heap.size := (Array.getElem?_eq_some_iff.1 h).1
/-- A row that is owned is of its type. -/
theorem own_ne {w : World} {base : Nat} {e : TypeId} {size : Nat} {v : Value} {n : Nat} {xs : List Value} (h : w.ownsRow base e size v n xs) {b : Nat} {c : Array Value} {t : TypeId} {f : Nat × Nat}
    (hb : w.heap[b]? = some (.cells c t f)) (hne : t ≠ e) : some b ≠ v.ownBlock := by
  rcases h.2 with ⟨rfl, _⟩ | ⟨g, cap, cur, rfl, _, hh, _⟩
  · simp [Value.ownBlock]
  · intro e1
    simp [Value.ownBlock] at e1
    subst e1
    exact block_ne hb hh hne rfl

theorem ptrs_snoc (rb : Nat → Nat) (k g : Nat) : ptrs rb k ++ [.pointer (some ⟨g, 0, none⟩)] = ptrs (fun i => if i = k then g else rb i) (k + 1) := by
  unfold ptrs
  rw [List.range_succ, List.map_append]
  congr 1
  · apply List.map_congr_left
    intro i hi
    have : i ≠ k := by have := List.mem_range.1 hi; omega
    simp [this]
  · simp

theorem NewIn.step {l : List Int} {bm k : Nat} {v v' : Value} {rb wb : Nat → Nat} {w0 wr w3 w4 : World} {g1 g2 : Nat} {z : Array Value} (h : NewIn l bm k v rb wb w0 wr) (h3 : Ext wr w3)
    (hg1 : wr.heap.size ≤ g1) (hg2 : wr.heap.size ≤ g2) (hz : w3.heap[g1]? = some (.cells z 43 (0, 0))) (hz1 : (iN l k).toNat ≤ z.size) (hz2 : ∀ j, j < (iN l k).toNat → z[j]? = some (.int .u64 0))
    (hr : w3.heap[g2]? = some (.cells #[.slice (some ⟨g1, 0, none⟩) (iN l k).toNat (iN l k).toNat, .int .u64 1] 79 (0, 0)))
    (hg : w3.grownBy w4 v.ownBlock) (ho : w4.ownsRow w0.heap.size 77 1 v' (k + 1) (ptrs rb k ++ [.pointer (some ⟨g2, 0, none⟩)])) :
    NewIn l bm (k + 1) v' (fun i => if i = k then g2 else rb i) (fun i => if i = k then g1 else wb i) w0 (w4.setCell ⟨bm, 0, none⟩ v') := by
  have hown3 : w3.ownsRow w0.heap.size 77 1 v k (ptrs rb k) := by
    obtain ⟨h1, h2⟩ := h.own
    refine ⟨h1, ?_⟩
    rcases h2 with h2 | ⟨g, cap, cur, hv, hgb, hh, r⟩
    · exact .inl h2
    · exact .inr ⟨g, cap, cur, hv, hgb, by rw [h3.block g (heap_lt hh)]; exact hh, r⟩
  have keep : ∀ {b : Nat} {c : Array Value} {t : TypeId}, w3.heap[b]? = some (.cells c t (0, 0)) → t ≠ 77 → w4.heap[b]? = some (.cells c t (0, 0)) := fun hb hne => by
    rw [hg.block _ (heap_lt hb) (own_ne hown3 hb hne)]; exact hb
  have hm3 : w3.heap[bm]? = some (.cells #[v, .int .i64 0] 76 (0, 0)) := by rw [h3.block _ (heap_lt h.m)]; exact h.m
  have hm4 := keep hm3 (by decide)
  have far : ∀ {b : Nat} {c : Array Value} {t : TypeId}, w4.heap[b]? = some (.cells c t (0, 0)) → t ≠ 76 → (w4.setCell ⟨bm, 0, none⟩ v').heap[b]? = some (.cells c t (0, 0)) := fun hb hne => by
    rw [set_other _ (block_ne hb hm4 hne)]; exact hb
  have hext4 : Ext w0 w4 := h.ext.trans (Below.mono (B := w0.heap.size) ⟨h3.os, h3.tape, h3.output, h3.size, fun j hj => h3.block j (Nat.lt_of_lt_of_le hj h.ext.size)⟩ (Nat.le_refl _)) |>.grown hg (Nat.le_trans h.ext.size h3.size) (fun j hj => by
    rcases hown3.2 with ⟨rfl, _⟩ | ⟨g, cap, cur, rfl, hgb, _⟩
    · simp [Value.ownBlock] at hj
    · simp [Value.ownBlock] at hj; omega)
  refine ⟨ext_set _ h.bm0 hext4, h.bm0, ?_, ?_, fun i hi => ?_, fun i hi => ?_, fun i j hi hj e => ?_, fun i j hi hj e => ?_⟩
  · rw [set_same _ hm4]; rfl
  · rw [← ptrs_snoc]
    obtain ⟨h1, h2⟩ := ho
    refine ⟨h1, ?_⟩
    rcases h2 with h2 | ⟨g, cap, cur, hv, hgb, hh, r⟩
    · exact .inl h2
    · exact .inr ⟨g, cap, cur, hv, hgb, far hh (by decide), r⟩
  · by_cases e : i = k
    · subst e
      simp only [if_true]
      exact ⟨Nat.le_trans h.ext.size hg2, far (keep hr (by decide)) (by decide)⟩
    · simp only [e, if_false]
      obtain ⟨h1, h2⟩ := h.reg i (by omega)
      have h2' := (h3.block _ (heap_lt h2)).trans h2
      exact ⟨h1, far (keep h2' (by decide)) (by decide)⟩
  · by_cases e : i = k
    · subst e
      simp only [if_true]
      exact ⟨Nat.le_trans h.ext.size hg1, z, far (keep hz (by decide)) (by decide), hz1, hz2⟩
    · simp only [e, if_false]
      obtain ⟨h1, cur, h2, h4⟩ := h.wds i (by omega)
      have h2' := (h3.block _ (heap_lt h2)).trans h2
      exact ⟨h1, cur, far (keep h2' (by decide)) (by decide), h4⟩
  · by_cases e1 : i = k <;> by_cases e2 : j = k <;> simp only [e1, e2, if_true, if_false] at e
    · omega
    · have := heap_lt (h.reg j (by omega)).2; omega
    · have := heap_lt (h.reg i (by omega)).2; omega
    · exact h.rinj i j (by omega) (by omega) e
  · by_cases e1 : i = k <;> by_cases e2 : j = k <;> simp only [e1, e2, if_true, if_false] at e
    · omega
    · obtain ⟨_, cur, h2, _⟩ := h.wds j (by omega); have := heap_lt h2; omega
    · obtain ⟨_, cur, h2, _⟩ := h.wds i (by omega); have := heap_lt h2; omega
    · exact h.winj i j (by omega) (by omega) e

theorem NewIn.done {l : List Int} {bm : Nat} {v : Value} {rb wb : Nat → Nat} {w0 w : World} (h : NewIn l bm l.length v rb wb w0 w) (hok : SizesOk l) : ∃ L : Lay, L.bm = bm ∧ MemIn w0.heap.size w.heap.size L (M0 l l.length) w := by
  have U1 : U 1#64 = 1 := U_of _ _ (by decide)
  obtain ⟨h65, hfit⟩ := hok
  have hsm : ∀ i, i < l.length → (iN l i).toNat ≤ 16777216 := fun i hi => by
    have h1 := hfit i hi
    have h2 := FitTo'.sum (l := l) (k := i) fun j hj => hfit j (by omega)
    omega
  have hreg : ∀ i, i < l.length → w0.heap.size ≤ rb i ∧ rb i < w.heap.size ∧ w.heap[rb i]? = some (.cells #[.slice (some ⟨wb i, 0, none⟩) (iN l i).toNat (iN l i).toNat, .int .u64 (U 1#64)] 79 (0, 0)) := fun i hi => by
    rw [U1]; exact ⟨(h.reg i hi).1, heap_lt (h.reg i hi).2, (h.reg i hi).2⟩
  have hwds : ∀ i, i < l.length → w0.heap.size ≤ wb i ∧ wb i < w.heap.size ∧ ∃ cur, w.heap[wb i]? = some (.cells cur 43 (0, 0)) ∧ (iN l i).toNat ≤ cur.size ∧ ∀ j, j < (iN l i).toNat → cur[j]? = some (.int .u64 (U 0#64)) := fun i hi => by
    rw [U_0]
    obtain ⟨h1, cur, h2, h3⟩ := h.wds i hi
    exact ⟨h1, heap_lt h2, cur, h2, h3⟩
  rcases h.own.2 with ⟨rfl, hn⟩ | ⟨g, cap, cur, rfl, hg, hh, hc, hmax, hs, ht⟩
  · refine ⟨⟨bm, 0, none, 0, rb, wb, fun i => (iN l i).toNat⟩, rfl, ⟨Nat.le_refl _, h65, hsm, ⟨h.bm0, heap_lt h.m⟩, ?_, fun h0 => absurd h0 ?_, hreg, hwds, h.rinj, h.winj⟩⟩
    · show _ = some (Obj.cells #[.slice none l.length 0, .int .i64 0] _ _)
      rw [hn]; exact h.m
    · show ¬ 0 < l.length
      omega
  · refine ⟨⟨bm, g, some ⟨g, 0, none⟩, cap, rb, wb, fun i => (iN l i).toNat⟩, rfl, ⟨Nat.le_refl _, h65, hsm, ⟨h.bm0, heap_lt h.m⟩, h.m, fun _ => ⟨rfl, hg, heap_lt hh, cur, hh, fun i hi => ?_⟩, hreg, hwds, h.rinj, h.winj⟩⟩
    have hi' : i < l.length := hi
    have h3 : (cur.toList.take (l.length * 1))[i]? = (ptrs rb l.length)[i]? := by rw [ht]
    rw [List.getElem?_take, if_pos (by omega)] at h3
    rw [← Array.getElem?_toList, h3]
    unfold ptrs
    rw [List.getElem?_map, List.getElem?_range hi']
    rfl

theorem Try.infoReg : (Try.prog.info? 77).map (fun i => (i.zero, i.size, i.bytes)) = some (some (.pointer none), 1, 8) := by kernel_rfl
theorem Try.infoU64 : (Try.prog.info? 43).map (fun i => (i.zero, i.size, i.bytes)) = some (some (.int .u64 0), 1, 8) := by kernel_rfl

theorem ext_grown00 {w u u' : World} (h : Ext w u) (hg : u.grownBy u' none) : Ext w u' := h.grown hg h.size fun k hk => by cases hk
/-- A row that was made is of zeros. -/
theorem made_zero {w : World} {base g n : Nat} {t : TypeId} (h : w.ownsRow base t 1 (.slice (some ⟨g, 0, none⟩) n n) n (madeCells (Value.int .u64 0).cells (n * 1)).toList) :
    ∃ z, w.heap[g]? = some (.cells z t (0, 0)) ∧ n ≤ z.size ∧ ∀ j, j < n → z[j]? = some (.int .u64 0) := by
  rcases h.2 with ⟨h1, _⟩ | ⟨g', cap, cur, h1, _, hh, _, _, hs, ht⟩
  · cases h1
  · simp at h1
    obtain ⟨rfl, rfl⟩ := h1
    refine ⟨cur, hh, by omega, fun j hj => ?_⟩
    have e1 : (madeCells (Value.int IntKind.u64 0).cells n).toList = List.replicate n (Value.int .u64 0) := toList_madeCells_one _ _
    rw [Nat.mul_one, e1] at ht
    have h3 : (cur.toList.take n)[j]? = (List.replicate n (Value.int .u64 0))[j]? := by rw [ht]
    rw [List.getElem?_take, if_pos hj, List.getElem?_replicate, if_pos hj] at h3
    rw [← Array.getElem?_toList, h3]

theorem own_ext' {w w' : World} {base : Nat} {e : TypeId} {size : Nat} {v : Value} {n : Nat} {xs : List Value} (h : w.ownsRow base e size v n xs) (hb : Ext w w') : w'.ownsRow base e size v n xs := by
  obtain ⟨h1, h2⟩ := h
  refine ⟨h1, ?_⟩
  rcases h2 with h2 | ⟨g, cap, cur, hv, hg, hh, r⟩
  · exact .inl h2
  · exact .inr ⟨g, cap, cur, hv, hg, by rw [hb.block g (heap_lt hh)]; exact hh, r⟩
theorem own_slice {w : World} {base : Nat} {e : TypeId} {size : Nat} {v : Value} {n : Nat} {xs : List Value} (h : w.ownsRow base e size v (n + 1) xs) : ∃ g cap, v = .slice (some ⟨g, 0, none⟩) (n + 1) cap := by
  rcases h.2 with ⟨_, h2⟩ | ⟨g, cap, cur, hv, _⟩
  · cases h2
  · exact ⟨g, cap, hv⟩
theorem newp (w : World) (g : Nat) (x : Value) (t : TypeId) (hg : g = w.heap.size) : ∀ j u, [x][j]? = some u → (w.alloc (.cells #[x] t)).cell? ((⟨g, 0, none⟩ : Addr).add j) = some u := by
  intro j u hj
  subst hg
  match j, hj with
  | 0, hj => simp at hj; subst hj; simp [Addr.add]
theorem onep (p : Option Addr) : ∀ u ∈ [Value.pointer p], u.oneCell' = true := by
  intro u hu; simp at hu; subst hu; rfl

/-- The loop of New. -/
def NewRel (l : List Int) (bm : Nat) (w0 : World) (i : Value) (wr : World) : Prop := ∃ (k : Nat) (v : Value) (rb wb : Nat → Nat), k ≤ l.length ∧ i = .int .i64 (k : Int) ∧ NewIn l bm k v rb wb w0 wr

set_option maxHeartbeats 1000000 in
theorem new_yes (l : List Int) (v : Value) (w : World) (hok : SizesOk l) (hI : Is w v l) :
    Calls Try.prog 10 #[v] w (RetNew l w) := by
  have HI := Lib.hid hI
  have HK := Lib.hid hok
  obtain ⟨h65, hfit⟩ := hok
  have HF := Lib.hid hfit
  obtain ⟨a0, cap, rfl, hc, hcell⟩ := hI
  clear hcell hfit
  have h65' : decide (65 < (l.length : Int)) = false := by simp; omega
  obtain ⟨iR, hiR, hz0, hz1, hz2⟩ := info_parts Try.infoReg
  obtain ⟨iU, hiU, hy0, hy1, hy2⟩ := info_parts Try.infoU64
  go_enter Try.func10, Try.ntmps10
  go_wp2_with (go_at_call 26; refine (fit_any l _ _ true (hid_yes HF.out) h65 HI.out).mono ?_; rintro e w' hr'; obtain ⟨rfl, s, rfl⟩ := hr'.over; clear hr')
  have hbm : w.heap.size ≤ (over w s).heap.size := over_size w s
  have H0 : Hid (NewIn l (over w s).heap.size 0 (.slice none 0 0) (fun _ => 0) (fun _ => 0) w ((over w s).alloc (.cells #[.slice none 0 0, .int .i64 0] 76))) := by
    refine Lib.hid ⟨ext_alloc _ (over_below w s), hbm, ?_, World.ownsRow_nil _ _ _ _, fun i hi => absurd hi (Nat.not_lt_zero _), fun i hi => absurd hi (Nat.not_lt_zero _), fun i _ hi => absurd hi (Nat.not_lt_zero _), fun i _ hi => absurd hi (Nat.not_lt_zero _)⟩
    show ((over w s).heap.push _)[(over w s).heap.size]? = _
    simp
  generalize (over w s).heap.size = bm at H0 hbm ⊢
  generalize (over w s).alloc _ = wa at H0 ⊢
  go_loopw [19] (fun i wr => NewRel l bm w i wr) (fun i _ => (l.length - intOf i).toNat)
  case atStart => exact ⟨0, _, _, _, Nat.zero_le _, rfl, H0.out⟩
  case round =>
    obtain ⟨k, v, rb, wb, hk, rfl, hN⟩ := hrel
    have HN := Lib.hid hN
    clear hN H0
    by_cases hlt : k < l.length
    · obtain ⟨b, off, rfl, hb, hcells⟩ := (HI.out.ext HN.out.ext).at (by omega)
      have c1 := hcells k hlt
      have hf := HF.out k hlt
      have hs := FitTo'.sum (l := l) (k := k) fun j hj => HF.out j (by omega)
      have cm : wr.cell? ⟨bm, 0, none⟩ = some v := cell_at HN.out.m rfl
      have cz : wr.frozen? ⟨bm, 0, none⟩ = false := free_at HN.out.m
      have lm := heap_lt HN.out.m
      clear hcells
      obtain ⟨g0, hg0, hne⟩ : ∃ g0, (∀ x, v.ownBlock = some x → x = g0) ∧ bm ≠ g0 := by
        cases hv : v.ownBlock with
        | none => exact ⟨wr.heap.size, (fun x hx => by cases hx), Nat.ne_of_lt lm⟩
        | some g => exact ⟨g, (fun x hx => by cases hx; rfl), fun e => own_ne HN.out.own HN.out.m (by decide) (by rw [hv, e])⟩
      have HG := Lib.hid hg0
      clear hg0
      go_wp2
      refine wp_region_mix (fun w' => ∃ s, w' = off1 g0 wr s) [(0, [0, 1, 2, 3, 4, 5]), (1, [6]), (0, [7]), (1, [8]), (1, [9]), (1, [10]), (0, [11, 12]), (2, [13])] (by kernel_rfl) (by kernel_rfl) (off1_of (Fr.refl _ _ wr).drew) ?_
      simp only [pieces, pickL, List.map_cons, List.map_nil, List.getD_cons_zero, List.getD_cons_succ]
      refine mix_reads ?_
      repeat (go_big_quiet_step (fail))
      refine wpQuiet_nil (mix_acts ?_)
      go_wp2_with (at_make; refine wpList_make_full _ rfl (.tmp 28) (.tmp 28) 31 rfl w.heap.size 43 iU (.int .u64 0) 1 Try.underlying31 hiU hy0 hy1 .i64 .i64 (iN l k) (iN l k) (iN l k).toNat rfl rfl (by omega) (by omega) (by rw [hy2]; omega) (by unfold maxLen; omega) HN.out.ext.size ?_; intro w1 ho1 hg1; have HX1 := Lib.hid (ext_grown00 (ext_drew (ext_refl wr)) hg1); have HZ := Lib.hid (made_zero ho1); clear ho1 hg1)
      refine mixQ_mk (off1_of (.of_ext HX1.out)) (mix_reads ?_)
      repeat (go_big_quiet_step (fail))
      refine wpQuiet_nil (mix_acts ?_)
      go_wp2
      refine mixQ_mk (off1_of (.of_ext (ext_alloc _ HX1.out))) (mix_acts ?_)
      go_wp2
      refine mixQ_mk (off1_of (.of_ext (ext_alloc _ (ext_alloc _ HX1.out)))) (mix_acts ?_)
      have HO := Lib.hid (own_ext' (own_ext' HN.out.own HX1.out) (ext_alloc (.cells #[.slice (some ⟨wr.heap.size, 0, none⟩) (iN l k).toNat (iN l k).toNat, .int .u64 1] 79) (ext_refl w1)))
      have HO2 := Lib.hid (own_ext' HO.out (ext_alloc (.cells #[.pointer (some ⟨w1.heap.size, 0, none⟩)] 77) (ext_refl _)))
      go_wp2_with (at_builtin; refine wpList_append_own _ rfl (.tmp 27) (.tmp 32) 74 rfl w.heap.size 77 iR (.pointer none) 1 8 Try.underlying74 hiR hz0 hz1 hz2 rfl (by decide) v k (ptrs rb k) rfl HO2.out ⟨w1.heap.size + 1, 0, none⟩ 1 1 [.pointer (some ⟨w1.heap.size, 0, none⟩)] rfl rfl (newp _ _ _ _ (by simp)) (onep _) (by unfold maxLen; omega) (by omega) (by have := HN.out.ext.size; have := HX1.out.size; simp; omega) ?_; intro v2 w2 hv2 hg2 hn2; obtain ⟨g', cap', rfl⟩ := own_slice hv2; have HV := Lib.hid hv2; have HG2 := Lib.hid hg2; clear hv2 hg2 hn2)
      have HF2 := Lib.hid (Fr.grown (lo := g0) (hi := g0 + 1) (.of_ext (ext_alloc _ (ext_alloc _ HX1.out))) HG2.out (fun x hx => by have := HG.out x hx; omega))
      refine mixQ_mk (off1_of HF2.out) (mix_reads ?_)
      have cm2 : w2.cell? ⟨bm, 0, none⟩ = some v := by rw [HF2.out.cell lm (by omega)]; exact cm
      have cz2 : w2.frozen? ⟨bm, 0, none⟩ = false := by rw [HF2.out.frozen lm (by omega)]; exact cz
      repeat (go_big_quiet_step (fail))
      refine wpQuiet_nil (mix_late ?_)
      have lm2 : bm < w2.heap.size := Nat.lt_of_lt_of_le lm HF2.out.size
      go_wp2
      refine lateQ_mk (fun _ => True) trivial (mix_end ?_)
      obtain ⟨z, hz', hzs, hzc⟩ := HZ.out
      have hz : w1.heap[wr.heap.size]? = some (.cells z 43 (0, 0)) := hz'
      clear hz'
      have HS := Lib.hid (HN.out.step (v' := .slice (some ⟨g', 0, none⟩) (k + 1) cap') (w3 := (w1.alloc (.cells #[.slice (some ⟨wr.heap.size, 0, none⟩) (iN l k).toNat (iN l k).toNat, .int .u64 1] 79)).alloc (.cells #[.pointer (some ⟨w1.heap.size, 0, none⟩)] 77)) (w4 := w2) (g1 := wr.heap.size) (g2 := w1.heap.size) (z := z)
        (ext_alloc _ (ext_alloc _ HX1.out)) (Nat.le_refl _) HX1.out.size
        (by rw [Below.heap_alloc _ _ _ (by have := heap_lt hz; simp; omega), Below.heap_alloc _ _ _ (heap_lt hz)]; exact hz) hzs hzc
        (by rw [Below.heap_alloc _ _ _ (by simp)]; show (w1.heap.push _)[w1.heap.size]? = _; simp) HG2.out HV.out)
      clear hz hzs hzc HZ
      go_wp2
      exact ⟨⟨k + 1, _, _, _, by omega, by go_num, HS.out⟩, by simp [intOf]; omega⟩
    · obtain rfl : k = l.length := by omega
      obtain ⟨L, rfl, hM⟩ := HN.out.done HK.out
      have HM := Lib.hid hM
      clear hM
      go_wp2
      go_ret2
      exact ⟨L, rfl, HM.out, HN.out.ext⟩

end Go.Proofs.Ythepcnffadjeaaa
