/-
  What the reference's New comes to: the walk. Conditions: those of each theorem.
-/
import Derived.Test.YthepcnffadjeaaaMemRNew
namespace Go.Proofs.Ythepcnffadjeaaa
open Go Go.RowKit

/-- What it comes to, where the sizes aren't a memory's. -/
def RetNo (w : World) (e : Ending) (w' : World) : Prop := e = .returned (.tuple #[.agg #[.slice none 0 0, .slice none 0 0, .int .i64 0], .bool false]) ∧ Ext w w'
/-- .. where they are. -/
def RetRNew (l : List Int) (w : World) (e : Ending) (w' : World) : Prop := ∃ R : RL, e = .returned (.tuple #[refV R (M0 l l.length), .bool true]) ∧ RefIn (w.heap.size ≤ ·) R (M0 l l.length) w' ∧ Ext w w'

/-- The second loop. -/
def RNewRel2 (l : List Int) (s : Nat) (w0 : World) (i : Value) (wr : World) : Prop := ∃ (k : Nat) (v u : Value) (xb : Nat → Nat), k ≤ l.length ∧ i = .int .i64 (k : Int) ∧ RNewIn l s k k v u xb w0 wr

theorem ext_grown000 {w u u' : World} (h : Ext w u) (hg : u.grownBy u' none) : Ext w u' := h.grown hg h.size fun k hk => by cases hk
theorem made_zero' {w : World} {base g n : Nat} {t : TypeId} (h : w.ownsRow base t 1 (.slice (some ⟨g, 0, none⟩) n n) n (madeCells (Value.int .u64 0).cells (n * 1)).toList) :
    ∃ z, w.heap[g]? = some (.cells z t (0, 0)) ∧ z.size = n ∧ ∀ j, j < n → z[j]? = some (.int .u64 0) := by
  rcases h.2 with ⟨h1, _⟩ | ⟨g', cap, cur, h1, _, hh, _, _, hs, ht⟩
  · cases h1
  · simp at h1
    obtain ⟨rfl, rfl⟩ := h1
    refine ⟨cur, hh, by omega, fun j hj => ?_⟩
    have e1 : (madeCells (Value.int IntKind.u64 0).cells n).toList = List.replicate n (Value.int .u64 0) := toList_madeCells_one _ _
    rw [Nat.mul_one, e1] at ht
    have h3 : (cur.toList.take n)[j]? = (List.replicate n (Value.int .u64 0))[j]? := by rw [ht]
    rw [List.getElem?_take, if_pos hj, List.getElem?_replicate, if_pos hj] at h3
    rw [← Array.getElem?_toList, h3]
theorem newv (w : World) (g : Nat) (x : Value) (t : TypeId) (hg : g = w.heap.size) : ∀ j u, [x][j]? = some u → (w.alloc (.cells #[x] t)).cell? ((⟨g, 0, none⟩ : Addr).add j) = some u := newp w g x t hg

theorem heap_alloc_of {w : World} {b : Nat} {o : Obj} (o' : Obj) (h : w.heap[b]? = some o) : (w.alloc o').heap[b]? = some o := (Below.heap_alloc _ _ _ (heap_lt h)).trans h
theorem own_block_keep {w w' : World} {base : Nat} {e : TypeId} {size : Nat} {v : Value} {n : Nat} {xs : List Value} (h : w.ownsRow base e size v n xs) (hg : w.grownBy w' v.ownBlock) {b : Nat} {c : Array Value} {t : TypeId} (hb : w.heap[b]? = some (.cells c t (0, 0))) (hne : t ≠ e) :
    w'.heap[b]? = some (.cells c t (0, 0)) := (hg.block _ (heap_lt hb) (own_ne h hb hne)).trans hb

set_option maxRecDepth 8000 in
set_option maxHeartbeats 2000000 in
theorem rnew_yes (l : List Int) (v : Value) (w : World) (hok : SizesOk l) (hI : Is w v l) :
    Calls Try.prog 11 #[v] w (RetRNew l w) := by
  have HI := Lib.hid hI
  have HK := Lib.hid hok
  obtain ⟨h65, hfit⟩ := hok
  have HF := Lib.hid hfit
  obtain ⟨a0, cap, rfl, hc, hcell⟩ := hI
  clear hcell hfit
  obtain ⟨iS, hiS, hs0, hs1, hs2⟩ := info_parts Try.infoSr
  obtain ⟨iU, hiU, hy0, hy1, hy2⟩ := info_parts Try.infoU64r
  go_enter Try.func11, Try.ntmps11
  go_wp2
  have H0 : Hid (RNewIn l (w.heap.size + 1) 0 0 (.slice none 0 0) (.slice none 0 0) (fun _ => 0) w ((w.alloc (.cells #[.slice none 0 0, .slice none 0 0, .int .i64 0] 33)).alloc (.cells #[.slice none 0 0, .slice none 0 0, .int .i64 0] 33))) := by
    refine Lib.hid ⟨ext_alloc _ (ext_alloc _ (ext_refl w)), Nat.lt_succ_self _, heap_new _ _ _ (by simp), ?_, World.ownsRow_nil _ _ _ _, World.ownsRow_nil _ _ _ _, fun _ => rfl, fun i hi => absurd hi (Nat.not_lt_zero _)⟩
    rw [Below.heap_alloc _ _ _ (by simp)]
    exact heap_new _ _ _ rfl
  generalize (w.alloc (.cells #[.slice none 0 0, .slice none 0 0, .int .i64 0] 33)).alloc (.cells #[.slice none 0 0, .slice none 0 0, .int .i64 0] 33) = wa at H0 ⊢
  go_loop [5, 6] (fun all i => RNewRel1 l all i) (fun _ i => (l.length - intOf i).toNat)
  case atStart => exact ⟨0, Nat.zero_le _, Nat.zero_le _, rfl, rfl, FitTo'.zero l⟩
  case round =>
    obtain ⟨k, hk, hk65, rfl, rfl, hf⟩ := hrel
    have HF1 := Lib.hid hf
    have hsum := hf.sum
    clear hf
    by_cases hlt : k < l.length
    · obtain ⟨b, o, rfl, hb, hcells⟩ := (HI.out.ext H0.out.ext).at (by omega)
      have c1 := hcells k hlt
      have hfk := HF.out k hlt
      have q1 : decide (65 ≤ (k : Int)) = false := by simp; omega
      have q2 : decide (iN l k < 0) = false := by simp; omega
      have q3 : decide (16777216 - sumTo l k < iN l k) = false := by simp; omega
      clear hcells
      go_wp2
      exact ⟨⟨k + 1, by omega, by omega, by go_num, by simp only [sumTo], HF1.out.succ hfk.1 hfk.2⟩, by simp [intOf]; omega⟩
    · have q0 : decide ((k : Int) < (l.length : Int)) = false := by simp; omega
      have q0' : decide (k < l.length) = false := by simp; omega
      go_wp2
      go_loopw [7] (fun i wr => RNewRel2 l (w.heap.size + 1) w i wr) (fun i _ => (l.length - intOf i).toNat)
      case atStart => exact ⟨0, _, _, _, Nat.zero_le _, rfl, H0.out⟩
      case round =>
        clear H0
        obtain ⟨k, v, u, xb, hk, rfl, hN⟩ := hrel
        have HN := Lib.hid hN
        clear hN
        by_cases hlt : k < l.length
        · obtain ⟨b, o, rfl, hb, hcells⟩ := (HI.out.ext HN.out.ext).at (by omega)
          have c1 := hcells k hlt
          have hf := HF.out k hlt
          have hs := FitTo'.sum (l := l) (k := k) fun j hj => HF.out j (by omega)
          have cm : wr.cell? ⟨w.heap.size + 1, 0, none⟩ = some v := cell_at HN.out.m rfl
          have cz : wr.frozen? ⟨w.heap.size + 1, 0, none⟩ = false := free_at HN.out.m
          have lm := heap_lt HN.out.m
          have hbw : b < w.heap.size := by
            obtain ⟨b', o', e', hb', _⟩ := HI.out.at (by omega)
            simp at e'
            omega
          obtain ⟨g0, hg0, hne, hnb⟩ : ∃ g0, (∀ x, v.ownBlock = some x → x = g0) ∧ w.heap.size + 1 ≠ g0 ∧ b ≠ g0 := by
            cases hv : v.ownBlock with
            | none => exact ⟨wr.heap.size, (fun x hx => by cases hx), Nat.ne_of_lt lm, by omega⟩
            | some g =>
              refine ⟨g, (fun x hx => by cases hx; rfl), fun e => own_ne HN.out.own HN.out.m (by decide) (by rw [hv, e]), ?_⟩
              have hle : w.heap.size ≤ g := by
                rcases HN.out.own.2 with ⟨h1, _⟩ | ⟨g', _, _, h1, hg', _⟩
                · rw [h1] at hv; simp [Value.ownBlock] at hv
                · rw [h1] at hv; simp [Value.ownBlock] at hv; omega
              omega
          have HG := Lib.hid hg0
          clear hg0 hcells
          go_wp2
          refine wp_region_mix (fun w' => ∃ s, w' = off1 g0 wr s) [(0, [0, 1, 2, 3, 4, 5]), (1, [6]), (1, [7]), (1, [8]), (0, [9]), (2, [10])] (by kernel_rfl) (by kernel_rfl) (off1_of (Fr.refl _ _ wr).drew) ?_
          simp only [pieces, pickL, List.map_cons, List.map_nil, List.getD_cons_zero, List.getD_cons_succ]
          refine mix_reads ?_
          repeat (go_big_quiet_step (fail))
          refine wpQuiet_nil (mix_acts ?_)
          go_wp2_with (at_make; refine wpList_make_full _ rfl (.tmp 50) (.tmp 50) 31 rfl w.heap.size 43 iU (.int .u64 0) 1 Try.underlying31 hiU hy0 hy1 .i64 .i64 (iN l k) (iN l k) (iN l k).toNat rfl rfl (by omega) (by omega) (by rw [hy2]; omega) (by unfold maxLen; omega) HN.out.ext.size ?_; intro w1 ho1 hg1; have HX1 := Lib.hid (ext_grown000 (ext_drew (ext_refl wr)) hg1); have HZ := Lib.hid (made_zero' ho1); clear ho1 hg1)
          refine mixQ_mk (off1_of (.of_ext HX1.out)) (mix_acts ?_)
          go_wp2
          refine mixQ_mk (off1_of (.of_ext (ext_alloc _ HX1.out))) (mix_acts ?_)
          have HO := Lib.hid (own_ext' (own_ext' HN.out.own HX1.out) (ext_alloc (.cells #[.slice (some ⟨wr.heap.size, 0, none⟩) (iN l k).toNat (iN l k).toNat] 31) (ext_refl w1)))
          go_wp2_with (at_builtin; refine wpList_append_own _ rfl (.tmp 46) (.tmp 52) 30 rfl w.heap.size 31 iS (.slice none 0 0) 1 24 Try.underlying30 hiS hs0 hs1 hs2 rfl (by decide) v k (rowsL l xb k) rfl HO.out ⟨w1.heap.size, 0, none⟩ 1 1 [.slice (some ⟨wr.heap.size, 0, none⟩) (iN l k).toNat (iN l k).toNat] rfl rfl (newv _ _ _ _ rfl) (by simp [Value.oneCell']) (by unfold maxLen; omega) (by omega) (by have := HN.out.ext.size; have := HX1.out.size; simp; omega) ?_; intro v2 w2 hv2 hg2 hn2; obtain ⟨g', cap', rfl⟩ := own_slice hv2; have HV := Lib.hid hv2; have HG2 := Lib.hid hg2; clear hv2 hg2 hn2)
          have HF2 := Lib.hid (Fr.grown (lo := g0) (hi := g0 + 1) (.of_ext (ext_alloc _ HX1.out)) HG2.out (fun x hx => by have := HG.out x hx; omega))
          refine mixQ_mk (off1_of HF2.out) (mix_reads ?_)
          have cm2 : w2.cell? ⟨w.heap.size + 1, 0, none⟩ = some v := by rw [HF2.out.cell lm (by omega)]; exact cm
          have cz2 : w2.frozen? ⟨w.heap.size + 1, 0, none⟩ = false := by rw [HF2.out.frozen lm (by omega)]; exact cz
          repeat (go_big_quiet_step (fail))
          refine wpQuiet_nil (mix_late ?_)
          go_wp2
          refine lateQ_mk (fun _ => True) trivial (mix_end ?_)
          obtain ⟨z, hz', hzs, hzc⟩ := HZ.out
          have hz : w1.heap[wr.heap.size]? = some (.cells z 43 (0, 0)) := hz'
          have HS := Lib.hid (HN.out.stepW (v' := .slice (some ⟨g', 0, none⟩) (k + 1) cap') (w3 := w1.alloc (.cells #[.slice (some ⟨wr.heap.size, 0, none⟩) (iN l k).toNat (iN l k).toNat] 31)) (w4 := w2) (g1 := wr.heap.size) (z := z)
            (ext_alloc _ HX1.out) (Nat.le_refl _) (by rw [Below.heap_alloc _ _ _ (heap_lt hz)]; exact hz) hzs hzc HG2.out HV.out)
          clear hz hz' hzs hzc HZ cm cm2 cz cz2 HF2 HG2 HV HX1 HO HG
          generalize w2.setCell ⟨w.heap.size + 1, 0, none⟩ (.slice (some ⟨g', 0, none⟩) (k + 1) cap') = w5 at HS ⊢
          have cu : w5.cell? ⟨w.heap.size + 1, 1, none⟩ = some u := cell_at HS.out.m rfl
          have cuz : w5.frozen? ⟨w.heap.size + 1, 1, none⟩ = false := free_at HS.out.m
          have HO5 := Lib.hid (own_ext' HS.out.ep (ext_alloc (.cells #[.int .u64 1] 43) (ext_refl w5)))
          go_wp2_with (at_builtin; refine wpList_append_own _ rfl (.tmp 56) (.tmp 57) 31 rfl w.heap.size 43 iU (.int .u64 0) 1 8 Try.underlying31 hiU hy0 hy1 hy2 rfl (by decide) u k (onesL k) rfl HO5.out ⟨w5.heap.size, 0, none⟩ 1 1 [.int .u64 1] rfl rfl (newv _ _ _ _ rfl) (by simp [Value.oneCell']) (by unfold maxLen; omega) (by omega) (by have := HS.out.ext.size; simp; omega) ?_; intro u2 w6 hu2 hg6 hn6; obtain ⟨g6, cap6, rfl⟩ := own_slice hu2; have HU := Lib.hid hu2; have HG6 := Lib.hid hg6; clear hu2 hg6 hn6; have hm6 := own_block_keep HO5.out HG6.out (heap_alloc_of _ HS.out.m) (by decide); have cu6 := cell_at (o := 1) hm6 rfl; have cu6z := free_at (o := 1) hm6; clear hm6)
          have HE := Lib.hid (HS.out.stepE (u' := .slice (some ⟨g6, 0, none⟩) (k + 1) cap6) (ext_alloc _ (ext_refl w5)) HG6.out HU.out)
          go_wp2
          exact ⟨⟨k + 1, _, _, _, by omega, by go_num, HE.out⟩, by simp [intOf]; omega⟩
        · obtain rfl : k = l.length := by omega
          obtain ⟨wa', ea, wc, ec, bw, be, rfl, rfl, hdone⟩ := HN.out.done HK.out
          have HDN := Lib.hid hdone
          have m0 : wr.cell? ⟨w.heap.size + 1, 0, none⟩ = some (.slice wa' l.length wc) := cell_at HN.out.m rfl
          have m1 : wr.cell? ⟨w.heap.size + 1, 1, none⟩ = some (.slice ea l.length ec) := cell_at HN.out.m rfl
          have m2 : wr.cell? ⟨w.heap.size + 1, 2, none⟩ = some (.int .i64 0) := cell_at HN.out.m rfl
          have t0 : wr.cell? ⟨w.heap.size, 0, none⟩ = some (.slice none 0 0) := cell_at HN.out.t rfl
          have t1 : wr.cell? ⟨w.heap.size, 1, none⟩ = some (.slice none 0 0) := cell_at HN.out.t rfl
          have t2 : wr.cell? ⟨w.heap.size, 2, none⟩ = some (.int .i64 0) := cell_at HN.out.t rfl
          have tz : ∀ o, wr.frozen? ⟨w.heap.size, o, none⟩ = false := fun o => free_at HN.out.t
          clear hdone
          go_wp2
          refine bodyPost_ret (v := .tuple #[refV ⟨bw, be, wa', ea, wc, ec, xb, fun i => (iN l i).toNat⟩ (M0 l l.length), .bool true]) (by simp [results, Try.results11, go_sem, refV, M0, t0, t1, t2]) rfl ⟨_, rfl, HDN.out _ ?_⟩
          repeat (first | exact Fr.refl _ _ _ | refine Fr.set _ ?_ (Nat.le_refl _) (Nat.lt_succ_self _))

set_option maxRecDepth 8000 in
set_option maxHeartbeats 1000000 in
theorem rnew_no (l : List Int) (v : Value) (w : World) (hn : ¬ SizesOk l) (hI : Is w v l) :
    Calls Try.prog 11 #[v] w (RetNo w) := by
  have HI := Lib.hid hI
  have HK := Lib.hid hn
  obtain ⟨a0, cap, rfl, hc, hcell⟩ := hI
  clear hcell hn
  go_enter Try.func11, Try.ntmps11
  go_wp2
  have H0 : Hid (Ext w ((w.alloc (.cells #[.slice none 0 0, .slice none 0 0, .int .i64 0] 33)).alloc (.cells #[.slice none 0 0, .slice none 0 0, .int .i64 0] 33))) := Lib.hid (ext_alloc _ (ext_alloc _ (ext_refl w)))
  have HT : Hid (((w.alloc (.cells #[.slice none 0 0, .slice none 0 0, .int .i64 0] 33)).alloc (.cells #[.slice none 0 0, .slice none 0 0, .int .i64 0] 33)).heap[w.heap.size]? = some (.cells #[.slice none 0 0, .slice none 0 0, .int .i64 0] 33 (0, 0))) := by
    refine Lib.hid ?_
    rw [Below.heap_alloc _ _ _ (by simp)]
    exact heap_new _ _ _ rfl
  generalize (w.alloc (.cells #[.slice none 0 0, .slice none 0 0, .int .i64 0] 33)).alloc (.cells #[.slice none 0 0, .slice none 0 0, .int .i64 0] 33) = wa at H0 HT ⊢
  go_loop [5, 6] (fun all i => RNewRel1 l all i) (fun _ i => (l.length - intOf i).toNat)
  case atStart => exact ⟨0, Nat.zero_le _, Nat.zero_le _, rfl, rfl, FitTo'.zero l⟩
  case round =>
    obtain ⟨k, hk, hk65, rfl, rfl, hf⟩ := hrel
    have HF1 := Lib.hid hf
    have hsum := hf.sum
    clear hf
    by_cases hlt : k < l.length
    · obtain ⟨b, o, rfl, hb, hcells⟩ := (HI.out.ext H0.out).at (by omega)
      have c1 := hcells k hlt
      have t0 : wa.cell? ⟨w.heap.size, 0, none⟩ = some (.slice none 0 0) := cell_at HT.out rfl
      have t1 : wa.cell? ⟨w.heap.size, 1, none⟩ = some (.slice none 0 0) := cell_at HT.out rfl
      have t2 : wa.cell? ⟨w.heap.size, 2, none⟩ = some (.int .i64 0) := cell_at HT.out rfl
      have tz : ∀ o, wa.frozen? ⟨w.heap.size, o, none⟩ = false := fun o => free_at HT.out
      clear hcells
      by_cases g1 : k < 65
      · have q1 : decide (65 ≤ (k : Int)) = false := by simp; omega
        by_cases g2 : 0 ≤ iN l k
        · have q2 : decide (iN l k < 0) = false := by simp; omega
          by_cases g3 : iN l k ≤ 16777216 - sumTo l k
          · have q3 : decide (16777216 - sumTo l k < iN l k) = false := by simp; omega
            clear t0 t1 t2 tz
            go_wp2
            exact ⟨⟨k + 1, by omega, by omega, by go_num, by simp only [sumTo], HF1.out.succ g2 g3⟩, by simp [intOf]; omega⟩
          · have q3 : decide (16777216 - sumTo l k < iN l k) = true := by simp; omega
            go_wp2
            exact bodyPost_ret (v := .tuple #[.agg #[.slice none 0 0, .slice none 0 0, .int .i64 0], .bool false]) (by simp [results, Try.results11, go_sem, t0, t1, t2]) rfl ⟨rfl, by repeat (first | exact H0.out | refine ext_set _ (Nat.le_refl _) ?_)⟩
        · have q2 : decide (iN l k < 0) = true := by simp; omega
          go_wp2
          exact bodyPost_ret (v := .tuple #[.agg #[.slice none 0 0, .slice none 0 0, .int .i64 0], .bool false]) (by simp [results, Try.results11, go_sem, t0, t1, t2]) rfl ⟨rfl, by repeat (first | exact H0.out | refine ext_set _ (Nat.le_refl _) ?_)⟩
      · have q1 : decide (65 ≤ (k : Int)) = true := by simp; omega
        go_wp2
        exact bodyPost_ret (v := .tuple #[.agg #[.slice none 0 0, .slice none 0 0, .int .i64 0], .bool false]) (by simp [results, Try.results11, go_sem, t0, t1, t2]) rfl ⟨rfl, by repeat (first | exact H0.out | refine ext_set _ (Nat.le_refl _) ?_)⟩
    · exact absurd ⟨by omega, by rw [show l.length = k by omega]; exact HF1.out⟩ HK.out
end Go.Proofs.Ythepcnffadjeaaa
