/-
  What the calls of the reference's Fresh, Pop, Push, Same and Has come to. Conditions: those of each theorem.
-/
import Derived.Test.YtlpjmnbipbgkdaaGaq
import Derived.Deep.Cut
namespace Go.Proofs.Ytlpjmnbipbgkdaa
open Go Go.RowKit

def RetI (l : List Int) (w : World) (e : Ending) (w' : World) : Prop := ∃ v, e = .returned v ∧ IR w.heap.size v l w' ∧ Ext w w'
def FrRel (n : Int) (w : World) (vo vi : Value) (wr : World) : Prop := ∃ (k : Nat), vi = .int .i64 (k : Int) ∧ (k : Int) ≤ n ∧ IR w.heap.size vo (rfr k 0) wr ∧ Ext w wr
theorem rfr_snoc : ∀ (k : Nat) (j : Int), rfr k j ++ [j + k] = rfr (k + 1) j
  | 0, j => by simp [rfr]
  | k + 1, j => by
    have := rfr_snoc k (j + 1)
    simp only [rfr, List.cons_append] at this ⊢
    rw [show j + ((k + 1 : Nat) : Int) = j + 1 + k by omega, this]
set_option maxRecDepth 8000 in
set_option maxHeartbeats 1000000 in
theorem rfresh_any (n : Int) (h0 : 0 ≤ n) (h1 : n ≤ 1048576) (w : World) : Calls Try.prog 11 #[.int .i64 n] w (RetI (rfr n.toNat 0) w) := by
  go_enter Try.func11, Try.ntmps11
  go_wp2
  go_loopw [3, 4] (fun vo vi wr => FrRel n w vo vi wr) (fun _ i _ => (n - intOf i).toNat)
  case atStart => exact ⟨0, rfl, by omega, IR.nil _ _, ext_refl w⟩
  case round =>
    obtain ⟨k, rfl, hkn, hI, hX⟩ := hrel
    have HI := Lib.hid hI
    have HX := Lib.hid hX
    obtain ⟨va, vc, rfl⟩ := hI.slice
    clear hI hX
    by_cases hlt : (k : Int) < n
    · have hl : (rfr k 0).length ≤ 2000000 := by rw [rfr_len]; omega
      go_wp2_with (at_builtin; refine wpList_irow rfl (.tmp 10) (.tmp 12) rfl w.heap.size _ (rfr k 0) rfl (HI.out.ext (ext_alloc _ (ext_refl wr))) ⟨wr.heap.size, 0, none⟩ k rfl (newy _ _ _ _ rfl) hl (by have := HX.out.size; simp; omega) ?_; intro v4 w4 hv4 hg4 hn4; refine Hid.out ?_)
      refine Lib.hid ?_
      have HX4 := Lib.hid (grown_ext (ext_trans HX.out (ext_alloc (.cells #[.int .i64 (k : Int)] 3) (ext_refl wr))) (HI.out.ext (ext_alloc (.cells #[.int .i64 (k : Int)] 3) (ext_refl wr))) hg4 (Nat.le_refl _))
      have e : rfr k 0 ++ [(k : Int)] = rfr (k + 1) 0 := by have := rfr_snoc k 0; rwa [Int.zero_add] at this
      rw [e] at hv4
      have HV4 := Lib.hid hv4
      obtain ⟨v4a, v4c, rfl⟩ := hv4.slice
      clear hv4 hg4 hn4 e
      go_wp2
      exact ⟨⟨k + 1, by go_num, by omega, HV4.out, HX4.out⟩, by simp [intOf]; omega⟩
    · have e : k = n.toNat := by omega
      go_wp2
      go_ret
      exact ⟨_, rfl, by rw [← e]; exact HI.out, HX.out⟩
def SameRel (n : Nat) (w : World) (vi : Value) (wr : World) : Prop := ∃ (k : Nat), vi = .int .i64 (k : Int) ∧ k ≤ n ∧ Ext w wr
set_option maxRecDepth 8000 in
set_option maxHeartbeats 1000000 in
theorem rsame_yes (l : List Int) (va vb : Value) (w : World) (hl : l.length ≤ 2000000) (ha : Is w va l) (hb : Is w vb l) : Calls Try.prog 18 #[va, vb] w (Ret (.bool true) w) := by
  have HA := Lib.hid ha
  have HB := Lib.hid hb
  obtain ⟨a0, ca, rfl, _, _⟩ := ha
  obtain ⟨b0, cb, rfl, _, _⟩ := hb
  go_enter Try.func18, Try.ntmps18
  go_wp2
  go_loopw [5] (fun vi wr => SameRel l.length w vi wr) (fun i _ => (l.length - intOf i).toNat)
  case atStart => exact ⟨0, rfl, Nat.zero_le _, ext_refl w⟩
  case round =>
    obtain ⟨k, rfl, hk, hX⟩ := hrel
    have HX := Lib.hid hX
    clear hX
    by_cases hlt : k < l.length
    · obtain ⟨b1, o1, rfl, hb1, hc1⟩ := (HA.out.ext HX.out).at (by omega)
      obtain ⟨b2, o2, rfl, hb2, hc2⟩ := (HB.out.ext HX.out).at (by omega)
      have d1 := hc1 k hlt
      have d2 := hc2 k hlt
      have hlt' : (k : Int) < l.length := by omega
      have e2 : wrap64 ((k : Int) + 1) = ((k + 1 : Nat) : Int) := by unfold wrap64; omega
      replace e2 := Lib.hid e2
      clear hc1 hc2
      go_wp2
      refine wp_region_over (by kernel_rfl) (by kernel_rfl) ?_
      repeat (go_big_quiet_step (fail))
      refine wpQuiet_nil ?_
      intro _ hw'
      obtain ⟨s1, hw''⟩ := hw'
      subst hw''
      have HX2 := Lib.hid (ext_over s1 HX.out)
      generalize over wr s1 = w2 at HX2 ⊢
      go_wp2
      exact ⟨⟨k + 1, by first | exact congrArg _ e2.out | rfl, by omega, HX2.out⟩, by simp [intOf]; omega⟩
    · have hn : ¬ (k : Int) < l.length := by omega
      go_wp2
      go_ret
      exact Ret.mk HX.out
theorem mem_iN {l : List Int} {n : Int} : n ∈ l ↔ ∃ i, i < l.length ∧ iN l i = n := by
  constructor
  · intro h
    obtain ⟨i, hi, e⟩ := List.getElem_of_mem h
    exact ⟨i, hi, by simp [iN, List.getD_eq_getElem?_getD, hi, e]⟩
  · rintro ⟨i, hi, e⟩
    simp [iN, List.getD_eq_getElem?_getD, hi] at e
    rw [← e]
    exact List.getElem_mem hi
def HasRel (l : List Int) (n : Int) (w : World) (vi : Value) (wr : World) : Prop := ∃ (k : Nat), vi = .int .i64 (k : Int) ∧ k ≤ l.length ∧ (∀ i, i < k → iN l i ≠ n) ∧ wr = w
set_option maxRecDepth 8000 in
set_option maxHeartbeats 1000000 in
theorem rhas_any (l : List Int) (n : Int) (va : Value) (w : World) (r : Bool) (hr : Hid (r = true ↔ n ∈ l)) (hl : l.length ≤ 2000000) (ha : Is w va l) : Calls Try.prog 22 #[va, .int .i64 n] w (Ret (.bool r) w) := by
  have HA := Lib.hid ha
  obtain ⟨a0, ca, rfl, _, _⟩ := ha
  go_enter Try.func22, Try.ntmps22
  go_wp2
  go_loopw [5] (fun vi wr => HasRel l n w vi wr) (fun i _ => (l.length - intOf i).toNat)
  case atStart => exact ⟨0, rfl, Nat.zero_le _, fun i h => absurd h (Nat.not_lt_zero _), rfl⟩
  case round =>
    obtain ⟨k, rfl, hk, hno, rfl⟩ := hrel
    by_cases hlt : k < l.length
    · obtain ⟨b1, o1, rfl, hb1, hc1⟩ := HA.out.at (by omega)
      have d1 := hc1 k hlt
      have hlt' : (k : Int) < l.length := by omega
      clear hc1
      by_cases he : iN l k = n
      · have hrt : r = true := hr.out.2 (mem_iN.2 ⟨k, hlt, he⟩)
        rw [he] at d1
        subst hrt
        go_wp2
        go_ret
        exact Ret.mk (ext_refl _)
      · have HNO : Hid (∀ i, i < k + 1 → iN l i ≠ n) := Lib.hid fun i hi => by
          by_cases hik : i = k
          · subst hik; exact he
          · exact hno i (by omega)
        have he2 : (iN l k == n) = false := by simpa using he
        clear hno
        go_wp2
        exact ⟨⟨k + 1, by go_num, by omega, HNO.out, rfl⟩, by simp [intOf]; omega⟩
    · have hn : ¬ (k : Int) < l.length := by omega
      have hrf : r = false := by
        cases r with
        | false => rfl
        | true =>
          obtain ⟨i, hi, e⟩ := mem_iN.1 (hr.out.1 rfl)
          exact absurd e (hno i (by omega))
      subst hrf
      clear hno
      go_wp2
      go_ret
      exact Ret.mk (ext_refl _)
theorem own_of_row {w : World} {base : Nat} {x : Int} (g : Nat) (hg : g = w.heap.size) (h : base ≤ w.heap.size) : (w.alloc (.cells #[.int .i64 x] 3)).ownsRow base 3 1 (.slice (some ⟨g, 0, none⟩) 1 1) 1 [.int .i64 x] := by
  subst hg
  exact ⟨by simp, .inr ⟨w.heap.size, 1, _, rfl, h, heap_alloc_new w _, Nat.le_refl _, by unfold maxLen; omega, rfl, rfl⟩⟩
theorem infoI : ∃ i, Try.prog.info? 3 = some i ∧ i.zero = some (.int .i64 0) ∧ i.size = 1 ∧ i.bytes = 8 := by
  have h := Try.infoI64
  cases hi : Try.prog.info? 3 with
  | none => rw [hi] at h; cases h
  | some i =>
    rw [hi] at h
    simp at h
    exact ⟨i, rfl, h.1, h.2.1, h.2.2⟩
theorem newsI {w : World} {ad : Addr} {n c : Nat} {l : List Int} (h : Is w (.slice (some ad) n c) l) : ∀ j u, (l.map fun x => Value.int .i64 x)[j]? = some u → w.cell? (ad.add j) = some u := by
  intro j u hj
  have hlt : j < l.length := by
    have := (List.getElem?_eq_some_iff.1 hj).1
    simpa using this
  obtain ⟨b, off, ea, _, hc⟩ := h.at (by omega)
  cases ea
  rw [add_at', hc j hlt]
  rw [List.getElem?_map, List.getElem?_eq_getElem hlt] at hj
  simp at hj
  rw [← hj]
  simp [iN, List.getD_eq_getElem?_getD, hlt]
theorem onesI (l : List Int) : ∀ u ∈ (l.map fun x => Value.int .i64 x), u.oneCell' = true := by
  intro u hu
  obtain ⟨i, _, rfl⟩ := List.mem_map.1 hu
  rfl
set_option maxRecDepth 8000 in
set_option maxHeartbeats 1000000 in
theorem rpush_any (n : Int) (l : List Int) (v : Value) (w : World) (hl : l.length ≤ 2000000) (hI : Is w v l) : Calls Try.prog 17 #[v, .int .i64 n] w (RetI (n :: l) w) := by
  have HI := Lib.hid hI
  obtain ⟨a0, cap, rfl, _, hr⟩ := hI
  have h0 : a0 = none → l.length = 0 := by
    intro e
    cases l with
    | nil => rfl
    | cons x l => obtain ⟨b, off, ea, _⟩ := hr (by simp); rw [e] at ea; cases ea
  have H0 := Lib.hid h0
  clear hr h0
  obtain ⟨iU, hiU, hy0, hy1, hy2⟩ := infoI
  go_enter Try.func17, Try.ntmps17
  go_wp2_with (at_builtin; refine wpList_append_opt rfl (.tmp 6) (.tmp 7) 29 rfl w.heap.size 3 iU (.int .i64 0) 1 8 Try.underlying29 hiU hy0 hy1 hy2 rfl (by decide) (.slice (some ⟨w.heap.size, 0, none⟩) 1 1) 1 [.int .i64 n] rfl (own_of_row _ rfl (Nat.le_refl _)) a0 l.length cap (l.map fun x => Value.int .i64 x) rfl H0.out (by simp) (fun ad ea => newsI (by rw [← ea]; exact HI.out.ext (ext_alloc _ (ext_refl w)))) (onesI l) (by unfold maxLen; omega) (by omega) (by simp) ?_; intro v2 w2 hv2 hg2; have HV := Lib.hid hv2; have HX2 := Lib.hid (ext_own (w := w) (ext_alloc _ (ext_refl w)) (own_of_row (x := n) _ rfl (Nat.le_refl _)) hg2); clear hv2 hg2)
  go_ret
  refine ⟨_, rfl, ir_of_own (l := n :: l) ?_, HX2.out⟩
  have := HV.out
  rw [Nat.add_comm] at this
  simpa using this
theorem rpop_nil (v : Value) (w : World) (hI : Is w v []) : Calls Try.prog 15 #[v] w (Ret (.tuple #[.int .i64 (-1), .slice none 0 0]) w) := by
  obtain ⟨a0, cap, rfl, _, hr⟩ := hI
  go_enter Try.func15, Try.ntmps15
  go_wp2
  go_ret2
  exact Ret.mk (ext_refl w)
def RetPopR (n : Int) (l : List Int) (w : World) (e : Ending) (w' : World) : Prop := ∃ v, e = .returned (.tuple #[.int .i64 n, v]) ∧ IR w.heap.size v l w' ∧ Ext w w'
theorem is_tail {w : World} {b off cap : Nat} {n : Int} {l : List Int} (h : Is w (.slice (some ⟨b, off, none⟩) (l.length + 1) cap) (n :: l)) (off' : Nat) (ho : off' = off + 1 ∨ (cap = 1 ∧ off' = off)) : Is w (.slice (some ⟨b, off', none⟩) l.length (cap - 1)) l := by
  obtain ⟨a0, c, e, hc, hr⟩ := h
  simp at e
  obtain ⟨rfl, rfl⟩ := e
  simp only [List.length_cons] at hc hr
  obtain ⟨b', o', e', hlt, hcell⟩ := hr (by omega)
  cases e'
  refine ⟨_, _, rfl, by omega, fun hp => ⟨b, off', rfl, hlt, fun i hi => ?_⟩⟩
  rcases ho with rfl | ⟨rfl, rfl⟩
  · rw [show off + 1 + i = off + (i + 1) by omega, hcell (i + 1) (by omega)]
    simp [iN]
  · omega
set_option maxRecDepth 8000 in
set_option maxHeartbeats 2000000 in
theorem rpop_cons (n : Int) (l : List Int) (v : Value) (w : World) (hl : l.length ≤ 2000000) (hI : Is w v (n :: l)) : Calls Try.prog 15 #[v] w (RetPopR n l w) := by
  obtain ⟨a0, cap, rfl, hcp, hr⟩ := id hI
  obtain ⟨b, off, rfl, hb, hcell⟩ := hr (by simp)
  have c0 : w.cell? ⟨b, off, none⟩ = some (.int .i64 n) := hcell 0 (by simp)
  simp only [List.length_cons] at hcp hI
  have HI := Lib.hid hI
  clear hr hcell hI
  obtain ⟨iU, hiU, hy0, hy1, hy2⟩ := infoI
  simp only [List.length_cons]
  obtain ⟨off', HT, hofs⟩ : ∃ off', Hid (Is w (.slice (some ⟨b, off', none⟩) l.length (cap - 1)) l) ∧ ((cap = 1 ∧ off' = off) ∨ (¬ cap = 1 ∧ off' = off + 1)) := by
    by_cases h : cap = 1
    · exact ⟨off, Lib.hid (is_tail HI.out off (.inr ⟨h, rfl⟩)), .inl ⟨h, rfl⟩⟩
    · exact ⟨off + 1, Lib.hid (is_tail HI.out (off + 1) (.inl rfl)), .inr ⟨h, rfl⟩⟩
  have hn0 : ((l.length : Int) + 1 == 0) = false := by simp; omega
  rcases hofs with ⟨rfl, rfl⟩ | ⟨hc1, rfl⟩
  · obtain rfl : l = [] := List.eq_nil_of_length_eq_zero (by omega)
    simp only [List.length_nil] at HT ⊢
    clear hcp hn0
    go_enter Try.func15, Try.ntmps15
    go_wp2
    refine wp_region_mix (fun w' => ∃ s, w' = over w s) [(0, [0, 1, 2, 4, 5]), (1, [3]), (1, [6]), (0, [7, 8])] (by kernel_rfl) (by kernel_rfl) (over_of (ext_drew (ext_refl w))) ?_
    simp only [pieces, pickL, List.map_cons, List.map_nil, List.getD_cons_zero, List.getD_cons_succ]
    refine mix_reads ?_
    repeat (go_big_quiet_step (fail))
    refine wpQuiet_nil (mix_acts ?_)
    go_wp2
    have HX1 := Lib.hid (ext_drew (ext_alloc (.cells #[] 3) (ext_refl w)))
    have HO1 := Lib.hid (own_ext' (own_none w w.heap.size 3 1 w.heap.size rfl (Nat.le_refl _)) (ext_drew (ext_refl _)))
    generalize (w.alloc (.cells #[] 3)).drew = W1 at HX1 HO1 ⊢
    refine mixQ_mk (over_of HX1.out) (mix_acts ?_)
    go_wp2_with (at_builtin; refine wpList_append_opt rfl (.tmp 10) (.tmp 12) 29 rfl w.heap.size 3 iU (.int .i64 0) 1 8 Try.underlying29 hiU hy0 hy1 hy2 rfl (by decide) (.slice (some ⟨w.heap.size, 0, none⟩) 0 0) 0 [] rfl HO1.out _ 0 _ (([] : List Int).map fun x => Value.int .i64 x) rfl (fun h => by cases h) (by simp) (fun ad ea => newsI (by rw [← ea]; exact HT.out.ext HX1.out)) (onesI []) (by unfold maxLen; omega) (by omega) HX1.out.size ?_; intro v2 w2 hv2 hg2; refine Hid.out ?_)
    refine Lib.hid ?_
    have HX2 := Lib.hid (ext_own (w := w) HX1.out HO1.out hg2)
    have hir : IR w.heap.size v2 [] w2 := ir_of_own (by simpa using hv2)
    have HIR := Lib.hid hir
    obtain ⟨v2a, v2c, rfl⟩ := hir.slice
    clear hv2 hg2 hir
    go_wp2
    refine mixQ_mk (over_of HX2.out) (mix_reads ?_)
    repeat (go_big_quiet_step (fail))
    refine wpQuiet_nil (mix_end ?_)
    go_wp2
    go_ret2
    exact ⟨_, rfl, HIR.out, HX2.out⟩
  · have hdummy := hc1
    clear hdummy
    go_enter Try.func15, Try.ntmps15
    go_wp2
    refine wp_region_mix (fun w' => ∃ s, w' = over w s) [(0, [0, 1, 2, 4, 5]), (1, [3]), (1, [6]), (0, [7, 8])] (by kernel_rfl) (by kernel_rfl) (over_of (ext_drew (ext_refl w))) ?_
    simp only [pieces, pickL, List.map_cons, List.map_nil, List.getD_cons_zero, List.getD_cons_succ]
    refine mix_reads ?_
    repeat (go_big_quiet_step (fail))
    refine wpQuiet_nil (mix_acts ?_)
    go_wp2
    have HX1 := Lib.hid (ext_drew (ext_alloc (.cells #[] 3) (ext_refl w)))
    have HO1 := Lib.hid (own_ext' (own_none w w.heap.size 3 1 w.heap.size rfl (Nat.le_refl _)) (ext_drew (ext_refl _)))
    generalize (w.alloc (.cells #[] 3)).drew = W1 at HX1 HO1 ⊢
    refine mixQ_mk (over_of HX1.out) (mix_acts ?_)
    go_wp2_with (at_builtin; refine wpList_append_opt rfl (.tmp 10) (.tmp 12) 29 rfl w.heap.size 3 iU (.int .i64 0) 1 8 Try.underlying29 hiU hy0 hy1 hy2 rfl (by decide) (.slice (some ⟨w.heap.size, 0, none⟩) 0 0) 0 [] rfl HO1.out _ l.length _ (l.map fun x => Value.int .i64 x) rfl (fun h => by cases h) (by simp) (fun ad ea => newsI (by rw [← ea]; exact HT.out.ext HX1.out)) (onesI l) (by unfold maxLen; omega) (by omega) HX1.out.size ?_; intro v2 w2 hv2 hg2; refine Hid.out ?_)
    refine Lib.hid ?_
    have HX2 := Lib.hid (ext_own (w := w) HX1.out HO1.out hg2)
    have hir : IR w.heap.size v2 l w2 := ir_of_own (by simpa using hv2)
    have HIR := Lib.hid hir
    obtain ⟨v2a, v2c, rfl⟩ := hir.slice
    clear hv2 hg2 hir
    go_wp2
    refine mixQ_mk (over_of HX2.out) (mix_reads ?_)
    repeat (go_big_quiet_step (fail))
    refine wpQuiet_nil (mix_end ?_)
    go_wp2
    go_ret2
    exact ⟨_, rfl, HIR.out, HX2.out⟩
end Go.Proofs.Ytlpjmnbipbgkdaa

/-
  A Pop that stands still, in its box, while others go on; and how it ends. Conditions: those of each theorem.
-/
namespace Go.Proofs.Ytlpjmnbipbgkdaa
open Go Go.RowKit

/-- The program of the state s stands in the box BQ. -/
structure QIn (p : Pl) (lo hi BQ N : Nat) (s : PS) (F : Nat → Prop) (vq : Value) (wr : World) : Prop where
  pt : PT kI (trT p N s) F vq wr
  bn : Bnd F wr
  of : ∀ j, F j → (j < lo ∨ hi ≤ j) ∧ j ≠ BQ
  box : ∃ (y : Int) (a : Acc) (fn : Value), vq = .agg #[.int .i64 y, .int .i64 a.op, .int .i64 a.at_, .int .u64 (U a.a), .int .u64 (U a.b), fn, .pointer none] ∧ (fn = .nilFunc ∨ ∃ g caps, fn = .func (.func g) #[] caps) ∧ wr.heap[BQ]? = some (.cells #[.int .i64 y, .int .i64 a.op, .int .i64 a.at_, .int .u64 (U a.a), .int .u64 (U a.b), fn, .pointer none] 39)
section
variable {p : Pl} {lo hi BQ N : Nat} {s : PS} {F : Nat → Prop} {vq : Value} {wr wr' : World}
theorem QIn.keep (h : QIn p lo hi BQ N s F vq wr) (hs : wr.heap.size ≤ wr'.heap.size) (hk : ∀ j, (F j ∨ j = BQ) → wr'.heap[j]? = wr.heap[j]?) : QIn p lo hi BQ N s F vq wr' := by
  obtain ⟨y, a, fn, h1, h2, h3⟩ := h.box
  exact ⟨h.pt.agr fun j hj => hk j (.inl hj), h.bn.ext hs, h.of, y, a, fn, h1, h2, (hk BQ (.inr rfl)).trans h3⟩
theorem QIn.lt (h : QIn p lo hi BQ N s F vq wr) : ∀ j, (F j ∨ j = BQ) → j < wr.heap.size := fun j hj => by
  rcases hj with hj | rfl
  · exact h.bn j hj
  · obtain ⟨_, _, _, _, _, h3⟩ := h.box
    exact heap_lt h3
theorem QIn.ext (h : QIn p lo hi BQ N s F vq wr) (hx : Ext wr wr') : QIn p lo hi BQ N s F vq wr' := h.keep hx.size fun j hj => hx.block j (h.lt j hj)
theorem QIn.fr (h : QIn p lo hi BQ N s F vq wr) (hx : Fr lo hi wr wr') (hb : BQ < lo ∨ hi ≤ BQ) : QIn p lo hi BQ N s F vq wr' := h.keep hx.size fun j hj => hx.block j (h.lt j hj) (by
  rcases hj with hj | rfl
  · exact (h.of j hj).1
  · exact hb)
/-- Behind an append to a row from base on, all its blocks being older. -/
theorem QIn.grown (h : QIn p lo hi BQ N s F vq wr) {base : Nat} {v : Value} {l : List Int} (hI : IR base v l wr) (hg : wr.grownBy wr' v.ownBlock) (hb : ∀ j, (F j ∨ j = BQ) → j < base) : QIn p lo hi BQ N s F vq wr' :=
  h.keep hg.size fun j hj => grown_at hI hg (h.lt j hj) (hb j hj)
end
/-- A step of it. -/
theorem step_PS {p : Pl} {lo hi BQ N N' : Nat} {L : Lay} {M M' : MS} {s s' : PS} {F : Nat → Prop} {vq : Value} {wr : World} (h : QIn p lo hi BQ N s F vq wr) (hM : MemIn lo hi L M wr) (hS : StepT p M N s M' N' s') :
    Calls Try.prog 25 #[vq, .pointer (some ⟨L.bm, 0, none⟩), .agg #[.int .i64 0, .int .u64 (U 1#64)]] wr (RetS kI lo hi L M' (trT p N' s') F wr) := by
  obtain ⟨a, f, h1, h2, rfl, h4⟩ := hS
  have hp := h.pt
  rw [h1] at hp
  rw [← h4]
  exact stepA_I a f F vq 0 1#64 wr hp h.bn (fun j hj => (h.of j hj).1) hM h2 _ (Lib.hid rfl)
/-- How it ends, when it is run on. -/
theorem stall_run {p : Pl} (hp : p.ok) {M : MS} {l : List Int} {T : Nat} (hT : T < 8796093022207) (hL : FL p M l T) {s : PS} (hs : s = .pl ∨ (∃ h, s = .pn h) ∨ ∃ h nx, s = .ps h nx) (ht : Th p M T s) :
    ∃ M' r k l' T', runT 0 1#64 9 (trT p 3 s) M = some (M', k, .done r) ∧ FL p M' l' T' ∧ ((l = [] ∧ r = -1 ∧ l' = []) ∨ l = r :: l') := by
  have pl_run : ∀ (M : MS) (l : List Int) (N k : Nat), FL p M l T → ∃ M' r j l' T', runT 0 1#64 (k + 3) (trT p (N + 1) .pl) M = some (M', j, .done r) ∧ FL p M' l' T' ∧ ((l = [] ∧ r = -1 ∧ l' = []) ∨ l = r :: l') := by
    intro M l N k hL
    cases l with
    | nil =>
      obtain ⟨M', h1, h2, _⟩ := pop_none hp hL (N + 1) (k + 2)
      exact ⟨M', -1, 1, [], T, h1, h2, .inl ⟨rfl, rfl, rfl⟩⟩
    | cons n l =>
      obtain ⟨M', h1, h2, _⟩ := pop_some hp hL hT N k
      exact ⟨M', n, 3, l, T + 1, h1, h2, .inr rfl⟩
  have ps_run : ∀ (M : MS) (h nx : BitVec 64) (k : Nat), FL p M l T → Th p M T (.ps h nx) → ∃ M' r j l' T', runT 0 1#64 (k + 4) (trT p 3 (.ps h nx)) M = some (M', j, .done r) ∧ FL p M' l' T' ∧ ((l = [] ∧ r = -1 ∧ l' = []) ∨ l = r :: l') := by
    intro M h nx k hL ht
    obtain ⟨M3, l3, T3, N3, s3, c1, c2⟩ := go_ps (N := 2) hp hL hT ht
    rcases c2 with ⟨m, d1, rfl, rfl, _⟩ | ⟨rfl, rfl, rfl, _⟩
    · exact ⟨M3, m, 1, l3, T + 1, by rw [runT_step c1.st]; rfl, c1.fl, .inr d1⟩
    · have hN := c1.N0
      obtain ⟨N4, rfl⟩ : ∃ N4, N3 = N4 + 1 := ⟨N3 - 1, by omega⟩
      obtain ⟨M', r, j, l', T', e1, e2, e3⟩ := pl_run M3 l3 N4 k c1.fl
      exact ⟨M', r, j + 1, l', T', by rw [runT_step c1.st, e1]; rfl, e2, e3⟩
  rcases hs with rfl | ⟨h, rfl⟩ | ⟨h, nx, rfl⟩
  · exact pl_run M l 2 6 hL
  · obtain ⟨M2, nx, b1, b2⟩ := go_pn (N := 3) hp hL ht
    obtain ⟨M', r, j, l', T', e1, e2, e3⟩ := ps_run M2 h nx 4 b1.fl b1.th
    exact ⟨M', r, j + 1, l', T', by rw [runT_step b1.st, e1]; rfl, e2, e3⟩
  · exact ps_run M h nx 5 hL ht
end Go.Proofs.Ytlpjmnbipbgkdaa

/-
  The law FreeTags, walked. Conditions: those of each theorem.
-/
namespace Go.Proofs.Ytlpjmnbipbgkdaa
open Go Go.RowKit

set_option maxRecDepth 8000 in
set_option maxHeartbeats 1000000 in
theorem tags_nofew (p : Pl) (a : Option Addr) (n c : Nat) (hf : ¬ p.few) (w : World) : Calls Try.prog 5 #[plV p, .slice a n c] w (Ret (.bool true) w) := by
  have HFW := Lib.hid hf
  clear hf
  go_enter Try.func5, Try.ntmps5
  go_wp2_with (first
    | (go_at_call 7; refine (fwake_any _).mono ?_; rintro e w' hr; obtain ⟨rfl, s, rfl⟩ := hr.over; clear hr)
    | (go_at_call 8; refine (few_any p _ false (hid_no HFW.out)).mono ?_; rintro e w' hr; obtain ⟨rfl, s, rfl⟩ := hr.over; clear hr))
  go_ret
  exact Ret.mk (by repeat (first | exact ext_refl _ | apply ext_over | apply ext_alloc))
set_option maxRecDepth 8000 in
set_option maxHeartbeats 1000000 in
theorem tags_noform (p : Pl) (a : Option Addr) (n c : Nat) (hf : p.few) (hp : ¬ p.ok) (w : World) : Calls Try.prog 5 #[plV p, .slice a n c] w (Ret (.bool true) w) := by
  have HFW := Lib.hid hf
  clear hf
  have HP := Lib.hid hp
  clear hp
  go_enter Try.func5, Try.ntmps5
  go_wp2_with (first
    | (go_at_call 7; refine (fwake_any _).mono ?_; rintro e w' hr; obtain ⟨rfl, s, rfl⟩ := hr.over; clear hr)
    | (go_at_call 8; refine (few_any p _ true (hid_yes HFW.out)).mono ?_; rintro e w' hr; obtain ⟨rfl, s, rfl⟩ := hr.over; clear hr)
    | (go_at_call 9; refine (rformed_any p _ false (hid_no HP.out)).mono ?_; rintro e w' hr; obtain ⟨rfl, s, rfl⟩ := hr.over; clear hr))
  go_ret
  exact Ret.mk (by repeat (first | exact ext_refl _ | apply ext_over | apply ext_alloc))
set_option maxRecDepth 8000 in
set_option maxHeartbeats 1000000 in
theorem tags_long (p : Pl) (a : Option Addr) (n c : Nat) (hf : p.few) (hp : p.ok) (hn : 60 < n) (w : World) : Calls Try.prog 5 #[plV p, .slice a n c] w (Ret (.bool true) w) := by
  have HFW := Lib.hid hf
  clear hf
  have HP := Lib.hid hp
  clear hp
  have q1 : decide (60 < (n : Int)) = true := by simp; omega
  go_enter Try.func5, Try.ntmps5
  go_wp2_with (first
    | (go_at_call 7; refine (fwake_any _).mono ?_; rintro e w' hr; obtain ⟨rfl, s, rfl⟩ := hr.over; clear hr)
    | (go_at_call 8; refine (few_any p _ true (hid_yes HFW.out)).mono ?_; rintro e w' hr; obtain ⟨rfl, s, rfl⟩ := hr.over; clear hr)
    | (go_at_call 9; refine (rformed_any p _ true (hid_yes HP.out)).mono ?_; rintro e w' hr; obtain ⟨rfl, s, rfl⟩ := hr.over; clear hr))
  go_ret
  exact Ret.mk (by repeat (first | exact ext_refl _ | apply ext_over | apply ext_alloc))
theorem w64 (n : Nat) (h : n ≤ 60) : wrap64 ((n : Int) + 1) = ((n + 1 : Nat) : Int) := by
  unfold wrap64
  omega
theorem t43 (n : Nat) (h : n ≤ 60) : n < 8796093022207 := by omega
def TagRel (p : Pl) (lo hi : Nat) (L : Lay) (base : Nat) (w0 : World) (ps : List Bool) (vd vm vi : Value) (wr : World) : Prop :=
  ∃ (i : Nat) (M : MS) (l : List Int) (T : Nat) (mine : List Int), vd = .int .i64 (T : Int) ∧ vi = .int .i64 (i : Int) ∧ T ≤ i ∧ i ≤ ps.length ∧ FIn p lo hi L base w0 M l T mine vm wr
set_option maxRecDepth 8000 in
set_option maxHeartbeats 4000000 in
theorem tags_yes (p : Pl) (hf : p.few) (hp : p.ok) (ps : List Bool) (v : Value) (w : World) (hB : Bs w v ps) (hn : ps.length ≤ 60) : Calls Try.prog 5 #[plV p, v] w (Ret (.bool true) w) := by
  have HFW := Lib.hid hf
  have HP := Lib.hid hp
  have HB := Lib.hid hB
  have hn1 : p.n ≤ 1048576 := hp.1.2
  have hn0 : 1 ≤ p.n := hp.1.1
  obtain ⟨a0, cap, rfl, _, _⟩ := hB
  have q1 : decide (60 < (ps.length : Int)) = false := by simp; omega
  clear hf hp
  go_enter Try.func5, Try.ntmps5
  go_wp2_with (first
    | (go_at_call 7; refine (fwake_any _).mono ?_; rintro e w' hr; obtain ⟨rfl, s, rfl⟩ := hr.over; clear hr)
    | (go_at_call 8; refine (few_any p _ true (hid_yes HFW.out)).mono ?_; rintro e w' hr; obtain ⟨rfl, s, rfl⟩ := hr.over; clear hr)
    | (go_at_call 9; refine (rformed_any p _ true (hid_yes HP.out)).mono ?_; rintro e w' hr; obtain ⟨rfl, s, rfl⟩ := hr.over; clear hr)
    | (go_at_call 10; refine Hid.out ?_))
  refine Lib.hid ?_
  refine (laid_any p HP.out _).mono ?_
  rintro e w1 ⟨lo, hi, L, M, rfl, hM, hF, hx, hlo⟩
  have hx1 : Ext (w.alloc (.cells #[.int .i64 p.n, .int .i64 p.t, .int .i64 p.r, .int .i64 p.d, .int .i64 p.b, .int .i64 p.g] 23)) w1 := by
    refine ext_trans ?_ hx
    repeat (first | exact ext_refl _ | apply ext_over)
  have hlo1 : w.heap.size < lo := by
    refine Nat.lt_of_lt_of_le ?_ hlo
    refine Nat.lt_of_lt_of_le (m := (w.alloc (.cells #[.int .i64 p.n, .int .i64 p.t, .int .i64 p.r, .int .i64 p.d, .int .i64 p.b, .int .i64 p.g] 23)).heap.size) (by simp) ?_
    first | exact over_size _ _ | exact Nat.le_trans (over_size _ _) (over_size _ _) | exact Nat.le_trans (over_size _ _) (Nat.le_trans (over_size _ _) (over_size _ _))
  have hb0 : PBox w.heap.size p w1 := (hx1.block _ (by simp)).trans (heap_at w _ _ rfl)
  have HI := Lib.hid (FIn.start hM hF (ext_trans (ext_alloc _ (ext_refl w)) hx1) hb0)
  have hhb := hM.top
  have hwb : w.heap.size < w1.heap.size := heap_lt hb0
  clear hM hF hx hx1 hlo hb0
  obtain ⟨base, hbase⟩ : ∃ b, Hid (w1.heap.size = b) := ⟨_, Lib.hid rfl⟩
  rw [hbase.out] at HI hhb hwb
  go_wp2
  go_loopw [6, 7, 8] (fun vd vm vi wr => TagRel p lo hi L base w ps vd vm vi wr) (fun _ _ i _ => (ps.length - intOf i).toNat)
  case atStart => exact ⟨0, M, _, 0, [], rfl, rfl, Nat.le_refl _, Nat.zero_le _, HI.out⟩
  case round =>
    obtain ⟨i, M, l, T, mine, rfl, rfl, hTi, hi60, hR⟩ := hrel
    have HR := Lib.hid hR
    obtain ⟨va, vc, rfl⟩ := hR.ir.slice
    have ⟨c0, c1, c2, c3, c4, c5, lt⟩ := hR.pb.plc
    have hml : mine.length ≤ 2000000 := by have := hR.ln; omega
    have hi61 : i ≤ 60 := Nat.le_trans hi60 hn
    have hT61 : T ≤ 60 := Nat.le_trans hTi hi61
    have e1 := Lib.hid (w64 T hT61)
    have e2 := Lib.hid (w64 i hi61)
    have hT := Lib.hid (t43 T hT61)
    clear hR HI
    by_cases hlt : i < ps.length
    · obtain ⟨bb, off, rfl, hbl, hcell⟩ := (HB.out.ext HR.out.ex).at hlt
      have hlt' : (i : Int) < ps.length := by omega
      cases hbi : bN ps i with
      | true =>
        rw [hbi] at hcell
        go_wp2_with (go_at_call 13; refine (pop_PT p 3 _).mono ?_; rintro e w2 ⟨v1, F1, rfl, hx2, hp1, hbn1, hsub1⟩; refine Hid.out ?_)
        refine Lib.hid ?_
        have hof1 : ∀ j, F1 j → j < lo ∨ hi ≤ j := fun j hj => (hsub1 j hj).elim (fun h => h.elim) fun h => .inr (by have := HR.out.bs; omega)
        have HR2 := Lib.hid (HR.out.ext hx2)
        have HP1 := Lib.hid hp1
        have HBN1 := Lib.hid hbn1
        have HOF1 := Lib.hid hof1
        clear hx2 hp1 hbn1 hsub1 hof1
        go_wp2_with (go_at_call 14; refine (cap_int HR2.out.m 0 1#64 (by omega) (by rw [HR2.out.fl.mg.n]; omega) (Lib.hid HR2.out.fl.mg.e)).mono ?_; rintro e w3 ⟨rfl, hx3⟩; refine Hid.out ?_)
        refine Lib.hid ?_
        have HR3 := Lib.hid (HR2.out.ext hx3)
        replace HP1 := Lib.hid (HP1.out.agr (Agr.of_ext hx3 HBN1.out))
        replace HBN1 := Lib.hid (HBN1.out.ext hx3.size)
        clear hx3 HR2
        go_wp2_with (go_at_call 12; refine (runPop p HP.out l T hT.out F1 v1 w3 HR3.out.fl HP1.out HBN1.out HOF1.out HR3.out.m).mono ?_; rintro e w4 ⟨M1, r, k, l1, T1, rfl, hm4, hf4, hl4, hs4, hk4⟩; refine Hid.out ?_)
        refine Lib.hid ?_
        have HS4 := Lib.hid hs4
        clear hs4 HP1 HBN1 HOF1 c0 c1 c2 c3 c4 c5 lt hcell hbi
        rcases HS4.out with ⟨rfl, rfl, rfl, rfl, rfl⟩ | ⟨rfl, rfl, rfl⟩
        · have HN := Lib.hid (HR3.out.none hm4 hf4 hl4 hlo1 hhb)
          clear hm4 hf4 hl4 hk4 HR3 HR
          go_wp2
          exact ⟨⟨i + 1, M1, _, T1, _, rfl, by first | exact congrArg _ e2.out | rfl, by omega, by omega, HN.out⟩, by simp [intOf]; omega⟩
        · have hr0 : 0 ≤ r := (HR3.out.fl.rg r (by simp)).1
          have hr1 := (HR3.out.fl.rg r (by simp)).2
          have HF4 := Lib.hid (And.intro hm4 (And.intro hf4 hl4))
          have hbs4 := Nat.le_trans HR3.out.bs hf4.size
          have HIR4 := Lib.hid (HR3.out.ir.fr hf4 hhb)
          clear hm4 hf4 hl4 hk4 HR
          go_wp2_with (at_builtin; refine wpList_irow rfl (.tmp 57) (.tmp 59) rfl base _ mine rfl (HIR4.out.ext (ext_alloc _ (ext_refl w4))) ⟨w4.heap.size, 0, none⟩ r rfl (newy _ _ _ _ rfl) hml (by simp; omega) ?_; intro v5 w5 hv5 hg5 hn5; refine Hid.out ?_)
          refine Lib.hid ?_
          obtain ⟨hm4, hf4, hl4⟩ := HF4.out
          have HN := Lib.hid (HR3.out.pop hm4 hf4 hl4 hlo1 hhb hwb hv5 _ (ext_alloc (.cells #[.int .i64 r] 3) (ext_refl w4)) hg5)
          obtain ⟨v5a, v5c, rfl⟩ := hv5.slice
          clear hm4 hf4 hl4 HF4 HIR4 HR3 hv5 hg5 hn5 hbs4
          go_wp2
          exact ⟨⟨i + 1, M1, l1, T + 1, mine ++ [r], by first | exact congrArg _ e1.out | rfl, by first | exact congrArg _ e2.out | rfl, by omega, by omega, by simpa using HN.out⟩, by simp [intOf]; omega⟩
      | false =>
        rw [hbi] at hcell
        cases mine with
        | nil =>
          go_wp2
          exact ⟨⟨i + 1, M, l, T, [], rfl, by first | exact congrArg _ e2.out | rfl, by omega, by omega, HR.out⟩, by simp [intOf]; omega⟩
        | cons n rest =>
          obtain ⟨g, off2, cap2, ev, hgl, hgb, hgc, hgd⟩ := HR.out.ir.some (by simp)
          simp only [Value.slice.injEq, true_and] at ev
          obtain ⟨rfl, rfl⟩ := ev
          have hg0 : wr.cell? ⟨g, off2, none⟩ = some (.int .i64 n) := hgd 0 (by simp)
          clear hgd
          go_wp2
          refine wp_region_mix (fun w' => ∃ s, w' = over wr s) [(0, [0, 1, 2, 3, 5, 6]), (1, [4]), (1, [7]), (2, [8])] (by kernel_rfl) (by kernel_rfl) (over_of (ext_drew (ext_refl wr))) ?_
          simp only [pieces, pickL, List.map_cons, List.map_nil, List.getD_cons_zero, List.getD_cons_succ]
          refine mix_reads ?_
          repeat (go_big_quiet_step (fail))
          refine wpQuiet_nil (mix_acts ?_)
          have hnR : InR p n := HR.out.rg n (by simp)
          have hnL : n ∉ l := HR.out.notin (by simp)
          have HNR := Lib.hid (And.intro hnR hnL)
          clear hnR hnL
          have HX0 := Lib.hid (ext_drew (ext_refl wr))
          go_wp2_with (go_at_call 16; refine (push_PT p n 3 _).mono ?_; rintro e w2 ⟨v1, F1, rfl, hx2, hp1, hbn1, hsub1⟩; refine Hid.out ?_)
          refine Lib.hid ?_
          have hof1 : ∀ j, F1 j → j < lo ∨ hi ≤ j := fun j hj => (hsub1 j hj).elim (fun h => h.elim) fun h => .inr (Nat.le_trans hhb (Nat.le_trans HR.out.bs h))
          have HX2 := Lib.hid (ext_trans HX0.out hx2)
          have HR2 := Lib.hid (HR.out.ext HX2.out)
          have HP1 := Lib.hid hp1
          have HBN1 := Lib.hid hbn1
          have HOF1 := Lib.hid hof1
          clear hx2 hp1 hbn1 hsub1 hof1
          go_wp2
          refine mixQ_mk (over_of HX2.out) (mix_acts ?_)
          go_wp2_with (go_at_call 14; refine (cap_int HR2.out.m 0 1#64 (by omega) (by rw [HR2.out.fl.mg.n]; omega) (Lib.hid HR2.out.fl.mg.e)).mono ?_; rintro e w3 ⟨rfl, hx3⟩; refine Hid.out ?_)
          refine Lib.hid ?_
          have HX3 := Lib.hid (ext_trans HX2.out hx3)
          have HR3 := Lib.hid (HR2.out.ext hx3)
          replace HP1 := Lib.hid (HP1.out.agr (Agr.of_ext hx3 HBN1.out))
          replace HBN1 := Lib.hid (HBN1.out.ext hx3.size)
          clear hx3 HR2
          go_wp2
          refine mixQ_mk (over_of HX3.out) (mix_late ?_)
          go_wp2_with (go_at_call 12; refine (runPush p HP.out n HNR.out.1 l HNR.out.2 T hT.out F1 v1 w3 HR3.out.fl HP1.out HBN1.out HOF1.out HR3.out.m).mono ?_; rintro e w4 ⟨M1, rfl, hm4, hf4, hl4, hk4⟩; refine Hid.out ?_)
          refine Lib.hid ?_
          have HF4 := Lib.hid (And.intro hm4 (And.intro hf4 (And.intro hl4 hk4)))
          have HIR4 := Lib.hid (HR3.out.ir.fr hf4 hhb)
          clear hm4 hf4 hl4 hk4 HP1 HBN1 HOF1 HX0 HX2 HX3
          have hgc1 : rest.length + 1 ≤ vc := by simpa using hgc
          go_wp2
          refine lateQ_mk (fun _ => True) trivial (mix_end ?_)
          clear c0 c1 c2 c3 c4 c5 lt hcell hbi hg0 HR
          by_cases hv1 : vc = 1
          · subst hv1
            have hr0 : rest.length = 0 := by omega
            obtain ⟨hm4, hf4, hl4, hk4⟩ := HF4.out
            have HN := Lib.hid (HR3.out.pushFirst hm4 hf4 hl4 hlo1 hhb (HIR4.out.tail off2 (.inr ⟨rfl, rfl⟩)))
            clear hm4 hf4 hl4 hk4 HF4 HIR4 HR3
            rw [hr0] at HN ⊢
            go_wp2
            exact ⟨⟨i + 1, M1, _, T + 1, rest, by first | exact congrArg _ e1.out | rfl, by first | exact congrArg _ e2.out | rfl, by omega, by omega, HN.out⟩, by simp [intOf]; omega⟩
          · have hv2 : vc - 1 ≠ 0 := by omega
            have hv3 : ¬ vc = 1 := hv1
            obtain ⟨hm4, hf4, hl4, hk4⟩ := HF4.out
            have HN := Lib.hid (HR3.out.pushFirst hm4 hf4 hl4 hlo1 hhb (HIR4.out.tail (off2 + 1) (.inl rfl)))
            clear hm4 hf4 hl4 hk4 HF4 HIR4 HR3
            go_wp2
            exact ⟨⟨i + 1, M1, _, T + 1, rest, by first | exact congrArg _ e1.out | rfl, by first | exact congrArg _ e2.out | rfl, by omega, by omega, HN.out⟩, by simp [intOf]; omega⟩
    · have hie : ps.length = i := by omega
      have hnlt : ¬ (i : Int) < ps.length := by omega
      have hle := nodup_le (by omega) HR.out.fl.nd HR.out.fl.rg
      have hsp := size_pos HP.out
      have hsz : M.sz 0 = p.sizeF.toNat := HR.out.fl.mg.s
      have hr0 : (0 : Int) < M.n := by rw [HR.out.fl.mg.n]; omega
      have hr1 : (0 : Int) < M.sz (0 : Int).toNat := by show (0 : Int) < M.sz 0; rw [hsz]; omega
      have hz := Lib.hid (head_zero HP.out)
      have htg : Hid (U (M.wd 0 0) / 2 ^ 21 = T) := Lib.hid (by rw [div_shr, tag_shr]; exact HR.out.fl.tg)
      obtain ⟨hw, hhw⟩ : ∃ x, Hid (U (M.wd (0 : Int).toNat (0 : Int).toNat) = x) := ⟨_, Lib.hid rfl⟩
      clear hsz
      go_wp2_with (first
        | (go_at_call 24; refine (head_is p _ 0 hz).mono ?_; rintro e w2 ⟨rfl, hx⟩; have HR2 := Lib.hid (HR.out.ext hx); clear hx)
        | (go_at_call 23; refine (peek_int HR2.out.m 0 0 hw (by omega) hr0 (by omega) hr1 hhw).mono ?_; rintro e w3 ⟨rfl, hx⟩; have HR3 := Lib.hid (HR2.out.ext hx); have ⟨c0, c1, c2, c3, c4, c5, lt⟩ := HR3.out.pb.plc; clear hx))
      have hwd : hw / 2 ^ 21 = (T : Int) := by rw [← hhw.out]; exact htg.out
      have hwe : hw / 2097152 = (T : Int) := hwd
      have hwt : IntKind.u64.wrap (T : Int) = T := wrap64u _ (by omega) (by omega)
      have hws : wrap64 (p.n - (mine.length : Int)) = l.length := by
        have := HR3.out.ln
        unfold wrap64
        omega
      refine wp_region_mix (fun w' => ∃ s, w' = over w3 s) [(0, [0, 1, 2, 3, 4, 5, 6, 7, 10, 11, 12, 13, 14]), (1, [8]), (0, [9, 15, 16, 17])] (by kernel_rfl) (by kernel_rfl) (over_of (ext_drew (ext_refl w3))) ?_
      simp only [pieces, pickL, List.map_cons, List.map_nil, List.getD_cons_zero, List.getD_cons_succ]
      refine mix_reads ?_
      repeat (go_big_quiet_step (fail))
      refine wpQuiet_nil (mix_acts ?_)
      go_wp2_with (go_at_call 19; refine (flist_any p HP.out l T HR3.out.fl HR3.out.m.drew).mono ?_; rintro e w5 ⟨v5, rfl, hv5, hx5⟩; refine Hid.out ?_)
      refine Lib.hid ?_
      obtain ⟨v5a, v5c, rfl⟩ := hv5.slice
      have HX5 := Lib.hid (ext_trans (ext_drew (ext_refl w3)) hx5)
      clear hv5 hx5
      go_wp2
      refine mixQ_mk (over_of HX5.out) (mix_reads ?_)
      repeat (go_big_quiet_step (fail))
      refine wpQuiet_nil (mix_end ?_)
      go_wp2
      go_ret
      exact Ret.bool (by have := HR3.out.ln; simp; omega) (ext_trans HR3.out.ex HX5.out)
end Go.Proofs.Ytlpjmnbipbgkdaa
