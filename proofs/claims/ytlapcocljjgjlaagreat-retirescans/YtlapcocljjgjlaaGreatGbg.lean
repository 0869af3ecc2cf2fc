/-
  What the calls of the reference's Fresh, Pop, Push, Same and Has come to. Conditions: those of each theorem.
-/
import Derived.Test.YtlapcocljjgjlaaGreatGbf
namespace Go.Proofs.YtlapcocljjgjlaaGreat
open Go Go.RowKit

def RetI (l : List Int) (w : World) (e : Ending) (w' : World) : Prop := ∃ v, e = .returned v ∧ IR w.heap.size v l w' ∧ Ext w w'
def FrRel (n : Int) (w : World) (vo vi : Value) (wr : World) : Prop := ∃ (k : Nat), vi = .int .i64 (k : Int) ∧ (k : Int) ≤ n ∧ IR w.heap.size vo (rfr k 0) wr ∧ Ext w wr
theorem rfr_snoc : ∀ (k : Nat) (j : Int), rfr k j ++ [j + k] = rfr (k + 1) j
  | 0, j => by simp [rfr]
  | k + 1, j => by
    have := rfr_snoc k (j + 1)
    simp only [rfr, List.cons_append] at this ⊢
    rw [show j + ((k + 1 : Nat) : Int) = j + 1 + k by omega, this]
def SameRel (n : Nat) (w : World) (vi : Value) (wr : World) : Prop := ∃ (k : Nat), vi = .int .i64 (k : Int) ∧ k ≤ n ∧ Ext w wr
set_option maxRecDepth 8000 in
set_option maxHeartbeats 1000000 in
theorem rsame_yes (l : List Int) (va vb : Value) (w : World) (hl : l.length ≤ 2000000) (ha : Is w va l) (hb : Is w vb l) : Calls Tryz.prog 20 #[va, vb] w (Ret (.bool true) w) := by
  have HA := Lib.hid ha
  have HB := Lib.hid hb
  obtain ⟨a0, ca, rfl, _, _⟩ := ha
  obtain ⟨b0, cb, rfl, _, _⟩ := hb
  go_enter Tryz.func20, Tryz.ntmps20
  go_wp2
  go_loopw [5] (fun vi wr => SameRel l.length w vi wr) (fun i _ => (l.length - intOf i).toNat)
  case atStart => exact ⟨0, rfl, Nat.zero_le _, ext_refl w⟩
  case round =>
    obtain ⟨k, rfl, hk, hX⟩ := hrel
    have HX := Lib.hid hX
    clear hX
    by_cases hlt : k < l.length
    · obtain ⟨b1, o1, rfl, hb1, hc1⟩ := (HA.out.ext HX.out).at (by omega)
      obtain ⟨b2, o2, rfl, hb2, hc2⟩ := (HB.out.ext HX.out).at (by omega)
      have d1 := hc1 k hlt
      have d2 := hc2 k hlt
      have hlt' : (k : Int) < l.length := by omega
      have e2 : wrap64 ((k : Int) + 1) = ((k + 1 : Nat) : Int) := by unfold wrap64; omega
      replace e2 := Lib.hid e2
      clear hc1 hc2
      go_wp2
      refine wp_region_over (by kernel_rfl) (by kernel_rfl) ?_
      repeat (go_big_quiet_step (fail))
      refine wpQuiet_nil ?_
      intro _ hw'
      obtain ⟨s1, hw''⟩ := hw'
      subst hw''
      have HX2 := Lib.hid (ext_over s1 HX.out)
      generalize over wr s1 = w2 at HX2 ⊢
      go_wp2
      exact ⟨⟨k + 1, by first | exact congrArg _ e2.out | rfl, by omega, HX2.out⟩, by simp [intOf]; omega⟩
    · have hn : ¬ (k : Int) < l.length := by omega
      go_wp2
      go_ret
      exact Ret.mk HX.out
theorem mem_iN {l : List Int} {n : Int} : n ∈ l ↔ ∃ i, i < l.length ∧ iN l i = n := by
  constructor
  · intro h
    obtain ⟨i, hi, e⟩ := List.getElem_of_mem h
    exact ⟨i, hi, by simp [iN, List.getD_eq_getElem?_getD, hi, e]⟩
  · rintro ⟨i, hi, e⟩
    simp [iN, List.getD_eq_getElem?_getD, hi] at e
    rw [← e]
    exact List.getElem_mem hi
def HasRel (l : List Int) (n : Int) (w : World) (vi : Value) (wr : World) : Prop := ∃ (k : Nat), vi = .int .i64 (k : Int) ∧ k ≤ l.length ∧ (∀ i, i < k → iN l i ≠ n) ∧ wr = w
set_option maxRecDepth 8000 in
set_option maxHeartbeats 1000000 in
theorem rhas_any (l : List Int) (n : Int) (va : Value) (w : World) (r : Bool) (hr : Hid (r = true ↔ n ∈ l)) (hl : l.length ≤ 2000000) (ha : Is w va l) : Calls Tryz.prog 11 #[va, .int .i64 n] w (Ret (.bool r) w) := by
  have HA := Lib.hid ha
  obtain ⟨a0, ca, rfl, _, _⟩ := ha
  go_enter Tryz.func11, Tryz.ntmps11
  go_wp2
  go_loopw [5] (fun vi wr => HasRel l n w vi wr) (fun i _ => (l.length - intOf i).toNat)
  case atStart => exact ⟨0, rfl, Nat.zero_le _, fun i h => absurd h (Nat.not_lt_zero _), rfl⟩
  case round =>
    obtain ⟨k, rfl, hk, hno, rfl⟩ := hrel
    by_cases hlt : k < l.length
    · obtain ⟨b1, o1, rfl, hb1, hc1⟩ := HA.out.at (by omega)
      have d1 := hc1 k hlt
      have hlt' : (k : Int) < l.length := by omega
      clear hc1
      by_cases he : iN l k = n
      · have hrt : r = true := hr.out.2 (mem_iN.2 ⟨k, hlt, he⟩)
        rw [he] at d1
        subst hrt
        go_wp2
        go_ret
        exact Ret.mk (ext_refl _)
      · have HNO : Hid (∀ i, i < k + 1 → iN l i ≠ n) := Lib.hid fun i hi => by
          by_cases hik : i = k
          · subst hik; exact he
          · exact hno i (by omega)
        have he2 : (iN l k == n) = false := by simpa using he
        clear hno
        go_wp2
        exact ⟨⟨k + 1, by go_num, by omega, HNO.out, rfl⟩, by simp [intOf]; omega⟩
    · have hn : ¬ (k : Int) < l.length := by omega
      have hrf : r = false := by
        cases r with
        | false => rfl
        | true =>
          obtain ⟨i, hi, e⟩ := mem_iN.1 (hr.out.1 rfl)
          exact absurd e (hno i (by omega))
      subst hrf
      clear hno
      go_wp2
      go_ret
      exact Ret.mk (ext_refl _)
theorem own_of_row {w : World} {base : Nat} {x : Int} (g : Nat) (hg : g = w.heap.size) (h : base ≤ w.heap.size) : (w.alloc (.cells #[.int .i64 x] 3)).ownsRow base 3 1 (.slice (some ⟨g, 0, none⟩) 1 1) 1 [.int .i64 x] := by
  subst hg
  exact ⟨by simp, .inr ⟨w.heap.size, 1, _, rfl, h, heap_alloc_new w _, Nat.le_refl _, by unfold maxLen; omega, rfl, rfl⟩⟩
theorem infoI : ∃ i, Tryz.prog.info? 3 = some i ∧ i.zero = some (.int .i64 0) ∧ i.size = 1 ∧ i.bytes = 8 := by
  have h := Tryz.infoI64
  cases hi : Tryz.prog.info? 3 with
  | none => rw [hi] at h; cases h
  | some i =>
    rw [hi] at h
    simp at h
    exact ⟨i, rfl, h.1, h.2.1, h.2.2⟩
theorem newsI {w : World} {ad : Addr} {n c : Nat} {l : List Int} (h : Is w (.slice (some ad) n c) l) : ∀ j u, (l.map fun x => Value.int .i64 x)[j]? = some u → w.cell? (ad.add j) = some u := by
  intro j u hj
  have hlt : j < l.length := by
    have := (List.getElem?_eq_some_iff.1 hj).1
    simpa using this
  obtain ⟨b, off, ea, _, hc⟩ := h.at (by omega)
  cases ea
  rw [add_at', hc j hlt]
  rw [List.getElem?_map, List.getElem?_eq_getElem hlt] at hj
  simp at hj
  rw [← hj]
  simp [iN, List.getD_eq_getElem?_getD, hlt]
theorem onesI (l : List Int) : ∀ u ∈ (l.map fun x => Value.int .i64 x), u.oneCell' = true := by
  intro u hu
  obtain ⟨i, _, rfl⟩ := List.mem_map.1 hu
  rfl
set_option maxRecDepth 8000 in
set_option maxHeartbeats 1000000 in
theorem rpush_any (n : Int) (l : List Int) (v : Value) (w : World) (hl : l.length ≤ 2000000) (hI : Is w v l) : Calls Tryz.prog 19 #[v, .int .i64 n] w (RetI (n :: l) w) := by
  have HI := Lib.hid hI
  obtain ⟨a0, cap, rfl, _, hr⟩ := hI
  have h0 : a0 = none → l.length = 0 := by
    intro e
    cases l with
    | nil => rfl
    | cons x l => obtain ⟨b, off, ea, _⟩ := hr (by simp); rw [e] at ea; cases ea
  have H0 := Lib.hid h0
  clear hr h0
  obtain ⟨iU, hiU, hy0, hy1, hy2⟩ := infoI
  go_enter Tryz.func19, Tryz.ntmps19
  go_wp2_with (at_builtin; refine wpList_append_opt rfl (.tmp 6) (.tmp 7) 24 rfl w.heap.size 3 iU (.int .i64 0) 1 8 Tryz.underlying24 hiU hy0 hy1 hy2 rfl (by decide) (.slice (some ⟨w.heap.size, 0, none⟩) 1 1) 1 [.int .i64 n] rfl (own_of_row _ rfl (Nat.le_refl _)) a0 l.length cap (l.map fun x => Value.int .i64 x) rfl H0.out (by simp) (fun ad ea => newsI (by rw [← ea]; exact HI.out.ext (ext_alloc _ (ext_refl w)))) (onesI l) (by unfold maxLen; omega) (by omega) (by simp) ?_; intro v2 w2 hv2 hg2; have HV := Lib.hid hv2; have HX2 := Lib.hid (ext_own (w := w) (ext_alloc _ (ext_refl w)) (own_of_row (x := n) _ rfl (Nat.le_refl _)) hg2); clear hv2 hg2)
  go_ret
  refine ⟨_, rfl, ir_of_own (l := n :: l) ?_, HX2.out⟩
  have := HV.out
  rw [Nat.add_comm] at this
  simpa using this
def RetPopR (n : Int) (l : List Int) (w : World) (e : Ending) (w' : World) : Prop := ∃ v, e = .returned (.tuple #[.int .i64 n, v]) ∧ IR w.heap.size v l w' ∧ Ext w w'
theorem is_tail {w : World} {b off cap : Nat} {n : Int} {l : List Int} (h : Is w (.slice (some ⟨b, off, none⟩) (l.length + 1) cap) (n :: l)) (off' : Nat) (ho : off' = off + 1 ∨ (cap = 1 ∧ off' = off)) : Is w (.slice (some ⟨b, off', none⟩) l.length (cap - 1)) l := by
  obtain ⟨a0, c, e, hc, hr⟩ := h
  simp at e
  obtain ⟨rfl, rfl⟩ := e
  simp only [List.length_cons] at hc hr
  obtain ⟨b', o', e', hlt, hcell⟩ := hr (by omega)
  cases e'
  refine ⟨_, _, rfl, by omega, fun hp => ⟨b, off', rfl, hlt, fun i hi => ?_⟩⟩
  rcases ho with rfl | ⟨rfl, rfl⟩
  · rw [show off + 1 + i = off + (i + 1) by omega, hcell (i + 1) (by omega)]
    simp [iN]
  · omega
end Go.Proofs.YtlapcocljjgjlaaGreat

/-
  What the reference's Scan comes to. Conditions: those of each theorem.
-/
namespace Go.Proofs.YtlapcocljjgjlaaGreat
open Go Go.RowKit

/-- Is a node told to be held? -/
def hldR (hl : List Bool) (n : Int) : Bool := decide (0 ≤ n ∧ n < (hl.length : Int)) && bN hl n.toNat
theorem iN_set {l : List Int} {i j : Nat} (hj : j < l.length) (x : Int) : iN (l.set i x) j = if j = i then x else iN l j := by
  rw [iN_eq (by simpa using hj), List.getElem_set]
  by_cases e : i = j
  · rw [if_pos e, if_pos e.symm]
  · rw [if_neg e, if_neg (Ne.symm e)]
    exact (iN_eq hj).symm
theorem IR.set {base g off n cap : Nat} {l : List Int} {w : World} (h : IR base (.slice (Option.some ⟨g, off, none⟩) n cap) l w) {i : Nat} (hi : i < l.length) (x : Int) : IR base (.slice (Option.some ⟨g, off, none⟩) n cap) (l.set i x) (w.setCell ⟨g, off + i, none⟩ (.int .i64 x)) := by
  rcases h with ⟨h, _⟩ | ⟨g', off', cap', cur, e, hb, hh, hc, hs, hr⟩
  · cases h
  · simp at e
    obtain ⟨⟨rfl, rfl⟩, rfl, rfl⟩ := e
    refine .inr ⟨g, off, cap, _, by simp, hb, set_same (o := off + i) (.int .i64 x) hh, by simpa using hc, by simpa using hs, fun j hj => ?_⟩
    have hj' : j < l.length := by simpa using hj
    rw [iN_set hj']
    by_cases e : j = i
    · subst e
      rw [if_pos rfl, Array.getElem?_setIfInBounds_self_of_lt (by omega)]
    · rw [if_neg e, Array.getElem?_setIfInBounds_ne (by omega)]
      exact hr j hj'
theorem IR.take {base g off n cap : Nat} {l : List Int} {w : World} (h : IR base (.slice (Option.some ⟨g, off, none⟩) n cap) l w) {k : Nat} (hk : k ≤ l.length) : IR base (.slice (Option.some ⟨g, off, none⟩) k cap) (l.take k) w := by
  rcases h with ⟨h, _⟩ | ⟨g', off', cap', cur, e, hb, hh, hc, hs, hr⟩
  · cases h
  · simp at e
    obtain ⟨⟨rfl, rfl⟩, rfl, rfl⟩ := e
    have hlen : (l.take k).length = k := by simp; omega
    refine .inr ⟨g, off, cap, cur, by rw [hlen], hb, hh, by omega, hs, fun j hj => ?_⟩
    rw [hlen] at hj
    rw [hr j (by omega), iN_eq (by omega), iN_eq (by omega), List.getElem_take]
/-- In its midst. -/
structure ScW (w : World) (lf out : List Int) (va vb : Value) (wr : World) : Prop where
  ia : IR w.heap.size va lf wr
  ib : IR w.heap.size vb out wr
  ne : ∀ g, va.ownBlock = some g → vb.ownBlock ≠ some g
  ex : Ext w wr
theorem ScW.ext {w : World} {lf out : List Int} {va vb : Value} {wr wr' : World} (h : ScW w lf out va vb wr) (hx : Ext wr wr') : ScW w lf out va vb wr' := ⟨h.ia.ext hx, h.ib.ext hx, h.ne, ext_trans h.ex hx⟩
theorem ScW.grow {w : World} {lf out ys : List Int} {va vb vb' : Value} {wr wr' : World} (h : ScW w lf out va vb wr) (hv : IR w.heap.size vb' ys wr') (hg : wr.grownBy wr' vb.ownBlock) (hn : vb'.ownBlock = vb.ownBlock ∨ ∃ g, vb'.ownBlock = some g ∧ wr.heap.size ≤ g) : ScW w lf ys va vb' wr' := by
  refine ⟨h.ia.keep fun g hga => ?_, hv, fun g hga => ?_, grown_ext h.ex h.ib hg (Nat.le_refl _)⟩
  · obtain ⟨_, cur, hh⟩ := h.ia.own hga
    exact hg.block g (hp_lt hh) fun e => h.ne g hga e.symm
  · rcases hn with e | ⟨g', e, hle⟩
    · rw [e]
      exact h.ne g hga
    · obtain ⟨_, cur, hh⟩ := h.ia.own hga
      have := hp_lt hh
      rw [e]
      intro e2
      cases e2
      omega
theorem ScW.rmv {w : World} {lf out : List Int} {g off n cap : Nat} {vb : Value} {wr : World} (h : ScW w lf out (.slice (some ⟨g, off, none⟩) n cap) vb wr) {k : Nat} (hk : k < lf.length) :
    ScW w (rmv lf k) out (.slice (some ⟨g, off, none⟩) (lf.length - 1) cap) vb (wr.setCell ⟨g, off + k, none⟩ (.int .i64 (iN lf (lf.length - 1)))) := by
  have hgb := (h.ia.own (g := g) rfl).1
  refine ⟨(h.ia.set hk (iN lf (lf.length - 1))).take (k := lf.length - 1) (by simp), h.ib.keep fun g' hg' => ?_, fun g' hg' => h.ne g' hg', ext_set _ hgb h.ex⟩
  refine set_other _ fun e => ?_
  subst e
  exact h.ne _ rfl hg'
def RetSc (lf out : List Int) (w : World) (e : Ending) (w' : World) : Prop := ∃ va vb, e = .returned (.tuple #[va, vb]) ∧ IR w.heap.size va lf w' ∧ IR w.heap.size vb out w' ∧ Ext w w'
def ScRel (hl : List Bool) (l : List Int) (w : World) (va vb vi : Value) (wr : World) : Prop :=
  ∃ (k : Nat) (lf out : List Int), vi = .int .i64 ((k : Int) - 1) ∧ k ≤ lf.length ∧ scanP (hldR hl) l.length l [] = scanP (hldR hl) k lf out ∧ lf.length + out.length = l.length ∧ ScW w lf out va vb wr
set_option maxRecDepth 8000 in
set_option maxHeartbeats 2000000 in
theorem rscan_any (l : List Int) (hl : List Bool) (v vh : Value) (w : World) (hll : l.length ≤ 2000) (hI : Is w v l) (hB : Bs w vh hl) :
    Calls Tryz.prog 18 #[v, vh] w (RetSc (scanP (hldR hl) l.length l []).1 (scanP (hldR hl) l.length l []).2 w) := by
  have HI := Lib.hid hI
  have HB := Lib.hid hB
  obtain ⟨a0, cap, rfl, _, hr⟩ := hI
  obtain ⟨b0, bcap, rfl, _, _⟩ := hB
  have h0 : a0 = none → l.length = 0 := by
    intro e
    cases l with
    | nil => rfl
    | cons x l => obtain ⟨b, off, ea, _⟩ := hr (by simp); rw [e] at ea; cases ea
  have H0 := Lib.hid h0
  clear hr h0
  obtain ⟨R, hR⟩ : ∃ R, Hid (scanP (hldR hl) l.length l [] = R) := ⟨_, Lib.hid rfl⟩
  rw [hR.out]
  have ew : Hid (wrap64 ((l.length : Int) - 1) = (l.length : Int) - 1) := Lib.hid (by unfold wrap64; omega)
  obtain ⟨iU, hiU, hy0, hy1, hy2⟩ := infoI
  go_enter Tryz.func18, Tryz.ntmps18
  replace ew := ew.out
  go_wp2_with (at_builtin; refine wpList_append_opt rfl (.tmp 10) (.tmp 11) 24 rfl w.heap.size 3 iU (.int .i64 0) 1 8 Tryz.underlying24 hiU hy0 hy1 hy2 rfl (by decide) (.slice (some ⟨w.heap.size, 0, none⟩) 0 0) 0 [] rfl (own_none _ _ _ _ _ rfl (Nat.le_refl _)) a0 l.length cap (l.map fun x => Value.int .i64 x) rfl H0.out (by simp) (fun ad ea => newsI (by rw [← ea]; exact HI.out.ext (ext_alloc _ (ext_refl w)))) (onesI l) (by unfold maxLen; omega) (by omega) (by simp) ?_; intro v2 w2 hv2 hg2; have HV := Lib.hid hv2; have HX2 := Lib.hid (ext_own (w := w) (ext_alloc _ (ext_refl w)) (own_none _ _ _ 1 _ rfl (Nat.le_refl _)) hg2); clear hv2 hg2)
  have hv := HV.out
  rw [Nat.zero_add, List.nil_append] at hv
  have HS : Hid (ScW w l [] v2 (.slice none 0 0) w2) := Lib.hid ⟨ir_of_own hv, IR.nil _ _, fun g _ => by simp [Value.ownBlock], HX2.out⟩
  clear hv HV ew
  go_loopw [6, 7, 8] (fun va vb vi wr => ScRel hl l w va vb vi wr) (fun _ _ vi _ => (intOf vi + 1).toNat)
  case atStart => exact ⟨l.length, l, [], rfl, Nat.le_refl _, rfl, by simp, HS.out⟩
  case round =>
    clear HS HX2
    obtain ⟨k, lf, out, rfl, hk, hsc, hlen, hS⟩ := hrel
    have HR := Lib.hid hS
    have HSC := Lib.hid hsc
    clear hsc
    cases k with
    | zero =>
      have hneg : ¬ (0 : Int) ≤ ((0 : Nat) : Int) - 1 := by omega
      have hneg2 : decide ((0 : Int) ≤ ((0 : Nat) : Int) - 1) = false := decide_eq_false hneg
      obtain ⟨aa, ac, rfl⟩ := hS.ia.slice
      obtain ⟨ba, bc, rfl⟩ := hS.ib.slice
      clear hS
      go_wp2
      go_ret2
      have e : R = (lf, out) := by rw [← hR.out, HSC.out]; rfl
      rw [e]
      exact ⟨_, _, rfl, HR.out.ia, HR.out.ib, HR.out.ex⟩
    | succ k =>
      obtain ⟨g, off, ca, rfl, hgl, hgb, hca, hcells⟩ := hS.ia.some (by omega)
      have c1 := hcells k (by omega)
      have c2 := hcells (lf.length - 1) (by omega)
      obtain ⟨n, hn⟩ : ∃ n, n = iN lf k := ⟨_, rfl⟩
      obtain ⟨z, hz⟩ : ∃ z, z = iN lf (lf.length - 1) := ⟨_, rfl⟩
      rw [← hn] at c1
      rw [← hz] at c2
      clear hcells hS
      rw [show (((k + 1 : Nat) : Int) - 1) = (k : Int) by omega]
      have hpos : decide ((0 : Int) ≤ (k : Int)) = true := decide_eq_true (by omega)
      have hkl : k < lf.length := by omega
      have ek : Hid (wrap64 ((k : Int) - 1) = (k : Int) - 1) := Lib.hid (by unfold wrap64; omega)
      by_cases hh : hldR hl n = true
      · have hE : scanP (hldR hl) l.length l [] = scanP (hldR hl) k lf out := by rw [HSC.out, scanP, ← hn, if_pos hh]
        have HE := Lib.hid hE
        unfold hldR at hh
        simp only [Bool.and_eq_true, decide_eq_true_eq] at hh
        obtain ⟨⟨hn0, hn1⟩, hb⟩ := hh
        obtain ⟨bb, bo, rfl, hbl, hcb⟩ := (HB.out.ext HR.out.ex).at (i := n.toNat) (by omega)
        rw [hb] at hcb
        have dn0 : decide (0 ≤ n) = true := decide_eq_true hn0
        have dn1 : decide (n < (hl.length : Int)) = true := decide_eq_true hn1
        clear hE hn hz HSC
        obtain ⟨m, rfl⟩ := Int.eq_ofNat_of_zero_le hn0
        replace hcb : wr.cell? ⟨bb, bo + m, none⟩ = some (.bool true) := hcb
        replace ek := ek.out
        go_wp2
        exact ⟨⟨k, lf, out, by first | rfl | (simp; omega), by omega, HE.out, hlen, HR.out⟩, by simp [intOf] <;> omega⟩
      · have hE : scanP (hldR hl) l.length l [] = scanP (hldR hl) k (rmv lf k) (out ++ [n]) := by rw [HSC.out, scanP, ← hn, if_neg hh]
        have HE := Lib.hid hE
        clear hE hn HSC
        have hcase : n < 0 ∨ (0 ≤ n ∧ (hl.length : Int) ≤ n) ∨ (0 ≤ n ∧ n < (hl.length : Int) ∧ bN hl n.toNat = false) := by
          by_cases h1 : 0 ≤ n
          · by_cases h2 : n < (hl.length : Int)
            · refine .inr (.inr ⟨h1, h2, ?_⟩)
              unfold hldR at hh
              simpa [h1, h2] using hh
            · exact .inr (.inl ⟨h1, by omega⟩)
          · exact .inl (by omega)
        clear hh
        rcases hcase with h1 | ⟨h1, h2⟩ | ⟨h1, h2, hb⟩
        · have dn0 : decide (0 ≤ n) = false := decide_eq_false (by omega)
          go_wp2_with (at_builtin; refine wpList_irow rfl (.tmp 38) (.tmp 40) rfl w.heap.size _ out rfl (HR.out.ib.ext (ext_alloc _ (ext_refl wr))) ⟨wr.heap.size, 0, none⟩ n rfl (newy _ _ _ _ rfl) (by omega) (by have := HR.out.ex.size; simp; omega) ?_; intro v7 w7 hv7 hg7 hn7; refine Hid.out ?_)
          refine Lib.hid ?_
          have HR5 := Lib.hid ((HR.out.ext (ext_alloc (.cells #[.int .i64 n] 3) (ext_refl wr))).grow hv7 hg7 hn7)
          clear hv7 hg7 hn7 c1 c2
          obtain ⟨g', off', ca', e', hgl', hgb', hca', hcells'⟩ := HR5.out.ia.some (by omega)
          simp only [Value.slice.injEq, Option.some.injEq, Addr.mk.injEq] at e'
          obtain ⟨⟨rfl, rfl, _⟩, _, rfl⟩ := e'
          have c2 := hcells' (lf.length - 1) (by omega)
          rw [← hz] at c2
          have c1 := hcells' k hkl
          have fz : ∀ o, w7.frozen? ⟨g, o, none⟩ = false := fun o => by
            obtain ⟨_, cur, hh⟩ := HR5.out.ia.own (g := g) rfl
            exact free_at hh
          have HN : Hid (ScW w (rmv lf k) (out ++ [n]) (.slice (some ⟨g, off, none⟩) (lf.length - 1) ca) v7 (w7.setCell ⟨g, off + k, none⟩ (.int .i64 z))) := Lib.hid (by rw [hz]; exact HR5.out.rmv hkl)
          have hlz : Hid (wrap64 ((lf.length : Int) - 1) = ((lf.length - 1 : Nat) : Int)) := Lib.hid (by unfold wrap64; omega)
          clear hcells' hz hgb' hca' HR HR5
          have hl1 : (lf.length : Int) - 1 = ((lf.length - 1 : Nat) : Int) := by omega
          have hlt1 : lf.length - 1 < lf.length := by omega
          generalize hLL : lf.length - 1 = LL at c2 HN hlz hl1 hlt1
          replace hlz := hlz.out
          replace ek := ek.out
          go_wp2
          have hrl : (rmv lf k).length = lf.length - 1 := rmv_len lf k
          exact ⟨⟨k, _, _, by first | rfl | (simp; omega), by rw [hrl]; omega, HE.out, by rw [hrl]; simp <;> omega, HN.out⟩, by simp [intOf] <;> omega⟩
        · have dn0 : decide (0 ≤ n) = true := decide_eq_true h1
          have dn1 : decide (n < (hl.length : Int)) = false := decide_eq_false (by omega)
          go_wp2_with (at_builtin; refine wpList_irow rfl (.tmp 38) (.tmp 40) rfl w.heap.size _ out rfl (HR.out.ib.ext (ext_alloc _ (ext_refl wr))) ⟨wr.heap.size, 0, none⟩ n rfl (newy _ _ _ _ rfl) (by omega) (by have := HR.out.ex.size; simp; omega) ?_; intro v7 w7 hv7 hg7 hn7; refine Hid.out ?_)
          refine Lib.hid ?_
          have HR5 := Lib.hid ((HR.out.ext (ext_alloc (.cells #[.int .i64 n] 3) (ext_refl wr))).grow hv7 hg7 hn7)
          clear hv7 hg7 hn7 c1 c2
          obtain ⟨g', off', ca', e', hgl', hgb', hca', hcells'⟩ := HR5.out.ia.some (by omega)
          simp only [Value.slice.injEq, Option.some.injEq, Addr.mk.injEq] at e'
          obtain ⟨⟨rfl, rfl, _⟩, _, rfl⟩ := e'
          have c2 := hcells' (lf.length - 1) (by omega)
          rw [← hz] at c2
          have c1 := hcells' k hkl
          have fz : ∀ o, w7.frozen? ⟨g, o, none⟩ = false := fun o => by
            obtain ⟨_, cur, hh⟩ := HR5.out.ia.own (g := g) rfl
            exact free_at hh
          have HN : Hid (ScW w (rmv lf k) (out ++ [n]) (.slice (some ⟨g, off, none⟩) (lf.length - 1) ca) v7 (w7.setCell ⟨g, off + k, none⟩ (.int .i64 z))) := Lib.hid (by rw [hz]; exact HR5.out.rmv hkl)
          have hlz : Hid (wrap64 ((lf.length : Int) - 1) = ((lf.length - 1 : Nat) : Int)) := Lib.hid (by unfold wrap64; omega)
          clear hcells' hz hgb' hca' HR HR5
          have hl1 : (lf.length : Int) - 1 = ((lf.length - 1 : Nat) : Int) := by omega
          have hlt1 : lf.length - 1 < lf.length := by omega
          generalize hLL : lf.length - 1 = LL at c2 HN hlz hl1 hlt1
          replace hlz := hlz.out
          replace ek := ek.out
          go_wp2
          have hrl : (rmv lf k).length = lf.length - 1 := rmv_len lf k
          exact ⟨⟨k, _, _, by first | rfl | (simp; omega), by rw [hrl]; omega, HE.out, by rw [hrl]; simp <;> omega, HN.out⟩, by simp [intOf] <;> omega⟩
        · have dn0 : decide (0 ≤ n) = true := decide_eq_true h1
          have dn1 : decide (n < (hl.length : Int)) = true := decide_eq_true h2
          obtain ⟨bb, bo, rfl, hbl, hcb⟩ := (HB.out.ext HR.out.ex).at (i := n.toNat) (by omega)
          rw [hb] at hcb
          obtain ⟨m, rfl⟩ := Int.eq_ofNat_of_zero_le h1
          replace hcb : wr.cell? ⟨bb, bo + m, none⟩ = some (.bool false) := hcb
          go_wp2_with (at_builtin; refine wpList_irow rfl (.tmp 38) (.tmp 40) rfl w.heap.size _ out rfl (HR.out.ib.ext (ext_alloc _ (ext_refl wr))) ⟨wr.heap.size, 0, none⟩ (m : Int) rfl (newy _ _ _ _ rfl) (by omega) (by have := HR.out.ex.size; simp; omega) ?_; intro v7 w7 hv7 hg7 hn7; refine Hid.out ?_)
          refine Lib.hid ?_
          have HR5 := Lib.hid ((HR.out.ext (ext_alloc (.cells #[.int .i64 (m : Int)] 3) (ext_refl wr))).grow hv7 hg7 hn7)
          clear hv7 hg7 hn7 c1 c2
          obtain ⟨g', off', ca', e', hgl', hgb', hca', hcells'⟩ := HR5.out.ia.some (by omega)
          simp only [Value.slice.injEq, Option.some.injEq, Addr.mk.injEq] at e'
          obtain ⟨⟨rfl, rfl, _⟩, _, rfl⟩ := e'
          have c2 := hcells' (lf.length - 1) (by omega)
          rw [← hz] at c2
          have c1 := hcells' k hkl
          have fz : ∀ o, w7.frozen? ⟨g, o, none⟩ = false := fun o => by
            obtain ⟨_, cur, hh⟩ := HR5.out.ia.own (g := g) rfl
            exact free_at hh
          have HN : Hid (ScW w (rmv lf k) (out ++ [(m : Int)]) (.slice (some ⟨g, off, none⟩) (lf.length - 1) ca) v7 (w7.setCell ⟨g, off + k, none⟩ (.int .i64 z))) := Lib.hid (by rw [hz]; exact HR5.out.rmv hkl)
          have hlz : Hid (wrap64 ((lf.length : Int) - 1) = ((lf.length - 1 : Nat) : Int)) := Lib.hid (by unfold wrap64; omega)
          clear hcells' hz hgb' hca' HR HR5
          have hl1 : (lf.length : Int) - 1 = ((lf.length - 1 : Nat) : Int) := by omega
          have hlt1 : lf.length - 1 < lf.length := by omega
          generalize hLL : lf.length - 1 = LL at c2 HN hlz hl1 hlt1
          replace hlz := hlz.out
          replace ek := ek.out
          go_wp2
          have hrl : (rmv lf k).length = lf.length - 1 := rmv_len lf k
          exact ⟨⟨k, _, _, by first | rfl | (simp; omega), by rw [hrl]; omega, HE.out, by rw [hrl]; simp <;> omega, HN.out⟩, by simp [intOf] <;> omega⟩
end Go.Proofs.YtlapcocljjgjlaaGreat

/-
  More retired nodes than hazards, in plain numbers; what hazards that are set leave to a thread's retired nodes. Conditions: a formed plan.
-/
namespace Go.Proofs.YtlapcocljjgjlaaGreat
open Go Go.RowKit

theorem heldR_some {x : Nat → BitVec 64} {m : BitVec 64} : ∀ (k i : Nat), (heldR x m k i).1 = true → ∃ j, i ≤ j ∧ j < i + k ∧ x j = m
  | 0, _, h => by simp [heldR] at h
  | k + 1, i, h => by
    rw [heldR] at h
    split at h
    · rename_i hx
      exact ⟨i, Nat.le_refl _, by omega, hx⟩
    · obtain ⟨j, h1, h2, h3⟩ := heldR_some k (i + 1) h
      exact ⟨j, by omega, by omega, h3⟩
/-- If all of so many nodes are held, they are no more than there are hazards. -/
theorem held_few {p : Pl} (hp : p.ok) {hd : Nat → BitVec 64} {l : List Int} (hn : l.Nodup) (hr : ∀ n ∈ l, InR p n) (hh : ∀ n ∈ l, hldB p hd n = true) : (l.length : Int) ≤ 3 * p.t := by
  have ht := hp.2.1
  have h := nodup_len l ((List.range (3 * p.t).toNat).map fun j => nodeI (hd j)) hn fun n hnl => by
    obtain ⟨j, _, h2, h3⟩ := heldR_some _ _ (hh n hnl)
    refine List.mem_map.2 ⟨j, List.mem_range.2 (by omega), ?_⟩
    have hr' := hr n hnl
    rw [h3, node_name hr'.1 (by have := hr'.lt hp; omega)]
  simp at h
  omega
theorem scan_more {p : Pl} (hp : p.ok) {hd : Nat → BitVec 64} {l : List Int} (hn : l.Nodup) (hr : ∀ n ∈ l, InR p n) (hm : 3 * p.t < (l.length : Int)) : (scanP (hldB p hd) l.length l []).1.length + 1 ≤ l.length := by
  have h1 := scanP_len (hldB p hd) l.length l [] (Nat.le_refl _)
  simp only [List.length_nil, Nat.add_zero] at h1
  by_cases h0 : (scanP (hldB p hd) l.length l []).2 = []
  · exfalso
    have h2 := scanP_perm (hldB p hd) l.length l [] (Nat.le_refl _)
    rw [h0, List.append_nil, List.append_nil] at h2
    have h3 := scanP_held (hldB p hd) l.length l [] (Nat.le_refl _) fun i a b => by omega
    have h4 := held_few hp (hd := hd) hn hr fun n hnl => by
      have hm := h2.symm.subset hnl
      obtain ⟨i, hi, rfl⟩ := List.mem_iff_getElem.1 hm
      rw [← iN_eq hi]
      exact h3 i hi
    omega
  · have : 0 < (scanP (hldB p hd) l.length l []).2.length := List.length_pos_iff.2 h0
    omega
/-- Hazards that are set. -/
theorem HzTo.rts {p : Pl} (hp : p.ok) {M M' : MS} {f : Nat → BitVec 64} (h : HzTo p M M' f) {t : Int} (h0 : 0 ≤ t) (h1 : t < p.t) {l : List Int} (hL : RTs p M t l) : RTs p M' t l :=
  hL.of hp h0 h1 fun j a _ => h.ot j fun i hi => by
    obtain ⟨q1, q2, q3, q4, q5, q6⟩ := thr_pl hp h0 h1
    have := hz_pl hp hi
    omega
theorem HzTo.fls {p : Pl} (hp : p.ok) {M M' : MS} {f : Nat → BitVec 64} (h : HzTo p M M' f) {l : List Int} {T : Nat} (hF : FL p M l T) : FL p M' l T :=
  hF.of h.mg (h.ot 0 fun i hi => by have := hz_pl hp hi; omega) fun n hn => h.ot _ fun i hi => by
    have := hz_ne hp hi
    exact fun e => this.2 n hn e.symm
/-- A Put leaves the free list. -/
theorem put_fl {p : Pl} (hp : p.ok) {M M' : MS} (hG : Mg p M') {t : Int} (h0 : 0 ≤ t) (h1 : t < p.t) (h : ∀ j : Nat, ((j : Int) < p.cnt t ∨ p.cnt t + 1 + p.r ≤ j) → M'.wd 0 j = M.wd 0 j) {l : List Int} {T : Nat} (hF : FL p M l T) : FL p M' l T := by
  obtain ⟨q1, q2, q3, q4, q5, q6⟩ := thr_pl hp h0 h1
  refine hF.of hG (h 0 (.inl (by omega))) fun n hn => h _ (.inr ?_)
  obtain ⟨_, f2, _, _, _⟩ := node_pl hp hn
  have := hn.1
  unfold nxN
  omega
theorem rfr_last : ∀ (k : Nat) (j : Int), rfr (k + 1) j = rfr k j ++ [j + k]
  | 0, j => by simp [rfr]
  | k + 1, j => by
    rw [rfr, rfr_last k (j + 1), rfr]
    simp
    omega
/-- A Put where there is room. -/
theorem put_more {p : Pl} (hp : p.ok) {M : MS} (hG : Mg p M) {t : Int} (h0 : 0 ≤ t) (h1 : t < p.t) {l fl : List Int} {T : Nat} (hL : RTs p M t l) (hF : FL p M fl T) {n : Int} (hn : InR p n) (hlt : (l.length : Int) < p.r) :
    ∃ M', Runs (putT p t n) M 3 M' (l.length + 1) ∧ Mg p M' ∧ RTs p M' t (l ++ [n]) ∧ FL p M' fl T ∧ ∀ j : Nat, ((j : Int) < p.cnt t ∨ p.cnt t + 1 + p.r ≤ j) → M'.wd 0 j = M.wd 0 j := by
  have h := put_run hp hG h0 h1 hL hn
  rw [if_neg (by omega)] at h
  obtain ⟨M', r1, r2, r3, r4⟩ := h
  exact ⟨M', r1, r2, r3, put_fl hp r2 h0 h1 r4 hF, r4⟩
end Go.Proofs.YtlapcocljjgjlaaGreat

/-
  Hazards that name just some nodes, beside a list that tells which are held, in plain numbers. Conditions: a formed plan.
-/
namespace Go.Proofs.YtlapcocljjgjlaaGreat
open Go Go.RowKit

/-- The hazards name just the nodes hs, one behind the other. -/
structure HzS (p : Pl) (hd : Nat → BitVec 64) (hs : List Int) : Prop where
  at_ : ∀ i : Nat, (i : Int) < 3 * p.t → hd i = if i < hs.length then nameW (iN hs i) else 0#64
  rg : ∀ x ∈ hs, InR p x
  len : (hs.length : Int) ≤ 3 * p.t
theorem HzS.held {p : Pl} (hp : p.ok) {hd : Nat → BitVec 64} {hs : List Int} (h : HzS p hd hs) {x : Int} (hx : InR p x) : hldB p hd x = true ↔ x ∈ hs := by
  have ht := hp.2.1
  constructor
  · intro hh
    obtain ⟨j, _, h2, h3⟩ := heldR_some _ _ hh
    have ha := h.at_ j (by omega)
    rw [h3] at ha
    split at ha
    · rename_i hj
      have hm := iN_mem hj
      have hr := h.rg _ hm
      rw [name_inj hx.1 (by have := hx.lt hp; omega) hr.1 (by have := hr.lt hp; omega) ha]
      exact hm
    · exact absurd ha (nameW_ne0 hx.1 (by have := hx.lt hp; omega))
  · intro hm
    obtain ⟨i, hi, rfl⟩ := List.mem_iff_getElem.1 hm
    have hl := h.len
    unfold hldB
    refine heldR_yes (j := i) ?_ _ _ (Nat.zero_le _) (by omega)
    rw [h.at_ i (by omega), if_pos hi, iN_eq hi]
/-- In the midst of the law's second loop, at the node n: the list hl, the nodes hs whose hazards are set. -/
structure HdIn (p : Pl) (M : MS) (n : Nat) (hl : List Bool) (hs : List Int) : Prop where
  hz : HzS p (hzW p M) hs
  mm : ∀ j : Nat, j < n → (bN hl j = true ↔ (j : Int) ∈ hs)
  lt : ∀ x ∈ hs, 0 ≤ x ∧ x < (n : Int)
theorem HdIn.nil {p : Pl} {M : MS} (hp : p.ok) (h : ∀ i : Nat, (i : Int) < 3 * p.t → hzW p M i = 0#64) (hl : List Bool) : HdIn p M 0 hl [] :=
  ⟨⟨fun i hi => by rw [h i hi, if_neg (by simp)], fun x hx => by simp at hx, by have := hp.2.1; simp; omega⟩, fun j hj => absurd hj (Nat.not_lt_zero _), fun x hx => by simp at hx⟩
/-- A hazard is set. -/
theorem HdIn.set {p : Pl} {M M' : MS} {n : Nat} {hl : List Bool} {hs : List Int} (h : HdIn p M n hl hs) (hn : (n : Int) < p.n) (hb : bN hl n = true) (hr : (hs.length : Int) < 3 * p.t)
    (hz : ∀ i : Nat, (i : Int) < 3 * p.t → hzW p M' i = if i = hs.length then nameW n else hzW p M i) : HdIn p M' (n + 1) hl (hs ++ [(n : Int)]) := by
  refine ⟨⟨fun i hi => ?_, fun x hx => ?_, by simp; omega⟩, fun j hj => ?_, fun x hx => ?_⟩
  · rw [hz i hi]
    by_cases e : i = hs.length
    · subst e
      rw [if_pos rfl, if_pos (by simp), iN_snoc_eq]
    · rw [if_neg e, h.hz.at_ i hi]
      by_cases e2 : i < hs.length
      · rw [if_pos e2, if_pos (by simp; omega), iN_snoc_lt hs _ i e2]
      · rw [if_neg e2, if_neg (by simp; omega)]
  · rcases List.mem_append.1 hx with hx | hx
    · exact h.hz.rg x hx
    · simp at hx
      subst hx
      exact ⟨by omega, hn⟩
  · by_cases e : j = n
    · subst e
      simp [hb]
    · rw [h.mm j (by omega)]
      have hne : ¬ ((j : Int) = (n : Int)) := by omega
      simp [hne]
  · rcases List.mem_append.1 hx with hx | hx
    · have := h.lt x hx
      omega
    · simp at hx
      omega
/-- It isn't: the list tells so. -/
theorem HdIn.skip {p : Pl} {M : MS} {n : Nat} {hl : List Bool} {hs : List Int} (h : HdIn p M n hl hs) (hn : n < hl.length) : HdIn p M (n + 1) (hl.set n false) hs := by
  refine ⟨h.hz, fun j hj => ?_, fun x hx => by have := h.lt x hx; omega⟩
  by_cases e : j = n
  · subst e
    have h1 : bN (hl.set j false) j = false := by
      unfold bN
      rw [List.getD_eq_getElem?_getD, List.getElem?_set_self (by omega)]
      rfl
    rw [h1]
    constructor
    · intro h; cases h
    · intro hm
      have := h.lt _ hm
      omega
  · have h1 : bN (hl.set n false) j = bN hl j := by
      unfold bN
      rw [List.getD_eq_getElem?_getD, List.getD_eq_getElem?_getD, List.getElem?_set_ne (Ne.symm e)]
    rw [h1]
    exact h.mm j (by omega)
theorem HdIn.told {p : Pl} (hp : p.ok) {M : MS} {hl : List Bool} {hs : List Int} (h : HdIn p M hl.length hl hs) {x : Int} (hx : InR p x) : hldB p (hzW p M) x = hldR hl x := by
  have h1 := h.hz.held hp hx
  have h0 := hx.1
  rw [Bool.eq_iff_iff, h1]
  unfold hldR
  simp only [Bool.and_eq_true, decide_eq_true_eq]
  constructor
  · intro hm
    have hlt := h.lt x hm
    refine ⟨⟨by omega, hlt.2⟩, (h.mm x.toNat (by omega)).2 ?_⟩
    rw [Int.toNat_of_nonneg h0]
    exact hm
  · rintro ⟨⟨_, h2⟩, h3⟩
    have := (h.mm x.toNat (by omega)).1 h3
    rwa [Int.toNat_of_nonneg h0] at this
theorem scanP_congr {H H' : Int → Bool} : ∀ (k : Nat) (l out : List Int), k ≤ l.length → (∀ x ∈ l, H x = H' x) → scanP H k l out = scanP H' k l out
  | 0, _, _, _, _ => rfl
  | k + 1, l, out, h, hh => by
    have hm := iN_mem (l := l) (i := k) (by omega)
    rw [scanP, scanP, ← hh _ hm]
    split
    · exact scanP_congr k l out (by omega) hh
    · refine scanP_congr k (rmv l k) _ (by rw [rmv_len]; omega) fun x hx => hh x ?_
      exact (rmv_perm (l := l) (k := k) (by omega)).symm.subset (by simp [hx])
theorem pushL_congr {g g' : Int → Bool} : ∀ (out fl : List Int), (∀ n ∈ out, g n = g' n) → pushL g fl out = pushL g' fl out
  | [], _, _ => rfl
  | n :: out, fl, h => by
    rw [pushL, pushL, h n (by simp)]
    exact pushL_congr out _ fun m hm => h m (by simp [hm])
/-- All as they were freed: none is gone by a Gen of 3 of 9. -/
theorem nst_fresh {p : Pl} (hg : p.g = 9) {M : MS} {n : Int} (h : M.wd 0 (sdN p n) = St.word ⟨3, 2, 1⟩) : nst p M n = ⟨4, 0, 0⟩ := by
  unfold nst
  rw [h, (isW_word ⟨3, 2, 1⟩ (by unfold St.ok; decide)).2, hg]
  unfold St.freed
  rw [if_neg (show ¬ (9 : Int) ≤ (St.mk 3 2 1).g by show ¬ (9 : Int) ≤ 3; omega), show wrap64 ((St.mk 3 2 1).g + 1) = 4 by show wrap64 ((3 : Int) + 1) = 4; unfold wrap64; omega]
end Go.Proofs.YtlapcocljjgjlaaGreat

/-
  What stands in the midst of laws of retire: a memory, thread 0's retired nodes, the free list. Conditions: those of each theorem.
-/
namespace Go.Proofs.YtlapcocljjgjlaaGreat
open Go Go.RowKit

theorem wr3 (i : Nat) (h : i ≤ 1000) : wrap64 ((i / 3 : Nat) : Int) = ((i / 3 : Nat) : Int) := by unfold wrap64; omega
/-- In the midst: the memory, thread 0's retired nodes, the free list. -/
structure MoIn (p : Pl) (lo hi : Nat) (L : Lay) (w : World) (M : MS) (l fl : List Int) (T : Nat) (wr : World) : Prop where
  h : HIn p lo hi L w.heap.size w M wr
  rt : RTs p M 0 l
  fl : FL p M fl T
def MhRel (p : Pl) (lo hi : Nat) (L : Lay) (w : World) (l : List Int) (T : Nat) (m : Nat) (vi : Value) (wr : World) : Prop := ∃ (i : Nat) (M : MS), vi = .int .i64 (i : Int) ∧ i ≤ m ∧ MoIn p lo hi L w M l [] T wr
theorem MoIn.ext {p : Pl} {lo hi : Nat} {L : Lay} {w : World} {M : MS} {l fl : List Int} {T : Nat} {wr wr' : World} (h : MoIn p lo hi L w M l fl T wr) (hx : Ext wr wr') : MoIn p lo hi L w M l fl T wr' := ⟨h.h.ext hx, h.rt, h.fl⟩
end Go.Proofs.YtlapcocljjgjlaaGreat

/-
  What stands in the midst of the law RetireOthers: two threads' retired nodes, and the law's own rows of them. Conditions: a formed plan with two threads.
-/
namespace Go.Proofs.YtlapcocljjgjlaaGreat
open Go Go.RowKit

/-- Thread 0 has retired la, thread 1 lb; the rows tell xa and xb. -/
structure OtIn (p : Pl) (lo hi : Nat) (L : Lay) (base : Nat) (w : World) (M : MS) (la lb xa xb : List Int) (T : Nat) (va vb : Value) (wr : World) : Prop where
  h : HIn p lo hi L w.heap.size w M wr
  ra : RTs p M 0 la
  rb : RTs p M 1 lb
  fl : FL p M [] T
  hz : ∀ i : Nat, (i : Int) < 3 * p.t → hzW p M i = 0#64
  ia : IR base va xa wr
  ib : IR base vb xb wr
  ne : ∀ g, va.ownBlock = some g → vb.ownBlock ≠ some g
  nd : (la ++ lb).Nodup
  bs : base ≤ wr.heap.size
section
variable {p : Pl} {lo hi : Nat} {L : Lay} {base : Nat} {w : World} {M M' : MS} {la lb xa xb : List Int} {T : Nat} {va vb va' : Value} {wr wr' : World}
theorem OtIn.ext (h : OtIn p lo hi L base w M la lb xa xb T va vb wr) (hx : Ext wr wr') : OtIn p lo hi L base w M la lb xa xb T va vb wr' :=
  ⟨h.h.ext hx, h.ra, h.rb, h.fl, h.hz, h.ia.ext hx, h.ib.ext hx, h.ne, h.nd, Nat.le_trans h.bs hx.size⟩
/-- Nothing that counts has turned. -/
theorem OtIn.same (hp : p.ok) (ht : 2 ≤ p.t) (h : OtIn p lo hi L base w M la lb xa xb T va vb wr) (hm : MemIn lo hi L M' wr') (hf : Fr lo hi wr wr') (hG : Mg p M') (h1 : w.heap.size < lo) (h2 : hi ≤ base) (hs : ∀ j, M'.wd 0 j = M.wd 0 j) : OtIn p lo hi L base w M' la lb xa xb T va vb wr' :=
  ⟨h.h.ran hm hf hG (by omega) h1, h.ra.of hp (by omega) (by omega) fun j _ _ => hs j, h.rb.of hp (by omega) (by omega) fun j _ _ => hs j, h.fl.same hG hs, fun i hi => (hs _).trans (h.hz i hi), h.ia.fr hf h2, h.ib.fr hf h2, h.ne, h.nd, Nat.le_trans h.bs hf.size⟩
theorem OtIn.put0 (hp : p.ok) (ht : 2 ≤ p.t) {n : Int} (h : OtIn p lo hi L base w M la lb xa xb T va vb wr) (hm : MemIn lo hi L M' wr') (hf : Fr lo hi wr wr') (hG : Mg p M') (h1 : w.heap.size < lo) (h2 : hi ≤ base) (hR : RTs p M' 0 (la ++ [n]))
    (hs : ∀ j : Nat, ((j : Int) < p.cnt 0 ∨ p.cnt 0 + 1 + p.r ≤ j) → M'.wd 0 j = M.wd 0 j) (hna : n ∉ la) (hnb : n ∉ lb) : OtIn p lo hi L base w M' (la ++ [n]) lb xa xb T va vb wr' := by
  have h12 := thr_two hp (show (0 : Int) < 1 by omega)
  refine ⟨h.h.ran hm hf hG (by omega) h1, hR, h.rb.of hp (by omega) (by omega) fun j a _ => hs j (.inr (by omega)), put_fl hp hG (by omega) (by omega) hs h.fl, fun i hi => ?_, h.ia.fr hf h2, h.ib.fr hf h2, h.ne, ?_, Nat.le_trans h.bs hf.size⟩
  · obtain ⟨q1, q2, q3, q4, q5, q6⟩ := thr_pl hp (t := 0) (by omega) (by omega)
    have := hz_pl hp hi
    exact (hs _ (.inl (by omega))).trans (h.hz i hi)
  · rw [List.append_assoc]
    refine (List.Perm.nodup_iff (List.perm_middle (a := n) (l₁ := la) (l₂ := lb))).2 (List.nodup_cons.2 ⟨fun hh => ?_, h.nd⟩)
    rcases List.mem_append.1 hh with hh | hh
    · exact hna hh
    · exact hnb hh
theorem OtIn.put1 (hp : p.ok) (ht : 2 ≤ p.t) {n : Int} (h : OtIn p lo hi L base w M la lb xa xb T va vb wr) (hm : MemIn lo hi L M' wr') (hf : Fr lo hi wr wr') (hG : Mg p M') (h1 : w.heap.size < lo) (h2 : hi ≤ base) (hR : RTs p M' 1 (lb ++ [n]))
    (hs : ∀ j : Nat, ((j : Int) < p.cnt 1 ∨ p.cnt 1 + 1 + p.r ≤ j) → M'.wd 0 j = M.wd 0 j) (hna : n ∉ la) (hnb : n ∉ lb) : OtIn p lo hi L base w M' la (lb ++ [n]) xa xb T va vb wr' := by
  have h12 := thr_two hp (show (0 : Int) < 1 by omega)
  refine ⟨h.h.ran hm hf hG (by omega) h1, h.ra.of hp (by omega) (by omega) fun j _ b => hs j (.inl (by omega)), hR, put_fl hp hG (by omega) (by omega) hs h.fl, fun i hi => ?_, h.ia.fr hf h2, h.ib.fr hf h2, h.ne, ?_, Nat.le_trans h.bs hf.size⟩
  · obtain ⟨q1, q2, q3, q4, q5, q6⟩ := thr_pl hp (t := 1) (by omega) (by omega)
    have := hz_pl hp hi
    exact (hs _ (.inl (by omega))).trans (h.hz i hi)
  · rw [← List.append_assoc]
    refine (List.Perm.nodup_iff (List.perm_append_comm (l₁ := la ++ lb) (l₂ := [n]))).2 (List.nodup_cons.2 ⟨fun hh => ?_, h.nd⟩)
    rcases List.mem_append.1 (show n ∈ la ++ lb from hh) with hh | hh
    · exact hna hh
    · exact hnb hh
/-- A row grows: the memory and the plan's box stay. -/
theorem hin_grown {B : Nat} {xs : List Int} (h : HIn p lo hi L B w M wr) (hI : IR base va xs wr) (hg : wr.grownBy wr' va.ownBlock) (h1 : w.heap.size ≤ base) (h2 : hi ≤ base) (hB : B < base) : HIn p lo hi L B w M wr' :=
  have hlh := h.m.top
  ⟨h.m.keep hg.size fun k _ hk => grown_at hI hg (by omega) (by omega), h.mg, grown_ext h.ex hI hg h1, (grown_at hI hg (heap_lt h.pb) hB).trans h.pb⟩
theorem OtIn.rowA (h : OtIn p lo hi L base w M la lb xa xb T va vb wr) (_ : w.heap.size < lo) (h2 : hi ≤ base) (h3 : w.heap.size < base) {ys : List Int} (hv : IR base va' ys wr') (hg : wr.grownBy wr' va.ownBlock) (hn : va'.ownBlock = va.ownBlock ∨ ∃ g, va'.ownBlock = some g ∧ wr.heap.size ≤ g) : OtIn p lo hi L base w M la lb ys xb T va' vb wr' := by
  refine ⟨hin_grown h.h h.ia hg (by omega) h2 h3, h.ra, h.rb, h.fl, h.hz, hv, h.ib.keep fun g hgb => ?_, fun g hga => ?_, h.nd, Nat.le_trans h.bs hg.size⟩
  · obtain ⟨_, cur, hh⟩ := h.ib.own hgb
    exact hg.block g (hp_lt hh) fun e => h.ne g e.symm hgb
  · rcases hn with e | ⟨g', e, hle⟩
    · exact h.ne g (e ▸ hga)
    · intro hgb
      obtain ⟨_, cur, hh⟩ := h.ib.own hgb
      have := hp_lt hh
      rw [e] at hga
      cases hga
      omega
theorem OtIn.rowB (h : OtIn p lo hi L base w M la lb xa xb T va vb wr) (_ : w.heap.size < lo) (h2 : hi ≤ base) (h3 : w.heap.size < base) {ys : List Int} (hv : IR base va' ys wr') (hg : wr.grownBy wr' vb.ownBlock) (hn : va'.ownBlock = vb.ownBlock ∨ ∃ g, va'.ownBlock = some g ∧ wr.heap.size ≤ g) : OtIn p lo hi L base w M la lb xa ys T va va' wr' := by
  refine ⟨hin_grown h.h h.ib hg (by omega) h2 h3, h.ra, h.rb, h.fl, h.hz, h.ia.keep fun g hga => ?_, hv, fun g hga => ?_, h.nd, Nat.le_trans h.bs hg.size⟩
  · obtain ⟨_, cur, hh⟩ := h.ia.own hga
    exact hg.block g (hp_lt hh) fun e => h.ne g hga e.symm
  · rcases hn with e | ⟨g', e, hle⟩
    · rw [e]
      exact h.ne g hga
    · obtain ⟨_, cur, hh⟩ := h.ia.own hga
      have := hp_lt hh
      rw [e]
      intro e2
      cases e2
      omega
end
theorem hldB_zero {p : Pl} (hp : p.ok) {n : Int} (hn : InR p n) : hldB p (fun _ => 0#64) n = false := by
  unfold hldB
  rw [heldR_no _ _ fun j _ => Ne.symm (nameW_ne0 hn.1 (by have := hn.lt hp; omega))]
end Go.Proofs.YtlapcocljjgjlaaGreat
