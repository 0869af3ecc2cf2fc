/-
  What the reference's Scan comes to. Conditions: those of each theorem.
-/
import Derived.Test.YtpidmbclgfnekaaGreatGbp
namespace Go.Proofs.YtpidmbclgfnekaaGreat
open Go Go.RowKit

/-- Is a node told to be held? -/
def hldR (hl : List Bool) (n : Int) : Bool := decide (0 ≤ n ∧ n < (hl.length : Int)) && bN hl n.toNat
theorem iN_set {l : List Int} {i j : Nat} (hj : j < l.length) (x : Int) : iN (l.set i x) j = if j = i then x else iN l j := by
  rw [iN_eq (by simpa using hj), List.getElem_set]
  by_cases e : i = j
  · rw [if_pos e, if_pos e.symm]
  · rw [if_neg e, if_neg (Ne.symm e)]
    exact (iN_eq hj).symm
theorem IR.set {base g off n cap : Nat} {l : List Int} {w : World} (h : IR base (.slice (Option.some ⟨g, off, none⟩) n cap) l w) {i : Nat} (hi : i < l.length) (x : Int) : IR base (.slice (Option.some ⟨g, off, none⟩) n cap) (l.set i x) (w.setCell ⟨g, off + i, none⟩ (.int .i64 x)) := by
  rcases h with ⟨h, _⟩ | ⟨g', off', cap', cur, e, hb, hh, hc, hs, hr⟩
  · cases h
  · simp at e
    obtain ⟨⟨rfl, rfl⟩, rfl, rfl⟩ := e
    refine .inr ⟨g, off, cap, _, by simp, hb, set_same (o := off + i) (.int .i64 x) hh, by simpa using hc, by simpa using hs, fun j hj => ?_⟩
    have hj' : j < l.length := by simpa using hj
    rw [iN_set hj']
    by_cases e : j = i
    · subst e
      rw [if_pos rfl, Array.getElem?_setIfInBounds_self_of_lt (by omega)]
    · rw [if_neg e, Array.getElem?_setIfInBounds_ne (by omega)]
      exact hr j hj'
theorem IR.take {base g off n cap : Nat} {l : List Int} {w : World} (h : IR base (.slice (Option.some ⟨g, off, none⟩) n cap) l w) {k : Nat} (hk : k ≤ l.length) : IR base (.slice (Option.some ⟨g, off, none⟩) k cap) (l.take k) w := by
  rcases h with ⟨h, _⟩ | ⟨g', off', cap', cur, e, hb, hh, hc, hs, hr⟩
  · cases h
  · simp at e
    obtain ⟨⟨rfl, rfl⟩, rfl, rfl⟩ := e
    have hlen : (l.take k).length = k := by simp; omega
    refine .inr ⟨g, off, cap, cur, by rw [hlen], hb, hh, by omega, hs, fun j hj => ?_⟩
    rw [hlen] at hj
    rw [hr j (by omega), iN_eq (by omega), iN_eq (by omega), List.getElem_take]
/-- In its midst. -/
structure ScW (w : World) (lf out : List Int) (va vb : Value) (wr : World) : Prop where
  ia : IR w.heap.size va lf wr
  ib : IR w.heap.size vb out wr
  ne : ∀ g, va.ownBlock = some g → vb.ownBlock ≠ some g
  ex : Ext w wr
theorem ScW.ext {w : World} {lf out : List Int} {va vb : Value} {wr wr' : World} (h : ScW w lf out va vb wr) (hx : Ext wr wr') : ScW w lf out va vb wr' := ⟨h.ia.ext hx, h.ib.ext hx, h.ne, ext_trans h.ex hx⟩
theorem ScW.grow {w : World} {lf out ys : List Int} {va vb vb' : Value} {wr wr' : World} (h : ScW w lf out va vb wr) (hv : IR w.heap.size vb' ys wr') (hg : wr.grownBy wr' vb.ownBlock) (hn : vb'.ownBlock = vb.ownBlock ∨ ∃ g, vb'.ownBlock = some g ∧ wr.heap.size ≤ g) : ScW w lf ys va vb' wr' := by
  refine ⟨h.ia.keep fun g hga => ?_, hv, fun g hga => ?_, grown_ext h.ex h.ib hg (Nat.le_refl _)⟩
  · obtain ⟨_, cur, hh⟩ := h.ia.own hga
    exact hg.block g (hp_lt hh) fun e => h.ne g hga e.symm
  · rcases hn with e | ⟨g', e, hle⟩
    · rw [e]
      exact h.ne g hga
    · obtain ⟨_, cur, hh⟩ := h.ia.own hga
      have := hp_lt hh
      rw [e]
      intro e2
      cases e2
      omega
theorem ScW.rmv {w : World} {lf out : List Int} {g off n cap : Nat} {vb : Value} {wr : World} (h : ScW w lf out (.slice (some ⟨g, off, none⟩) n cap) vb wr) {k : Nat} (hk : k < lf.length) :
    ScW w (rmv lf k) out (.slice (some ⟨g, off, none⟩) (lf.length - 1) cap) vb (wr.setCell ⟨g, off + k, none⟩ (.int .i64 (iN lf (lf.length - 1)))) := by
  have hgb := (h.ia.own (g := g) rfl).1
  refine ⟨(h.ia.set hk (iN lf (lf.length - 1))).take (k := lf.length - 1) (by simp), h.ib.keep fun g' hg' => ?_, fun g' hg' => h.ne g' hg', ext_set _ hgb h.ex⟩
  refine set_other _ fun e => ?_
  subst e
  exact h.ne _ rfl hg'
def RetSc (lf out : List Int) (w : World) (e : Ending) (w' : World) : Prop := ∃ va vb, e = .returned (.tuple #[va, vb]) ∧ IR w.heap.size va lf w' ∧ IR w.heap.size vb out w' ∧ Ext w w'
def ScRel (hl : List Bool) (l : List Int) (w : World) (va vb vi : Value) (wr : World) : Prop :=
  ∃ (k : Nat) (lf out : List Int), vi = .int .i64 ((k : Int) - 1) ∧ k ≤ lf.length ∧ scanP (hldR hl) l.length l [] = scanP (hldR hl) k lf out ∧ lf.length + out.length = l.length ∧ ScW w lf out va vb wr
set_option maxRecDepth 8000 in
set_option maxHeartbeats 2000000 in
theorem rscan_any (l : List Int) (hl : List Bool) (v vh : Value) (w : World) (hll : l.length ≤ 2000) (hI : Is w v l) (hB : Bs w vh hl) :
    Calls Tryz.prog 113 #[v, vh] w (RetSc (scanP (hldR hl) l.length l []).1 (scanP (hldR hl) l.length l []).2 w) := by
  have HI := Lib.hid hI
  have HB := Lib.hid hB
  obtain ⟨a0, cap, rfl, _, hr⟩ := hI
  obtain ⟨b0, bcap, rfl, _, _⟩ := hB
  have h0 : a0 = none → l.length = 0 := by
    intro e
    cases l with
    | nil => rfl
    | cons x l => obtain ⟨b, off, ea, _⟩ := hr (by simp); rw [e] at ea; cases ea
  have H0 := Lib.hid h0
  clear hr h0
  obtain ⟨R, hR⟩ : ∃ R, Hid (scanP (hldR hl) l.length l [] = R) := ⟨_, Lib.hid rfl⟩
  rw [hR.out]
  have ew : Hid (wrap64 ((l.length : Int) - 1) = (l.length : Int) - 1) := Lib.hid (by unfold wrap64; omega)
  obtain ⟨iU, hiU, hy0, hy1, hy2⟩ := infoI
  go_enter Tryz.func113, Tryz.ntmps113
  replace ew := ew.out
  go_wp2_with (at_builtin; refine wpList_append_opt rfl (.tmp 10) (.tmp 11) 29 rfl w.heap.size 3 iU (.int .i64 0) 1 8 Tryz.underlying29 hiU hy0 hy1 hy2 rfl (by decide) (.slice (some ⟨w.heap.size, 0, none⟩) 0 0) 0 [] rfl (own_none _ _ _ _ _ rfl (Nat.le_refl _)) a0 l.length cap (l.map fun x => Value.int .i64 x) rfl H0.out (by simp) (fun ad ea => newsI (by rw [← ea]; exact HI.out.ext (ext_alloc _ (ext_refl w)))) (onesI l) (by unfold maxLen; omega) (by omega) (by simp) ?_; intro v2 w2 hv2 hg2; have HV := Lib.hid hv2; have HX2 := Lib.hid (ext_own (w := w) (ext_alloc _ (ext_refl w)) (own_none _ _ _ 1 _ rfl (Nat.le_refl _)) hg2); clear hv2 hg2)
  have hv := HV.out
  rw [Nat.zero_add, List.nil_append] at hv
  have HS : Hid (ScW w l [] v2 (.slice none 0 0) w2) := Lib.hid ⟨ir_of_own hv, IR.nil _ _, fun g _ => by simp [Value.ownBlock], HX2.out⟩
  clear hv HV ew
  go_loopw [6, 7, 8] (fun va vb vi wr => ScRel hl l w va vb vi wr) (fun _ _ vi _ => (intOf vi + 1).toNat)
  case atStart => exact ⟨l.length, l, [], rfl, Nat.le_refl _, rfl, by simp, HS.out⟩
  case round =>
    clear HS HX2
    obtain ⟨k, lf, out, rfl, hk, hsc, hlen, hS⟩ := hrel
    have HR := Lib.hid hS
    have HSC := Lib.hid hsc
    clear hsc
    cases k with
    | zero =>
      have hneg : ¬ (0 : Int) ≤ ((0 : Nat) : Int) - 1 := by omega
      have hneg2 : decide ((0 : Int) ≤ ((0 : Nat) : Int) - 1) = false := decide_eq_false hneg
      obtain ⟨aa, ac, rfl⟩ := hS.ia.slice
      obtain ⟨ba, bc, rfl⟩ := hS.ib.slice
      clear hS
      go_wp2
      go_ret2
      have e : R = (lf, out) := by rw [← hR.out, HSC.out]; rfl
      rw [e]
      exact ⟨_, _, rfl, HR.out.ia, HR.out.ib, HR.out.ex⟩
    | succ k =>
      obtain ⟨g, off, ca, rfl, hgl, hgb, hca, hcells⟩ := hS.ia.some (by omega)
      have c1 := hcells k (by omega)
      have c2 := hcells (lf.length - 1) (by omega)
      obtain ⟨n, hn⟩ : ∃ n, n = iN lf k := ⟨_, rfl⟩
      obtain ⟨z, hz⟩ : ∃ z, z = iN lf (lf.length - 1) := ⟨_, rfl⟩
      rw [← hn] at c1
      rw [← hz] at c2
      clear hcells hS
      rw [show (((k + 1 : Nat) : Int) - 1) = (k : Int) by omega]
      have hpos : decide ((0 : Int) ≤ (k : Int)) = true := decide_eq_true (by omega)
      have hkl : k < lf.length := by omega
      have ek : Hid (wrap64 ((k : Int) - 1) = (k : Int) - 1) := Lib.hid (by unfold wrap64; omega)
      by_cases hh : hldR hl n = true
      · have hE : scanP (hldR hl) l.length l [] = scanP (hldR hl) k lf out := by rw [HSC.out, scanP, ← hn, if_pos hh]
        have HE := Lib.hid hE
        unfold hldR at hh
        simp only [Bool.and_eq_true, decide_eq_true_eq] at hh
        obtain ⟨⟨hn0, hn1⟩, hb⟩ := hh
        obtain ⟨bb, bo, rfl, hbl, hcb⟩ := (HB.out.ext HR.out.ex).at (i := n.toNat) (by omega)
        rw [hb] at hcb
        have dn0 : decide (0 ≤ n) = true := decide_eq_true hn0
        have dn1 : decide (n < (hl.length : Int)) = true := decide_eq_true hn1
        clear hE hn hz HSC
        obtain ⟨m, rfl⟩ := Int.eq_ofNat_of_zero_le hn0
        replace hcb : wr.cell? ⟨bb, bo + m, none⟩ = some (.bool true) := hcb
        replace ek := ek.out
        go_wp2
        exact ⟨⟨k, lf, out, by first | rfl | (simp; omega), by omega, HE.out, hlen, HR.out⟩, by simp [intOf] <;> omega⟩
      · have hE : scanP (hldR hl) l.length l [] = scanP (hldR hl) k (rmv lf k) (out ++ [n]) := by rw [HSC.out, scanP, ← hn, if_neg hh]
        have HE := Lib.hid hE
        clear hE hn HSC
        have hcase : n < 0 ∨ (0 ≤ n ∧ (hl.length : Int) ≤ n) ∨ (0 ≤ n ∧ n < (hl.length : Int) ∧ bN hl n.toNat = false) := by
          by_cases h1 : 0 ≤ n
          · by_cases h2 : n < (hl.length : Int)
            · refine .inr (.inr ⟨h1, h2, ?_⟩)
              unfold hldR at hh
              simpa [h1, h2] using hh
            · exact .inr (.inl ⟨h1, by omega⟩)
          · exact .inl (by omega)
        clear hh
        rcases hcase with h1 | ⟨h1, h2⟩ | ⟨h1, h2, hb⟩
        · have dn0 : decide (0 ≤ n) = false := decide_eq_false (by omega)
          go_wp2_with (at_builtin; refine wpList_irow rfl (.tmp 38) (.tmp 40) rfl w.heap.size _ out rfl (HR.out.ib.ext (ext_alloc _ (ext_refl wr))) ⟨wr.heap.size, 0, none⟩ n rfl (newy _ _ _ _ rfl) (by omega) (by have := HR.out.ex.size; simp; omega) ?_; intro v7 w7 hv7 hg7 hn7; refine Hid.out ?_)
          refine Lib.hid ?_
          have HR5 := Lib.hid ((HR.out.ext (ext_alloc (.cells #[.int .i64 n] 3) (ext_refl wr))).grow hv7 hg7 hn7)
          clear hv7 hg7 hn7 c1 c2
          obtain ⟨g', off', ca', e', hgl', hgb', hca', hcells'⟩ := HR5.out.ia.some (by omega)
          simp only [Value.slice.injEq, Option.some.injEq, Addr.mk.injEq] at e'
          obtain ⟨⟨rfl, rfl, _⟩, _, rfl⟩ := e'
          have c2 := hcells' (lf.length - 1) (by omega)
          rw [← hz] at c2
          have c1 := hcells' k hkl
          have fz : ∀ o, w7.frozen? ⟨g, o, none⟩ = false := fun o => by
            obtain ⟨_, cur, hh⟩ := HR5.out.ia.own (g := g) rfl
            exact free_at hh
          have HN : Hid (ScW w (rmv lf k) (out ++ [n]) (.slice (some ⟨g, off, none⟩) (lf.length - 1) ca) v7 (w7.setCell ⟨g, off + k, none⟩ (.int .i64 z))) := Lib.hid (by rw [hz]; exact HR5.out.rmv hkl)
          have hlz : Hid (wrap64 ((lf.length : Int) - 1) = ((lf.length - 1 : Nat) : Int)) := Lib.hid (by unfold wrap64; omega)
          clear hcells' hz hgb' hca' HR HR5
          have hl1 : (lf.length : Int) - 1 = ((lf.length - 1 : Nat) : Int) := by omega
          have hlt1 : lf.length - 1 < lf.length := by omega
          generalize hLL : lf.length - 1 = LL at c2 HN hlz hl1 hlt1
          replace hlz := hlz.out
          replace ek := ek.out
          go_wp2
          have hrl : (rmv lf k).length = lf.length - 1 := rmv_len lf k
          exact ⟨⟨k, _, _, by first | rfl | (simp; omega), by rw [hrl]; omega, HE.out, by rw [hrl]; simp <;> omega, HN.out⟩, by simp [intOf] <;> omega⟩
        · have dn0 : decide (0 ≤ n) = true := decide_eq_true h1
          have dn1 : decide (n < (hl.length : Int)) = false := decide_eq_false (by omega)
          go_wp2_with (at_builtin; refine wpList_irow rfl (.tmp 38) (.tmp 40) rfl w.heap.size _ out rfl (HR.out.ib.ext (ext_alloc _ (ext_refl wr))) ⟨wr.heap.size, 0, none⟩ n rfl (newy _ _ _ _ rfl) (by omega) (by have := HR.out.ex.size; simp; omega) ?_; intro v7 w7 hv7 hg7 hn7; refine Hid.out ?_)
          refine Lib.hid ?_
          have HR5 := Lib.hid ((HR.out.ext (ext_alloc (.cells #[.int .i64 n] 3) (ext_refl wr))).grow hv7 hg7 hn7)
          clear hv7 hg7 hn7 c1 c2
          obtain ⟨g', off', ca', e', hgl', hgb', hca', hcells'⟩ := HR5.out.ia.some (by omega)
          simp only [Value.slice.injEq, Option.some.injEq, Addr.mk.injEq] at e'
          obtain ⟨⟨rfl, rfl, _⟩, _, rfl⟩ := e'
          have c2 := hcells' (lf.length - 1) (by omega)
          rw [← hz] at c2
          have c1 := hcells' k hkl
          have fz : ∀ o, w7.frozen? ⟨g, o, none⟩ = false := fun o => by
            obtain ⟨_, cur, hh⟩ := HR5.out.ia.own (g := g) rfl
            exact free_at hh
          have HN : Hid (ScW w (rmv lf k) (out ++ [n]) (.slice (some ⟨g, off, none⟩) (lf.length - 1) ca) v7 (w7.setCell ⟨g, off + k, none⟩ (.int .i64 z))) := Lib.hid (by rw [hz]; exact HR5.out.rmv hkl)
          have hlz : Hid (wrap64 ((lf.length : Int) - 1) = ((lf.length - 1 : Nat) : Int)) := Lib.hid (by unfold wrap64; omega)
          clear hcells' hz hgb' hca' HR HR5
          have hl1 : (lf.length : Int) - 1 = ((lf.length - 1 : Nat) : Int) := by omega
          have hlt1 : lf.length - 1 < lf.length := by omega
          generalize hLL : lf.length - 1 = LL at c2 HN hlz hl1 hlt1
          replace hlz := hlz.out
          replace ek := ek.out
          go_wp2
          have hrl : (rmv lf k).length = lf.length - 1 := rmv_len lf k
          exact ⟨⟨k, _, _, by first | rfl | (simp; omega), by rw [hrl]; omega, HE.out, by rw [hrl]; simp <;> omega, HN.out⟩, by simp [intOf] <;> omega⟩
        · have dn0 : decide (0 ≤ n) = true := decide_eq_true h1
          have dn1 : decide (n < (hl.length : Int)) = true := decide_eq_true h2
          obtain ⟨bb, bo, rfl, hbl, hcb⟩ := (HB.out.ext HR.out.ex).at (i := n.toNat) (by omega)
          rw [hb] at hcb
          obtain ⟨m, rfl⟩ := Int.eq_ofNat_of_zero_le h1
          replace hcb : wr.cell? ⟨bb, bo + m, none⟩ = some (.bool false) := hcb
          go_wp2_with (at_builtin; refine wpList_irow rfl (.tmp 38) (.tmp 40) rfl w.heap.size _ out rfl (HR.out.ib.ext (ext_alloc _ (ext_refl wr))) ⟨wr.heap.size, 0, none⟩ (m : Int) rfl (newy _ _ _ _ rfl) (by omega) (by have := HR.out.ex.size; simp; omega) ?_; intro v7 w7 hv7 hg7 hn7; refine Hid.out ?_)
          refine Lib.hid ?_
          have HR5 := Lib.hid ((HR.out.ext (ext_alloc (.cells #[.int .i64 (m : Int)] 3) (ext_refl wr))).grow hv7 hg7 hn7)
          clear hv7 hg7 hn7 c1 c2
          obtain ⟨g', off', ca', e', hgl', hgb', hca', hcells'⟩ := HR5.out.ia.some (by omega)
          simp only [Value.slice.injEq, Option.some.injEq, Addr.mk.injEq] at e'
          obtain ⟨⟨rfl, rfl, _⟩, _, rfl⟩ := e'
          have c2 := hcells' (lf.length - 1) (by omega)
          rw [← hz] at c2
          have c1 := hcells' k hkl
          have fz : ∀ o, w7.frozen? ⟨g, o, none⟩ = false := fun o => by
            obtain ⟨_, cur, hh⟩ := HR5.out.ia.own (g := g) rfl
            exact free_at hh
          have HN : Hid (ScW w (rmv lf k) (out ++ [(m : Int)]) (.slice (some ⟨g, off, none⟩) (lf.length - 1) ca) v7 (w7.setCell ⟨g, off + k, none⟩ (.int .i64 z))) := Lib.hid (by rw [hz]; exact HR5.out.rmv hkl)
          have hlz : Hid (wrap64 ((lf.length : Int) - 1) = ((lf.length - 1 : Nat) : Int)) := Lib.hid (by unfold wrap64; omega)
          clear hcells' hz hgb' hca' HR HR5
          have hl1 : (lf.length : Int) - 1 = ((lf.length - 1 : Nat) : Int) := by omega
          have hlt1 : lf.length - 1 < lf.length := by omega
          generalize hLL : lf.length - 1 = LL at c2 HN hlz hl1 hlt1
          replace hlz := hlz.out
          replace ek := ek.out
          go_wp2
          have hrl : (rmv lf k).length = lf.length - 1 := rmv_len lf k
          exact ⟨⟨k, _, _, by first | rfl | (simp; omega), by rw [hrl]; omega, HE.out, by rw [hrl]; simp <;> omega, HN.out⟩, by simp [intOf] <;> omega⟩
end Go.Proofs.YtpidmbclgfnekaaGreat

/-
  Hazards that name just some nodes, beside a list that tells which are held, in plain numbers. Conditions: a formed plan.
-/
namespace Go.Proofs.YtpidmbclgfnekaaGreat
open Go Go.RowKit

/-- The hazards name just the nodes hs, one behind the other. -/
structure HzS (p : Pl) (hd : Nat → BitVec 64) (hs : List Int) : Prop where
  at_ : ∀ i : Nat, (i : Int) < 3 * p.t → hd i = if i < hs.length then nameW (iN hs i) else 0#64
  rg : ∀ x ∈ hs, InR p x
  len : (hs.length : Int) ≤ 3 * p.t
theorem HzS.held {p : Pl} (hp : p.ok) {hd : Nat → BitVec 64} {hs : List Int} (h : HzS p hd hs) {x : Int} (hx : InR p x) : hldB p hd x = true ↔ x ∈ hs := by
  have ht := hp.2.1
  constructor
  · intro hh
    obtain ⟨j, _, h2, h3⟩ := heldR_some _ _ hh
    have ha := h.at_ j (by omega)
    rw [h3] at ha
    split at ha
    · rename_i hj
      have hm := iN_mem hj
      have hr := h.rg _ hm
      rw [name_inj hx.1 (by have := hx.lt hp; omega) hr.1 (by have := hr.lt hp; omega) ha]
      exact hm
    · exact absurd ha (nameW_ne0 hx.1 (by have := hx.lt hp; omega))
  · intro hm
    obtain ⟨i, hi, rfl⟩ := List.mem_iff_getElem.1 hm
    have hl := h.len
    unfold hldB
    refine heldR_yes (j := i) ?_ _ _ (Nat.zero_le _) (by omega)
    rw [h.at_ i (by omega), if_pos hi, iN_eq hi]
/-- In the midst of the law's second loop, at the node n: the list hl, the nodes hs whose hazards are set. -/
structure HdIn (p : Pl) (M : MS) (n : Nat) (hl : List Bool) (hs : List Int) : Prop where
  hz : HzS p (hzW p M) hs
  mm : ∀ j : Nat, j < n → (bN hl j = true ↔ (j : Int) ∈ hs)
  lt : ∀ x ∈ hs, 0 ≤ x ∧ x < (n : Int)
theorem HdIn.nil {p : Pl} {M : MS} (hp : p.ok) (h : ∀ i : Nat, (i : Int) < 3 * p.t → hzW p M i = 0#64) (hl : List Bool) : HdIn p M 0 hl [] :=
  ⟨⟨fun i hi => by rw [h i hi, if_neg (by simp)], fun x hx => by simp at hx, by have := hp.2.1; simp; omega⟩, fun j hj => absurd hj (Nat.not_lt_zero _), fun x hx => by simp at hx⟩
/-- A hazard is set. -/
theorem HdIn.set {p : Pl} {M M' : MS} {n : Nat} {hl : List Bool} {hs : List Int} (h : HdIn p M n hl hs) (hn : (n : Int) < p.n) (hb : bN hl n = true) (hr : (hs.length : Int) < 3 * p.t)
    (hz : ∀ i : Nat, (i : Int) < 3 * p.t → hzW p M' i = if i = hs.length then nameW n else hzW p M i) : HdIn p M' (n + 1) hl (hs ++ [(n : Int)]) := by
  refine ⟨⟨fun i hi => ?_, fun x hx => ?_, by simp; omega⟩, fun j hj => ?_, fun x hx => ?_⟩
  · rw [hz i hi]
    by_cases e : i = hs.length
    · subst e
      rw [if_pos rfl, if_pos (by simp), iN_snoc_eq]
    · rw [if_neg e, h.hz.at_ i hi]
      by_cases e2 : i < hs.length
      · rw [if_pos e2, if_pos (by simp; omega), iN_snoc_lt hs _ i e2]
      · rw [if_neg e2, if_neg (by simp; omega)]
  · rcases List.mem_append.1 hx with hx | hx
    · exact h.hz.rg x hx
    · simp at hx
      subst hx
      exact ⟨by omega, hn⟩
  · by_cases e : j = n
    · subst e
      simp [hb]
    · rw [h.mm j (by omega)]
      have hne : ¬ ((j : Int) = (n : Int)) := by omega
      simp [hne]
  · rcases List.mem_append.1 hx with hx | hx
    · have := h.lt x hx
      omega
    · simp at hx
      omega
/-- It isn't: the list tells so. -/
theorem HdIn.skip {p : Pl} {M : MS} {n : Nat} {hl : List Bool} {hs : List Int} (h : HdIn p M n hl hs) (hn : n < hl.length) : HdIn p M (n + 1) (hl.set n false) hs := by
  refine ⟨h.hz, fun j hj => ?_, fun x hx => by have := h.lt x hx; omega⟩
  by_cases e : j = n
  · subst e
    have h1 : bN (hl.set j false) j = false := by
      unfold bN
      rw [List.getD_eq_getElem?_getD, List.getElem?_set_self (by omega)]
      rfl
    rw [h1]
    constructor
    · intro h; cases h
    · intro hm
      have := h.lt _ hm
      omega
  · have h1 : bN (hl.set n false) j = bN hl j := by
      unfold bN
      rw [List.getD_eq_getElem?_getD, List.getD_eq_getElem?_getD, List.getElem?_set_ne (Ne.symm e)]
    rw [h1]
    exact h.mm j (by omega)
theorem HdIn.told {p : Pl} (hp : p.ok) {M : MS} {hl : List Bool} {hs : List Int} (h : HdIn p M hl.length hl hs) {x : Int} (hx : InR p x) : hldB p (hzW p M) x = hldR hl x := by
  have h1 := h.hz.held hp hx
  have h0 := hx.1
  rw [Bool.eq_iff_iff, h1]
  unfold hldR
  simp only [Bool.and_eq_true, decide_eq_true_eq]
  constructor
  · intro hm
    have hlt := h.lt x hm
    refine ⟨⟨by omega, hlt.2⟩, (h.mm x.toNat (by omega)).2 ?_⟩
    rw [Int.toNat_of_nonneg h0]
    exact hm
  · rintro ⟨⟨_, h2⟩, h3⟩
    have := (h.mm x.toNat (by omega)).1 h3
    rwa [Int.toNat_of_nonneg h0] at this
theorem scanP_congr {H H' : Int → Bool} : ∀ (k : Nat) (l out : List Int), k ≤ l.length → (∀ x ∈ l, H x = H' x) → scanP H k l out = scanP H' k l out
  | 0, _, _, _, _ => rfl
  | k + 1, l, out, h, hh => by
    have hm := iN_mem (l := l) (i := k) (by omega)
    rw [scanP, scanP, ← hh _ hm]
    split
    · exact scanP_congr k l out (by omega) hh
    · refine scanP_congr k (rmv l k) _ (by rw [rmv_len]; omega) fun x hx => hh x ?_
      exact (rmv_perm (l := l) (k := k) (by omega)).symm.subset (by simp [hx])
theorem pushL_congr {g g' : Int → Bool} : ∀ (out fl : List Int), (∀ n ∈ out, g n = g' n) → pushL g fl out = pushL g' fl out
  | [], _, _ => rfl
  | n :: out, fl, h => by
    rw [pushL, pushL, h n (by simp)]
    exact pushL_congr out _ fun m hm => h m (by simp [hm])
/-- All as they were freed: none is gone by a Gen of 3 of 9. -/
theorem nst_fresh {p : Pl} (hg : p.g = 9) {M : MS} {n : Int} (h : M.wd 0 (sdN p n) = St.word ⟨3, 2, 1⟩) : nst p M n = ⟨4, 0, 0⟩ := by
  unfold nst
  rw [h, (isW_word ⟨3, 2, 1⟩ (by unfold St.ok; decide)).2, hg]
  unfold St.freed
  rw [if_neg (show ¬ (9 : Int) ≤ (St.mk 3 2 1).g by show ¬ (9 : Int) ≤ 3; omega), show wrap64 ((St.mk 3 2 1).g + 1) = 4 by show wrap64 ((3 : Int) + 1) = 4; unfold wrap64; omega]
end Go.Proofs.YtpidmbclgfnekaaGreat

/-
  The law AllocHeld in plain numbers: a node that is retired and held stays so while others come and go; then it is granted anew. Conditions: the law's own plan.
-/
namespace Go.Proofs.YtpidmbclgfnekaaGreat
open Go Go.RowKit

abbrev p4h : Pl := ⟨4, 2, 7, 0, 1, 1000⟩
theorem p4hok : p4h.ok := by unfold Pl.ok; decide
theorem scanP_out (H : Int → Bool) : ∀ (k : Nat) (l out : List Int), ∀ n ∈ (scanP H k l out).2, n ∈ out ∨ H n = false
  | 0, _, _, n, h => .inl h
  | k + 1, l, out, n, h => by
    unfold scanP at h
    by_cases hk : H (iN l k) = true
    · rw [if_pos hk] at h
      exact scanP_out H k l out n h
    · rw [if_neg hk] at h
      rcases scanP_out H k _ _ n h with h | h
      · rcases List.mem_append.1 h with h | h
        · exact .inl h
        · obtain rfl := List.mem_singleton.1 h
          exact .inr (Bool.eq_false_iff.2 hk)
      · exact .inr h
theorem scanP_left (H : Int → Bool) (l : List Int) : ∀ n ∈ (scanP H l.length l []).1, H n = true := fun n hn => by
  obtain ⟨i, hi, e⟩ := List.getElem_of_mem hn
  have := scanP_held H l.length l [] (Nat.le_refl _) (fun i a b => absurd b (by omega)) i hi
  rw [iN_eq hi, e] at this
  exact this
theorem pushL_rev (g : Int → Bool) : ∀ (out fl : List Int), (∀ n ∈ out, g n = false) → pushL g fl out = out.reverse ++ fl
  | [], _, _ => rfl
  | n :: out, fl, h => by
    unfold pushL
    rw [h n (List.mem_cons_self ..), if_neg (by simp), pushL_rev g out (n :: fl) fun m hm => h m (List.mem_cons_of_mem _ hm)]
    simp
/-- While it is held: all four nodes are free or retired; node 0 is retired; no Gen is greater than the turns. -/
structure Hd1 (i : Nat) (fs rs : List Int) (sf : Int → St) : Prop where
  pm : (fs ++ rs).Perm [0, 1, 2, 3]
  z : (0 : Int) ∈ rs
  g0 : sf 0 = ⟨0, 2, 0⟩
  g : ∀ n, InR p4h n → (sf n).g ≤ (i : Int)
theorem in4 {n : Int} : n ∈ ([0, 1, 2, 3] : List Int) ↔ InR p4h n := by
  unfold InR
  simp
  omega
/-- Only node 0 is held. -/
def h4 (s : Nat) : Nat → BitVec 64 := fun i => if i = 3 + s then nameW 0 else 0#64
theorem h4_yes {s : Nat} (hs : s < 3) : hldB p4h (h4 s) 0 = true := by
  unfold hldB
  exact heldR_yes (j := 3 + s) (by unfold h4; rw [if_pos rfl]) _ _ (by omega) (by show 3 + s < 0 + (3 * (2 : Int)).toNat; omega)
theorem h4_no {s : Nat} {n : Int} (hn : InR p4h n) (h0 : n ≠ 0) : hldB p4h (h4 s) n = false := by
  unfold hldB
  rw [Bool.eq_false_iff]
  intro h
  have hn1 := hn.1
  have hn2 : n < 4 := hn.2
  obtain ⟨j, _, _, e⟩ := heldR_some _ _ h
  unfold h4 at e
  split at e
  · exact h0 (name_inj hn1 (by omega) (by omega) (by omega) e.symm)
  · exact nameW_ne0 hn1 (by omega) e.symm
theorem freed_g {s : St} (h : s.ok) (hg : s.g < 1000) : s.freed p4h.g = ⟨s.g + 1, 0, 0⟩ := by
  unfold St.ok at h
  unfold St.freed
  rw [if_neg (show ¬ (1000 : Int) ≤ s.g by omega)]
  have : wrap64 (s.g + 1) = s.g + 1 := by unfold wrap64; omega
  rw [this]
theorem nogone {sf : Int → St} {n : Int} (h : (sf n).ok) (hg : (sf n).g < 1000) : goneS p4h sf n = false := by
  unfold goneS
  rw [freed_g h hg]
  rfl
section
variable {s : Nat} (hs : s < 3)
include hs
theorem hd1_new {i : Nat} (hi : i ≤ 60) {M : MS} {fl rt : List Int} {T : Nat} {sf : Int → St} (h : Hd1 i fl rt sf) (hA : AIn p4h 0 M fl rt T sf (h4 s)) (hT : T ≤ 10 * i + 1) :
    ∃ M' T' c x gx fl' rt' sf', Runs (newT p4h 0 1 2) M c M' ⟨x, gx, 0⟩ ∧ c ≤ 999 ∧ InR p4h x ∧ x ≠ 0 ∧ T' ≤ 10 * i + 6 ∧ AIn p4h 0 M' fl' rt' T' sf' (h4 s) ∧ (x :: (fl' ++ rt')).Perm [0, 1, 2, 3] ∧ (0 : Int) ∈ rt' ∧ sf' 0 = ⟨0, 2, 0⟩ ∧ ∀ n, InR p4h n → (sf' n).g ≤ (i : Int) + 1 := by
  have hlen := h.pm.length_eq
  rw [List.length_append] at hlen
  have hnd : (fl ++ rt).Nodup := hA.nd
  cases fl with
  | cons n fl =>
    obtain ⟨M1, r1, a1⟩ := new_take p4hok (by omega) (show (0 : Int) < 2 by omega) hA (by omega) (kd := 1) (by omega) 0
    have hn0 : n ≠ 0 := fun e => by
      subst e
      exact (List.nodup_cons.1 hnd).1 (List.mem_append.2 (.inr h.z))
    refine ⟨M1, T + 1, 5, n, _, fl, rt, _, r1, by omega, hA.fl.rg n (by simp), hn0, by omega, a1, h.pm, h.z, ?_, fun m hm => ?_⟩
    · rw [upS_other (fun e => hn0 e.symm)]
      exact h.g0
    · by_cases e : m = n
      · subst e
        rw [upS_same]
        have := h.g m hm
        show (sf m).g ≤ _
        omega
      · rw [upS_other e]
        have := h.g m hm
        omega
  | nil =>
    rw [List.nil_append] at hnd
    have hpm : rt.Perm [0, 1, 2, 3] := h.pm
    have hrl : rt.length = 4 := by simpa using hlen
    obtain ⟨l1, l2, e1⟩ : ∃ l1 l2, scanP (hldB p4h (h4 s)) rt.length rt [] = (l1, l2) := ⟨_, _, rfl⟩
    have hperm := scanP_perm (hldB p4h (h4 s)) rt.length rt [] (Nat.le_refl _)
    have hout := scanP_out (hldB p4h (h4 s)) rt.length rt []
    have hleft := scanP_left (hldB p4h (h4 s)) rt
    rw [e1] at hperm hout hleft
    simp only [List.append_nil] at hperm hout hleft
    have hall : (l1 ++ l2).Perm [0, 1, 2, 3] := hperm.trans hpm
    have hrg : ∀ n, n ∈ l1 ++ l2 → InR p4h n := fun n hn => in4.1 (hall.mem_iff.1 hn)
    have hl1 : ∀ n ∈ l1, n = 0 := fun n hn => by
      by_cases e : n = 0
      · exact e
      · have h1 := hleft n hn
        rw [h4_no (hrg n (List.mem_append.2 (.inl hn))) e] at h1
        cases h1
    have hz2 : (0 : Int) ∉ l2 := fun hx => by
      rcases hout 0 hx with h1 | h1
      · cases h1
      · rw [h4_yes hs] at h1
        cases h1
    have hz1 : (0 : Int) ∈ l1 := by
      have : (0 : Int) ∈ l1 ++ l2 := hall.mem_iff.2 (by simp)
      exact (List.mem_append.1 this).resolve_right hz2
    have hnd2 : (l1 ++ l2).Nodup := hall.nodup_iff.2 (by decide)
    have hl10 : l1 = [0] := by
      have hd1 := (List.nodup_append.1 hnd2).1
      match l1, hl1, hz1, hd1 with
      | [], _, h, _ => cases h
      | [a], h1, _, _ => rw [h1 a (by simp)]
      | a :: b :: l, h1, _, hd => 
        have := h1 a (by simp)
        have := h1 b (by simp)
        subst a
        subst b
        simp at hd
    subst hl10
    have hl2 : l2.length = 3 := by
      have := hall.length_eq
      simp at this
      omega
    have hr2 : ∀ n ∈ l2, InR p4h n := fun n hn => hrg n (List.mem_append.2 (.inr hn))
    have hng : ∀ n ∈ l2, goneS p4h sf n = false := fun n hn => nogone (hA.ok n (hr2 n hn)) (by have := h.g n (hr2 n hn); omega)
    have e2 := pushL_rev (goneS p4h sf) l2 [] hng
    rw [List.append_nil] at e2
    obtain ⟨x, fl2, e3⟩ : ∃ x fl2, l2.reverse = x :: fl2 := by
      cases hq : l2.reverse with
      | nil => have := congrArg List.length hq; rw [List.length_reverse, List.length_nil] at this; omega
      | cons a b => exact ⟨a, b, rfl⟩
    rw [e3] at e2
    obtain ⟨M1, T1, c, g, r1, hc, hT1, b1⟩ := new_scan p4hok (by omega) (show (0 : Int) < 2 by omega) hA (by omega) (kd := 1) (by omega) [0] l2 (x :: fl2) e1 e2
    obtain ⟨rfl, a1⟩ := b1
    have hx2 : x ∈ l2 := by
      have : x ∈ l2.reverse := by rw [e3]; simp
      exact List.mem_reverse.1 this
    have hx0 : x ≠ 0 := fun e => hz2 (e ▸ hx2)
    refine ⟨M1, T1, c, x, _, fl2, [0], _, r1, by omega, hr2 x hx2, hx0, by omega, a1, ?_, by simp, ?_, fun m hm => ?_⟩
    · have hp1 : (x :: fl2).Perm l2 := by rw [← e3]; exact List.reverse_perm l2
      have : (x :: (fl2 ++ [0])).Perm ([0] ++ l2) := by
        have h1 : (x :: fl2 ++ [0]).Perm ([0] ++ (x :: fl2)) := List.perm_append_comm
        exact h1.trans (List.Perm.append_left [0] hp1)
      exact this.trans hall
    · rw [upS_other (fun e => hx0 e.symm)]
      unfold freedS
      rw [if_neg hz2]
      exact h.g0
    · have hgm := h.g m hm
      have hfr : (freedS p4h sf l2 m).g ≤ (i : Int) + 1 := by
        unfold freedS
        split
        · rw [freed_g (hA.ok m hm) (by omega)]
          show (sf m).g + 1 ≤ _
          omega
        · omega
      by_cases e : m = x
      · subst e
        rw [upS_same]
        exact hfr
      · rw [upS_other e]
        exact hfr
/-- A turn: a node is granted, and retired. -/
theorem hd1_turn {i : Nat} (hi : i ≤ 60) {M : MS} {fl rt : List Int} {T : Nat} {sf : Int → St} (h : Hd1 i fl rt sf) (hA : AIn p4h 0 M fl rt T sf (h4 s)) (hT : T ≤ 10 * i + 1) :
    ∃ M1 M2 T' c x gx fl' rt' sf', Runs (newT p4h 0 1 2) M c M1 ⟨x, gx, 0⟩ ∧ c ≤ 999 ∧ Mg p4h M1 ∧ InR p4h x ∧ x ≠ 0 ∧ Runs (aretT p4h 0 x 2) M1 5 M2 x ∧ T' ≤ 10 * (i + 1) + 1 ∧ AIn p4h 0 M2 fl' rt' T' sf' (h4 s) ∧ Hd1 (i + 1) fl' rt' sf' := by
  obtain ⟨M1, T1, c, x, gx, fl', rt', sf', r1, hc, hx, hx0, hT1, a1, hp1, hz, hg0, hg⟩ := hd1_new hs hi h hA hT
  have hnd : (x :: (fl' ++ rt')).Nodup := hp1.nodup_iff.2 (by decide)
  have hlen := hp1.length_eq
  simp only [List.length_cons, List.length_append, List.length_nil] at hlen
  obtain ⟨M2, r2, a2⟩ := aret_room p4hok (by omega) (show (0 : Int) < 2 by omega) a1 hx (List.nodup_cons.1 hnd).1 (by show (rt'.length : Int) < 7; omega) 2
  refine ⟨M1, M2, T1, c, x, gx, fl', rt' ++ [x], _, r1, hc, a1.fl.mg, hx, hx0, r2, by omega, a2, ?_, by simp [hz], ?_, fun m hm => ?_⟩
  · rw [← List.append_assoc]
    exact (List.perm_append_comm (l₁ := fl' ++ rt') (l₂ := [x])).trans hp1
  · rw [upS_other (fun e => hx0 e.symm)]
    exact hg0
  · by_cases e : m = x
    · subst e
      rw [upS_same]
      have := hg m hm
      show (sf' m).g ≤ _
      push_cast
      omega
    · rw [upS_other e]
      have := hg m hm
      push_cast
      omega
end
/-- Behind the hazards' clearing: so many nodes were granted; node 0 was seen, or is to come with the Gen 1. -/
structure Hd2 (j : Nat) (seen : Bool) (fs rs : List Int) (sf : Int → St) : Prop where
  ln : (fs ++ rs).length = 4 - j
  rg : ∀ n ∈ rs, InR p4h n
  z : seen = true ∨ ((0 : Int) ∈ fs ++ rs ∧ ((0 : Int) ∈ rs → (sf 0).g = 0) ∧ ((0 : Int) ∈ fs → (sf 0).g = 1))
  g : ∀ n, InR p4h n → (sf n).g ≤ 100 + (j : Int)
theorem held0' {p : Pl} {n : Int} (h0 : 0 ≤ n) (h1 : n < 4611686018427387904) : hldB p (fun _ => 0#64) n = false := by
  unfold hldB
  rw [Bool.eq_false_iff]
  intro h
  obtain ⟨j, _, _, e⟩ := heldR_some _ _ h
  exact nameW_ne0 h0 h1 e.symm
theorem hd2_new {j : Nat} (hj : j < 4) {M : MS} {fl rt : List Int} {T : Nat} {sf : Int → St} {seen : Bool} (h : Hd2 j seen fl rt sf) (hA : AIn p4h 0 M fl rt T sf (fun _ => 0#64)) (hT : T ≤ 1000 + 10 * j) :
    ∃ M' T' c x gx fl' rt' sf', Runs (newT p4h 0 1 2) M c M' ⟨x, gx, 0⟩ ∧ c ≤ 999 ∧ T' ≤ 1000 + 10 * (j + 1) ∧ AIn p4h 0 M' fl' rt' T' sf' (fun _ => 0#64) ∧ Hd2 (j + 1) (seen || (decide (x = 0) && decide (gx = 1))) fl' rt' sf' := by
  have hnd : (fl ++ rt).Nodup := hA.nd
  have hln := h.ln
  cases fl with
  | cons n fl =>
    obtain ⟨M1, r1, a1⟩ := new_take p4hok (by omega) (show (0 : Int) < 2 by omega) hA (by omega) (kd := 1) (by omega) 0
    have hn := hA.fl.rg n (by simp)
    refine ⟨M1, T + 1, 5, n, _, fl, rt, _, r1, by omega, by omega, a1, ?_, h.rg, ?_, fun m hm => ?_⟩
    · simp only [List.cons_append, List.length_cons] at hln
      omega
    · rcases h.z with h1 | ⟨h1, h2, h3⟩
      · exact .inl (by rw [h1]; rfl)
      · by_cases e : n = 0
        · subst e
          refine .inl ?_
          have := h3 (by simp)
          simp [this]
        · refine .inr ⟨?_, fun h4 => ?_, fun h4 => ?_⟩
          · simp only [List.cons_append, List.mem_cons] at h1
            exact h1.resolve_left fun e2 => e e2.symm
          · rw [upS_other (fun e2 => e e2.symm)]
            exact h2 h4
          · rw [upS_other (fun e2 => e e2.symm)]
            exact h3 (List.mem_cons_of_mem _ h4)
    · have hgm := h.g m hm
      by_cases e : m = n
      · subst e
        rw [upS_same]
        show (sf m).g ≤ _
        push_cast
        omega
      · rw [upS_other e]
        push_cast
        omega
  | nil =>
    rw [List.nil_append] at hnd hln
    have hrl : 1 ≤ rt.length ∧ rt.length ≤ 4 := by omega
    obtain ⟨l1, l2, e1⟩ : ∃ l1 l2, scanP (hldB p4h (fun _ => 0#64)) rt.length rt [] = (l1, l2) := ⟨_, _, rfl⟩
    have hperm := scanP_perm (hldB p4h (fun _ => 0#64)) rt.length rt [] (Nat.le_refl _)
    have hleft := scanP_left (hldB p4h (fun _ => 0#64)) rt
    rw [e1] at hperm hleft
    simp only [List.append_nil] at hperm hleft
    have hl10 : l1 = [] := by
      cases l1 with
      | nil => rfl
      | cons a l =>
        have h1 := hleft a (by simp)
        have ha := h.rg a (hperm.mem_iff.1 (by simp))
        have : a < 4 := ha.2
        rw [held0' ha.1 (by omega)] at h1
        cases h1
    subst hl10
    rw [List.nil_append] at hperm
    have hr2 : ∀ n ∈ l2, InR p4h n := fun n hn => h.rg n (hperm.mem_iff.1 hn)
    have hng : ∀ n ∈ l2, goneS p4h sf n = false := fun n hn => nogone (hA.ok n (hr2 n hn)) (by have := h.g n (hr2 n hn); omega)
    have e2 := pushL_rev (goneS p4h sf) l2 [] hng
    rw [List.append_nil] at e2
    have hl2 := hperm.length_eq
    obtain ⟨x, fl2, e3⟩ : ∃ x fl2, l2.reverse = x :: fl2 := by
      cases hq : l2.reverse with
      | nil => have := congrArg List.length hq; rw [List.length_reverse, List.length_nil] at this; omega
      | cons a b => exact ⟨a, b, rfl⟩
    rw [e3] at e2
    obtain ⟨M1, T1, c, g, r1, hc, hT1, b1⟩ := new_scan p4hok (by omega) (show (0 : Int) < 2 by omega) hA (by omega) (kd := 1) (by omega) [] l2 (x :: fl2) e1 e2
    obtain ⟨rfl, a1⟩ := b1
    have hmem : ∀ n, n ∈ x :: fl2 ↔ n ∈ l2 := fun n => by rw [← e3]; exact List.mem_reverse
    have hx2 : x ∈ l2 := (hmem x).1 (by simp)
    have hfr : ∀ m, InR p4h m → m ∈ l2 → freedS p4h sf l2 m = ⟨(sf m).g + 1, 0, 0⟩ := fun m hm h2 => by
      unfold freedS
      rw [if_pos h2, freed_g (hA.ok m hm) (by have := h.g m hm; omega)]
    refine ⟨M1, T1, c, x, _, fl2, [], _, r1, by omega, by omega, a1, ?_, fun n hn => by simp at hn, ?_, fun m hm => ?_⟩
    · have := congrArg List.length e3
      simp only [List.length_reverse, List.length_cons] at this
      simp only [List.append_nil]
      omega
    · rcases h.z with h1 | ⟨h1, h2, _⟩
      · exact .inl (by rw [h1]; rfl)
      · rw [List.nil_append] at h1
        have hz2 : (0 : Int) ∈ l2 := hperm.mem_iff.2 h1
        have hgz := h2 h1
        have hz3 := hfr 0 (hr2 0 hz2) hz2
        by_cases e : x = 0
        · subst e
          refine .inl ?_
          rw [hz3, hgz]
          simp
        · refine .inr ⟨?_, fun h4 => by simp at h4, fun h4 => ?_⟩
          · have := (hmem 0).2 hz2
            simp only [List.mem_cons] at this
            rw [List.append_nil]
            exact this.resolve_left fun e2 => e e2.symm
          · rw [upS_other (fun e2 => e e2.symm), hz3, hgz]
            rfl
    · have hgm := h.g m hm
      have hf2 : (freedS p4h sf l2 m).g ≤ 100 + ((j + 1 : Nat) : Int) := by
        by_cases h2 : m ∈ l2
        · rw [hfr m hm h2]
          show (sf m).g + 1 ≤ _
          push_cast
          omega
        · unfold freedS
          rw [if_neg h2]
          push_cast
          omega
      by_cases e : m = x
      · subst e
        rw [upS_same]
        exact hf2
      · rw [upS_other e]
        exact hf2
/-- Hazards alone have turned. -/
theorem HzTo.ain {p : Pl} (hp : p.ok) {M M' : MS} {f hd : Nat → BitVec 64} (h : HzTo p M M' f) {t : Int} (h0 : 0 ≤ t) (h1 : t < p.t) {fl rt : List Int} {T : Nat} {sf : Int → St} {hd' : Nat → BitVec 64} (hA : AIn p t M fl rt T sf hd) (hh : ∀ i : Nat, (i : Int) < 3 * p.t → f i = hd' i) : AIn p t M' fl rt T sf hd' := by
  refine ⟨h.fls hp hA.fl, h.rts hp h0 h1 hA.rt, hA.nd, fun n hn => ?_, hA.ok, fun i hi => (h.hz i hi).trans (hh i hi)⟩
  rw [h.ot _ fun i hi e => ?_]
  · exact hA.st n hn
  · obtain ⟨q1, q2, q3, q4, q5, q6⟩ := thr_pl hp h0 h1
    obtain ⟨b1, b2⟩ := hz_pl hp hi
    have := (sd_ne hp hn hn).2.2.2
    have hr : 4 ≤ p.r := by unfold Pl.ok at hp; omega
    omega
theorem fresh4 : rfr (Pl.n p4h).toNat 0 = [0, 1, 2, 3] := rfl
/-- The begin: node 0 is granted, held by thread 1, retired. -/
theorem hd_begin {M : MS} (h : AIn p4h 0 M (rfr (Pl.n p4h).toNat 0) [] 0 (fun _ => ⟨0, 0, 0⟩) (fun _ => 0#64)) : ∃ M1 sf1, Runs (newT p4h 0 0 2) M 5 M1 ⟨0, 0, 0⟩ ∧ Mg p4h M1 ∧ ∀ (s : Nat) M2, s < 3 → HzTo p4h M1 M2 (fun i => if i = (3 * (1 : Int) + (s : Int)).toNat then nameW 0 else hzW p4h M1 i) →
    ∃ M3, Runs (aretT p4h 0 0 2) M2 5 M3 0 ∧ AIn p4h 0 M3 [1, 2, 3] [0] 1 sf1 (h4 s) ∧ Hd1 0 [1, 2, 3] [0] sf1 := by
  rw [fresh4] at h
  obtain ⟨M1, r1, a1⟩ := new_take p4hok (by omega) (show (0 : Int) < 2 by omega) h (by omega) (kd := 0) (by omega) 0
  refine ⟨M1, upS (upS (fun _ => ⟨0, 0, 0⟩) 0 (liveF 0 ⟨0, 0, 0⟩)) 0 (retF' (upS (fun _ => ⟨0, 0, 0⟩) 0 (liveF 0 ⟨0, 0, 0⟩) 0)), r1, a1.fl.mg, fun s M2 hs hz => ?_⟩
  have a2 := hz.ain p4hok (by omega) (show (0 : Int) < 2 by omega) a1 (hd' := h4 s) fun i hi => by
    unfold h4
    by_cases e : i = 3 + s
    · rw [if_pos e, if_pos (by omega)]
    · rw [if_neg e, if_neg (by omega)]
      exact a1.hz i hi
  obtain ⟨M3, r3, a3⟩ := aret_room p4hok (by omega) (show (0 : Int) < 2 by omega) a2 (n := 0) ⟨by omega, show (0 : Int) < 4 by omega⟩ (by simp) (by show (([] : List Int).length : Int) < 7; simp) 2
  rw [List.nil_append] at a3
  refine ⟨M3, r3, a3, ⟨?_, by simp, ?_, fun n hn => ?_⟩⟩
  · exact List.perm_append_comm (l₁ := [1, 2, 3]) (l₂ := [0])
  · rw [upS_same, upS_same]
    rfl
  · by_cases e : n = 0
    · subst e
      rw [upS_same, upS_same]
      exact Int.le_refl _
    · rw [upS_other e, upS_other e]
      exact Int.le_refl _
/-- The hazards are cleared. -/
theorem hd_clear {s : Nat} (hs : s < 3) {i : Nat} (hi : i ≤ 60) {M M' : MS} {fl rt : List Int} {T : Nat} {sf : Int → St} (h : Hd1 i fl rt sf) (hA : AIn p4h 0 M fl rt T sf (h4 s)) (hz : HzTo p4h M M' (fun i => if (3 * (1 : Int)).toNat ≤ i ∧ i < (3 * (1 : Int) + 3).toNat then 0#64 else hzW p4h M i)) :
    AIn p4h 0 M' fl rt T sf (fun _ => 0#64) ∧ Hd2 0 false fl rt sf := by
  refine ⟨hz.ain p4hok (by omega) (show (0 : Int) < 2 by omega) hA fun i hi => ?_, ?_, fun n hn => ?_, .inr ⟨?_, fun _ => by rw [h.g0], fun h4 => ?_⟩, fun n hn => by have := h.g n hn; omega⟩
  · have hi2 : (i : Int) < 3 * 2 := hi
    by_cases e : 3 ≤ i
    · rw [if_pos (by omega)]
    · rw [if_neg (by omega), hA.hz i hi]
      unfold Go.Proofs.YtpidmbclgfnekaaGreat.h4
      rw [if_neg (by omega)]
  · have := h.pm.length_eq
    simpa using this
  · exact in4.1 (h.pm.mem_iff.1 (List.mem_append.2 (.inr hn)))
  · exact List.mem_append.2 (.inr h.z)
  · exact absurd rfl ((List.nodup_append.1 hA.nd).2.2 0 h4 0 h.z)
theorem hd_end {seen : Bool} {fl rt : List Int} {sf : Int → St} (h : Hd2 4 seen fl rt sf) : seen = true := by
  rcases h.z with h1 | ⟨h1, _⟩
  · exact h1
  · have := List.length_pos_of_mem h1
    have := h.ln
    omega
end Go.Proofs.YtpidmbclgfnekaaGreat
