/-
  A whole Scan, in plain numbers. Conditions: a formed plan; hazards that stay; fewer swaps than a tag can tell.
-/
import Derived.Test.YtlapcocljjgjlaaGreatGbe
import Derived.ChangeArms
import Derived.Maps.AppendAt
namespace Go.Proofs.YtlapcocljjgjlaaGreat
open Go Go.RowKit

/-- The free list behind so many nodes reclaimed, of which some are gone. -/
def pushL (gone : Int → Bool) (fl : List Int) : List Int → List Int
  | [] => fl
  | n :: out => pushL gone (if gone n then fl else n :: fl) out
theorem pushL_snoc (gone : Int → Bool) : ∀ (out fl : List Int) (n : Int), pushL gone fl (out ++ [n]) = if gone n then pushL gone fl out else n :: pushL gone fl out
  | [], fl, n => by
    show pushL gone (if gone n then fl else n :: fl) [] = _
    unfold pushL
    split <;> rfl
  | m :: out, fl, n => pushL_snoc gone out _ n
/-- Is a node gone, when it is freed as it stands? -/
def goneB (p : Pl) (M : MS) (n : Int) : Bool := decide ((nst p M n).m = 3)
/-- In a scan's midst: M0 is where it began. -/
structure ScIn (p : Pl) (t : Int) (M0 : MS) (fl0 : List Int) (T0 : Nat) (hd : Nat → BitVec 64) (M : MS) (l out : List Int) (T : Nat) : Prop where
  mg : Mg p M
  rt : RTs p M t l
  fl : FL p M (pushL (goneB p M0) fl0 out) T
  nd : (l ++ out).Nodup
  nf : ∀ n ∈ l, n ∉ pushL (goneB p M0) fl0 out
  tt : T ≤ T0 + out.length
  st : ∀ n, InR p n → n ∉ out → M.wd 0 (sdN p n) = M0.wd 0 (sdN p n)
  dn : ∀ n ∈ out, InR p n ∧ M.wd 0 (sdN p n) = (nst p M0 n).word ∧ ∀ o, 0 ≤ o → o < 3 → M.wd 0 (fdN p n o) = 0#64
  hz : ∀ i : Nat, (i : Int) < 3 * p.t → hzW p M i = hd i
  ot : ∀ j : Nat, 1 ≤ j → (j : Int) < p.nod 0 → ((j : Int) < p.cnt t ∨ p.cnt t + 1 + p.r ≤ j) → M.wd 0 j = M0.wd 0 j
section
variable {p : Pl} {t : Int} {M0 : MS} {fl0 : List Int} {T0 : Nat} {hd : Nat → BitVec 64}
/-- Nothing that counts has turned. -/
theorem ScIn.same (hp : p.ok) (h0 : 0 ≤ t) (h1 : t < p.t) {M M' : MS} {l out : List Int} {T : Nat} (h : ScIn p t M0 fl0 T0 hd M l out T) (hm : Mg p M') (hs : ∀ j, M'.wd 0 j = M.wd 0 j) : ScIn p t M0 fl0 T0 hd M' l out T :=
  ⟨hm, h.rt.of hp h0 h1 fun j _ _ => hs j, h.fl.same hm hs, h.nd, h.nf, h.tt, fun n a b => (hs _).trans (h.st n a b), fun n hn => ⟨(h.dn n hn).1, (hs _).trans (h.dn n hn).2.1, fun o a b => (hs _).trans ((h.dn n hn).2.2 o a b)⟩, fun i hi => (hs _).trans (h.hz i hi), fun j a b c => (hs j).trans (h.ot j a b c)⟩
/-- The word that fill puts at i: behind fill and the count. -/
theorem fill_run (hp : p.ok) (h0 : 0 ≤ t) (h1 : t < p.t) {M : MS} (hG : Mg p M) {l : List Int} (hL : RTs p M t l) {i : Nat} (hi : i < l.length) :
    ∃ M' k, Runs ((fillT p t (i : Int) ((l.length : Int) - 1)).bind fun _ => setT (p.cntF t) (cntW ((l.length : Int) - 1))) M k M' () ∧ k ≤ 3 ∧ Mg p M' ∧ RTs p M' t (rmv l i) ∧ ∀ j : Nat, ((j : Int) < p.cnt t ∨ p.cnt t + 1 + p.r ≤ j) → M'.wd 0 j = M.wd 0 j := by
  obtain ⟨q1, q2, q3, q4, q5, q6⟩ := thr_pl hp h0 h1
  have hlr := hL.len
  have eI := q2 (i : Int) (by omega) (by omega)
  have eL := q2 ((l.length : Int) - 1) (by omega) (by omega)
  -- what stands behind the count's store
  have fin : ∀ M1 : MS, Mg p M1 → (∀ j : Nat, M1.wd 0 j = if (j : Int) = p.cnt t + 1 + i then nameW (iN l (l.length - 1)) else M.wd 0 j) →
      RTs p (M1.done 0 1 (p.cntF t) (cntW ((l.length : Int) - 1)) 0#64) t (rmv l i) ∧ ∀ j : Nat, ((j : Int) < p.cnt t ∨ p.cnt t + 1 + p.r ≤ j) → (M1.done 0 1 (p.cntF t) (cntW ((l.length : Int) - 1)) 0#64).wd 0 j = M.wd 0 j := fun M1 _ w1 => by
    have W : ∀ j : Nat, (M1.done 0 1 (p.cntF t) (cntW ((l.length : Int) - 1)) 0#64).wd 0 j = if (j : Int) = p.cnt t then cntW ((l.length : Int) - 1) else if (j : Int) = p.cnt t + 1 + i then nameW (iN l (l.length - 1)) else M.wd 0 j := fun j => by
      rw [wd_store, w1]
      by_cases e1 : (j : Int) = p.cnt t
      · rw [if_pos e1, if_pos (by omega)]
      · rw [if_neg e1, if_neg (by omega)]
    refine ⟨⟨by rw [rmv_len]; omega, ?_, fun k hk => ?_, fun n hn => ?_⟩, fun j hj => ?_⟩
    · rw [W, if_pos (by unfold cnN; omega), rmv_len]
      congr 1
      omega
    · rw [rmv_len] at hk
      have eK := q2 (k : Int) (by omega) (by omega)
      rw [W, if_neg (by unfold rtN; omega), rmv_at hi hk]
      by_cases e : k = i
      · rw [if_pos (by unfold rtN; omega), if_pos e]
      · rw [if_neg (by unfold rtN; omega), if_neg e]
        exact hL.rt k (by omega)
    · refine hL.rg n ?_
      exact ((rmv_perm hi).symm.subset) (by simp [hn])
    · rw [W, if_neg (by omega), if_neg (by omega)]
  by_cases hq : (i : Int) = (l.length : Int) - 1
  · have hf : fillT p t (i : Int) ((l.length : Int) - 1) = .done () := by unfold fillT; rw [if_pos hq]
    rw [hf]
    have w1 : ∀ j : Nat, M.wd 0 j = if (j : Int) = p.cnt t + 1 + i then nameW (iN l (l.length - 1)) else M.wd 0 j := fun j => by
      split
      · rename_i e
        have h := hL.rt i hi
        rw [show rtN p t (i : Int) = j by unfold rtN; omega] at h
        rw [h, show l.length - 1 = i by omega]
      · rfl
    obtain ⟨f1, f2⟩ := fin M hG w1
    exact ⟨_, 0 + 1, Runs.bind (Runs.done () M) (Runs.set hG _ (by omega) (by omega)), by omega, hG.done _ _ _ _ _, f1, f2⟩
  · have hf : fillT p t (i : Int) ((l.length : Int) - 1) = (getT (p.retF t ((l.length : Int) - 1))).bind fun x => setT (p.retF t i) x := by unfold fillT; rw [if_neg hq]
    rw [hf]
    have r1 := Runs.get hG (at_ := p.retF t ((l.length : Int) - 1)) (by omega) (by omega)
    have hlast : M.wd 0 (p.retF t ((l.length : Int) - 1)).toNat = nameW (iN l (l.length - 1)) := by
      have h := hL.rt (l.length - 1) (by omega)
      rw [show ((l.length - 1 : Nat) : Int) = (l.length : Int) - 1 by omega] at h
      exact h
    rw [hlast] at r1
    have g1 := hG.done 0 0 (p.retF t ((l.length : Int) - 1)) 0#64 0#64
    have r2 := Runs.set g1 (at_ := p.retF t i) (nameW (iN l (l.length - 1))) (by omega) (by omega)
    have g2 := g1.done 0 1 (p.retF t i) (nameW (iN l (l.length - 1))) 0#64
    have w2 : ∀ j : Nat, ((M.done 0 0 (p.retF t ((l.length : Int) - 1)) 0#64 0#64).done 0 1 (p.retF t i) (nameW (iN l (l.length - 1))) 0#64).wd 0 j = if (j : Int) = p.cnt t + 1 + i then nameW (iN l (l.length - 1)) else M.wd 0 j := fun j => by
      rw [wd_store, wd_load]
      by_cases e1 : (j : Int) = p.cnt t + 1 + i
      · rw [if_pos e1, if_pos (by omega)]
      · rw [if_neg e1, if_neg (by omega)]
    obtain ⟨f1, f2⟩ := fin _ g2 w2
    exact ⟨_, (1 + 1) + 1, Runs.bind (Runs.bind r1 r2) (Runs.set g2 _ (by omega) (by omega)), by omega, g2.done _ _ _ _ _, f1, f2⟩
theorem Runs.bind_of {α β γ : Type} {t : Tr α} {f : α → Tr β} {g : β → Tr γ} {M M2 : MS} {k : Nat} {y : γ} (h : Runs ((t.bind f).bind g) M k M2 y) : Runs (t.bind fun x => (f x).bind g) M k M2 y := by
  have e : ∀ t : Tr α, (t.bind f).bind g = t.bind fun x => (f x).bind g := fun t => by
    induction t with
    | done r => rfl
    | more => rfl
    | ask a k ih => exact congrArg (Tr.ask a) (funext fun x => ih x)
  rw [← e t]
  exact h
theorem scn_run (hp : p.ok) (h0 : 0 ≤ t) (h1 : t < p.t) (hT : T0 ≤ 2000000) (N : Nat) : ∀ (k : Nat) (M : MS) (l out : List Int) (T : Nat) (were : Int), ScIn p t M0 fl0 T0 hd M l out T → k ≤ l.length → out.length + l.length ≤ 1024 →
    ∃ M' T' s, Runs (scnT p t (N + 2) k were (l.length : Int)) M s M' (were - (((scanP (hldB p hd) k l out).1).length : Int)) ∧ s ≤ 60 * k ∧ ScIn p t M0 fl0 T0 hd M' (scanP (hldB p hd) k l out).1 (scanP (hldB p hd) k l out).2 T'
  | 0, M, l, out, T, were, hS, _, _ => ⟨M, T, 0, Runs.done _ _, by omega, hS⟩
  | k + 1, M, l, out, T, were, hS, hk, hb => by
    obtain ⟨q1, q2, q3, q4, q5, q6⟩ := thr_pl hp h0 h1
    have hlr := hS.rt.len
    have eK := q2 (k : Int) (by omega) (by omega)
    have hkl : k < l.length := by omega
    obtain ⟨n, hn⟩ : ∃ n, n = iN l k := ⟨_, rfl⟩
    have hnl : n ∈ l := hn ▸ iN_mem hkl
    have hnr := hS.rt.rg n hnl
    have r1 := Runs.get hS.mg (at_ := p.retF t (k : Int)) (by omega) (by omega)
    have hw : M.wd 0 (p.retF t (k : Int)).toNat = nameW n := hn ▸ hS.rt.rt k hkl
    rw [hw] at r1
    have S1 := hS.same hp h0 h1 (hS.mg.done 0 0 (p.retF t (k : Int)) 0#64 0#64) (wd_load M _ _ _)
    obtain ⟨M2, c, r2, hc, g2, w2⟩ := held_run hp S1.mg S1.hz hnr.1
    have S2 := S1.same hp h0 h1 g2 w2
    have hnm : nmdR p (nameW n) = n := nmdR_nameW hnr.1 hnr.2 hp.1.2
    have hst : stysT p n = hldT p n (p.t * 3 - 1).toNat 0 := by unfold stysT; rw [if_neg (by have := hnr.1; omega)]
    rw [← hst] at r2
    by_cases hh : hldB p hd n = true
    · have e : scanP (hldB p hd) (k + 1) l out = scanP (hldB p hd) k l out := by rw [scanP, ← hn, if_pos hh]
      rw [e]
      rw [hh] at r2
      obtain ⟨M3, T3, s3, r3, hs3, S3⟩ := scn_run hp h0 h1 hT N k M2 l out T were S2 (by omega) hb
      refine ⟨M3, T3, 1 + (c + s3), ?_, by omega, S3⟩
      unfold scnT
      refine Runs.bind r1 ?_
      unfold sc2T
      rw [hnm]
      refine Runs.bind r2 ?_
      unfold sc3T
      rw [if_pos rfl]
      exact r3
    · have hh' : hldB p hd n = false := by simpa using hh
      have e : scanP (hldB p hd) (k + 1) l out = scanP (hldB p hd) k (rmv l k) (out ++ [n]) := by rw [scanP, ← hn, if_neg hh]
      rw [e]
      rw [hh'] at r2
      obtain ⟨M3, k3, r3, hk3, g3, T3, w3⟩ := fill_run hp h0 h1 S2.mg S2.rt hkl
      -- behind fill and the count
      have w3n : ∀ j : Nat, p.nod 0 ≤ j → M3.wd 0 j = M2.wd 0 j := fun j hj => w3 j (.inr (by omega))
      have L3 : FL p M3 (pushL (goneB p M0) fl0 out) T := S2.fl.of g3 (w3 0 (.inl (by omega))) fun m hm => w3n _ (by obtain ⟨_, f2, _, _, _⟩ := node_pl hp hm; have := hm.1; unfold nxN; omega)
      have hno : n ∉ out := fun h => (List.nodup_append.1 hS.nd).2.2 n hnl n h rfl
      have hnst : nst p M3 n = nst p M0 n := by
        obtain ⟨f1, _, _, _, _⟩ := node_pl hp hnr
        have := hnr.1
        unfold nst
        rw [w3n _ (by unfold sdN; omega), S2.st n hnr hno]
      have htt := hS.tt
      obtain ⟨M4, fl4, T4, k4, r4, hk4, R4⟩ := rcl_run hp L3 hnr (hS.nf n hnl) (by omega) N
      have hfl4 := R4.l'
      rw [hnst] at hfl4
      have hpl : fl4 = pushL (goneB p M0) fl0 (out ++ [n]) := by
        rw [hfl4, pushL_snoc]
        unfold goneB
        by_cases hg : (nst p M0 n).m = 3 <;> simp [hg]
      have hT4 := R4.T'
      obtain ⟨e1, e2, e3, e4, e5⟩ := node_pl hp hnr
      have hn0 := hnr.1
      have w4 : ∀ j : Nat, 1 ≤ j → (j : Int) < p.nod 0 → M4.wd 0 j = M3.wd 0 j := fun j a b => R4.ot j (by omega) (by unfold nxN; omega) (by unfold sdN; omega) fun o oa ob => by have := e3 o oa ob; unfold fdN; omega
      have hperm := rmv_perm hkl
      rw [← hn] at hperm
      have S4 : ScIn p t M0 fl0 T0 hd M4 (rmv l k) (out ++ [n]) T4 := by
        refine ⟨R4.hl.mg, T3.of hp h0 h1 fun j a b => w4 j (by omega) (by omega), hpl ▸ R4.hl, ?_, fun m hm => ?_, by simp; omega, fun m hm hmo => ?_, fun m hm => ?_, fun i hi => ?_, fun j a b d => ?_⟩
        · refine (List.Perm.nodup_iff ?_).2 hS.nd
          refine List.Perm.trans ?_ (List.Perm.append_right out hperm.symm)
          rw [← List.append_assoc]
          exact List.perm_append_comm (l₁ := rmv l k ++ out) (l₂ := [n])
        · have hml : m ∈ l := hperm.symm.subset (by simp [hm])
          rw [pushL_snoc]
          have hmn : m ≠ n := fun e => by
            have h := (hperm.nodup_iff).1 (List.nodup_append.1 hS.nd).1
            exact (List.nodup_cons.1 h).1 (e ▸ hm)
          split
          · exact hS.nf m hml
          · intro h
            rcases List.mem_cons.1 h with h | h
            · exact hmn h
            · exact hS.nf m hml h
        · have hmo1 : m ∉ out := fun h => hmo (by simp [h])
          have hmn : m ≠ n := fun e => hmo (by simp [e])
          obtain ⟨f1, _, _, _, _⟩ := node_pl hp hm
          have hm0 := hm.1
          rw [R4.ot _ (by unfold sdN; omega) (by unfold nxN sdN; omega) (by unfold sdN; omega) fun o oa ob => by have := e3 o oa ob; unfold fdN sdN; omega, w3n _ (by unfold sdN; omega)]
          exact S2.st m hm hmo1
        · by_cases hmn : m = n
          · subst hmn
            exact ⟨hnr, by rw [R4.st, hnst], R4.fd⟩
          · have hmo : m ∈ out := by
              rcases List.mem_append.1 hm with h | h
              · exact h
              · exact absurd (by simpa using h) hmn
            obtain ⟨d1, d2, d3⟩ := S2.dn m hmo
            obtain ⟨f1, _, f3, _, _⟩ := node_pl hp d1
            have hm0 := d1.1
            refine ⟨d1, ?_, fun o oa ob => ?_⟩
            · rw [R4.ot _ (by unfold sdN; omega) (by unfold nxN sdN; omega) (by unfold sdN; omega) fun o oa ob => by have := e3 o oa ob; unfold fdN sdN; omega, w3n _ (by unfold sdN; omega)]
              exact d2
            · have fo := f3 o oa ob
              rw [R4.ot _ (by unfold fdN; omega) (by unfold nxN fdN; omega) (by unfold sdN fdN; omega) fun o' oa' ob' => by have := e3 o' oa' ob'; unfold fdN; omega, w3n _ (by unfold fdN; omega)]
              exact d3 o oa ob
        · have hz := hz_pl hp hi
          show M4.wd 0 (hzN p i) = _
          rw [w4 _ hz.1 (by omega), w3 _ (.inl (by omega))]
          exact S2.hz i hi
        · rw [w4 j a b, w3 j d]
          exact S2.ot j a b d
      obtain ⟨M5, T5, s5, r5, hs5, S5⟩ := scn_run hp h0 h1 hT N k M4 (rmv l k) (out ++ [n]) T4 were S4 (by rw [rmv_len]; omega) (by rw [rmv_len]; simp; omega)
      refine ⟨M5, T5, 1 + (c + (k3 + (k4 + s5))), ?_, by omega, S5⟩
      unfold scnT
      refine Runs.bind r1 ?_
      unfold sc2T
      rw [hnm]
      refine Runs.bind r2 ?_
      unfold sc3T
      rw [if_neg (by simp)]
      unfold lv1T lv2T
      refine Runs.bind_of ?_
      refine Runs.bind r3 ?_
      unfold lv3T
      refine Runs.bind r4 ?_
      rw [rmv_len] at r5
      rw [show ((l.length - 1 : Nat) : Int) = (l.length : Int) - 1 by omega] at r5
      exact r5
theorem scan_run (hp : p.ok) (h0 : 0 ≤ t) (h1 : t < p.t) {M : MS} {l fl : List Int} {T : Nat} (hT : T ≤ 2000000) (hG : Mg p M) (hL : RTs p M t l) (hF : FL p M fl T) (hn : l.Nodup) (hnf : ∀ n ∈ l, n ∉ fl) (hh : ∀ i : Nat, (i : Int) < 3 * p.t → hzW p M i = hd i) :
    ∃ M' T' s, Runs (scanT p t 2) M s M' ((l.length : Int) - ((scanP (hldB p hd) l.length l []).1.length : Int)) ∧ s ≤ 100000 ∧ ScIn p t M fl T hd M' (scanP (hldB p hd) l.length l []).1 (scanP (hldB p hd) l.length l []).2 T' := by
  obtain ⟨q1, q2, q3, q4, q5, q6⟩ := thr_pl hp h0 h1
  have hr : p.r ≤ 1024 := by unfold Pl.ok at hp; omega
  have hlr := hL.len
  have r1 := Runs.get hG (at_ := p.cntF t) (by omega) (by omega)
  have hcw : M.wd 0 (p.cntF t).toNat = cntW l.length := hL.cn
  rw [hcw] at r1
  have S0 : ScIn p t M fl T hd M l [] T := ⟨hG, hL, hF, by simpa using hn, hnf, by simp, fun _ _ _ => rfl, fun n hn => by simp at hn, hh, fun _ _ _ _ => rfl⟩
  have S1 := S0.same hp h0 h1 (hG.done 0 0 (p.cntF t) 0#64 0#64) (wd_load M _ _ _)
  obtain ⟨M', T', s, r2, hs, S2⟩ := scn_run hp h0 h1 hT 0 l.length _ l [] T (l.length : Int) S1 (Nat.le_refl _) (by simp; omega)
  refine ⟨M', T', 1 + s, ?_, by omega, S2⟩
  unfold scanT
  refine Runs.bind r1 ?_
  unfold sc1T
  rw [cntR_cntW (by omega) hlr hr]
  exact r2
end
end Go.Proofs.YtlapcocljjgjlaaGreat

/-
  Arguments that are slices of what holds slices, read leaf by leaf. No conditions.
-/
namespace Go.Proofs.YtlapcocljjgjlaaGreat
open Go Go.ChangeShapes Go.WideShapes Go.RowKit

/-- The type of the j-th cell, where that is a leaf of one cell. -/
def leafAt (P : Program) : Nat → TypeId → Nat → Option TypeId
  | 0, _, _ => none
  | f + 1, t, j => match P.underlying t with
    | some (.int _) => if j = 0 then some t else none
    | some .bool => if j = 0 then some t else none
    | some .string => if j = 0 then some t else none
    | some (.slice _) => if j = 0 then some t else none
    | some (.struct fs) => match fs.toList.find? fun x => decide (x.offset ≤ j) && decide (j < x.offset + P.cellsOf x.type) with
      | some x => leafAt P f x.type (j - x.offset)
      | none => none
    | _ => none

section
variable {H : Type} {enc : TypeId × Value → H} {P : Program} {w : World} {base : Nat} {held : Bool}
theorem leaf_trod : ∀ (f : Nat) {t e : TypeId} {j : Nat} {fuel : Nat} {cs : List Value} {x : DataW H × List MemPlace}, leafAt P f t j = some e → DataW.trod enc P w base (fun _ => true) held fuel t cs = some x →
    ∃ v fuel' y, cs[j]? = some v ∧ DataW.trod enc P w base (fun _ => true) held fuel' e [v] = some y
  | 0, t, e, j, fuel, cs, x, hk, h => by cases hk
  | f + 1, t, e, j, fuel, cs, x, hk, h => by
    unfold leafAt at hk
    split at hk
    · rename_i k' hu
      split at hk
      · rename_i hj
        obtain rfl : t = e := by simpa using hk
        subst hj
        obtain ⟨n, rfl, _, hw⟩ := DataW.trod_int hu h
        exact ⟨_, fuel, x, rfl, h⟩
      · cases hk
    · rename_i hu
      split at hk
      · rename_i hj
        obtain rfl : t = e := by simpa using hk
        subst hj
        obtain ⟨b, rfl, _⟩ := DataW.trod_bool hu h
        exact ⟨_, fuel, x, rfl, h⟩
      · cases hk
    · rename_i hu
      split at hk
      · rename_i hj
        obtain rfl : t = e := by simpa using hk
        subst hj
        obtain ⟨s, rfl, _⟩ := DataW.trod_string hu h
        exact ⟨_, fuel, x, rfl, h⟩
      · cases hk
    · rename_i e' hu
      split at hk
      · rename_i hj
        obtain rfl : t = e := by simpa using hk
        subst hj
        rcases Deep.open_slice hu h with ⟨rfl, _⟩ | ⟨a, len', cap', m, n, D, Pl, rfl, _⟩
        · exact ⟨_, fuel, x, rfl, h⟩
        · exact ⟨_, fuel, x, rfl, h⟩
      · cases hk
    · rename_i fs hu
      split at hk
      · rename_i y hy
        have hp := List.find?_some hy
        simp only [Bool.and_eq_true, decide_eq_true_eq] at hp
        obtain ⟨i, hi, hie⟩ := List.getElem_of_mem (List.mem_of_find?_eq_some hy)
        obtain ⟨xs, n', _, _, _, hxl, hfs⟩ := DataW.trod_struct hu h
        have hi' : i < fs.size := by simpa using hi
        have hf := hfs i y (by rw [← Array.getElem?_toList, List.getElem?_eq_getElem hi, hie])
        rw [List.getElem?_eq_getElem (by omega)] at hf
        obtain ⟨n, fuel', z, hn, hw⟩ := leaf_trod f hk hf
        refine ⟨n, fuel', z, ?_, hw⟩
        rw [List.getElem?_take] at hn
        split at hn
        · rw [List.getElem?_drop, show y.offset + (j - y.offset) = j by omega] at hn
          exact hn
        · cases hn
      · cases hk
    · cases hk

/-- The value v is a slice of n records of c leaves; x i j: the j-th of the i-th; its type T j reads there. -/
def Nv (enc : TypeId × Value → H) (P : Program) (base : Nat) (held : Bool) (c : Nat) (T : Nat → TypeId) (w : World) (v : Value) (n : Nat) (x : Nat → Nat → Value) : Prop :=
  ∃ a0 cap, v = .slice a0 n cap ∧ n ≤ cap ∧ (0 < n → ∃ b off, a0 = some ⟨b, off, none⟩ ∧ b < w.heap.size ∧
    ∀ i, i < n → ∀ j, j < c → w.cell? ⟨b, off + i * c + j, none⟩ = some (x i j) ∧ ∃ fuel y, DataW.trod enc P w base (fun _ => true) held fuel (T j) [x i j] = some y)
/-- A slice, of which one cell is known. -/
theorem nv_of_trod1 {t e : TypeId} {v : Value} {fuel : Nat} {y : DataW H × List MemPlace} (c : Nat) (T : Nat → TypeId) (ht : P.underlying t = some (.slice e)) (hc : P.cellsOf e = c) (hpos : 0 < c)
    (hk : ((List.range c).all fun j => decide (leafAt P 6 e j = some (T j))) = true) (hf : DataW.trod enc P w base (fun _ => true) held fuel t [v] = some y) : ∃ n x, Nv enc P base held c T w v n x := by
  have hk' : ∀ j, j < c → leafAt P 6 e j = some (T j) := fun j hj => of_decide_eq_true (List.all_eq_true.1 hk j (List.mem_range.2 hj))
  rcases Deep.open_slice ht hf with ⟨hcs, _⟩ | ⟨a, len, cap, m, n, D, Pl, hcs, _, hl, _, hmm, _, hi⟩
  · simp at hcs
    subst hcs
    exact ⟨0, fun _ _ => .bool false, none, 0, rfl, Nat.le_refl _, fun h => absurd h (Nat.not_lt_zero _)⟩
  · simp at hcs
    subst hcs
    simp at hmm
    have each : ∀ i j, ∃ u : Value, i < len → j < c → w.cell? ((a.add (i * c)).add j) = some u ∧ ∃ fuel y, DataW.trod enc P w base (fun _ => true) held fuel (T j) [u] = some y := fun i j => by
      by_cases hlt : i < len ∧ j < c
      · obtain ⟨cs', hcc, htr⟩ := hi i (by omega)
        rw [hc] at hcc
        obtain ⟨_, hcl, hat⟩ := World.cells?_some hcc
        obtain ⟨u, fuel', z, hy, hw⟩ := leaf_trod 6 (hk' j hlt.2) htr
        refine ⟨u, fun _ _ => ⟨?_, fuel', z, hw⟩⟩
        have h1 := hat j (by omega)
        rw [h1, hy]
      · exact ⟨.bool false, fun h1 h2 => absurd ⟨h1, h2⟩ hlt⟩
    obtain ⟨x, hg⟩ := Classical.axiomOfChoice fun i => Classical.axiomOfChoice (each i)
    by_cases hp : 0 < len
    · have h0 := (hg 0 0 hp hpos).1
      have ha : (a.add (0 * c)).add 0 = a := by unfold Addr.add; simp
      rw [ha] at h0
      have hsp := spot_none' h0
      refine ⟨len, x, some a, cap, rfl, hl, fun _ => ⟨a.block, a.off, by rw [← hsp], World.block_lt_of_cell? w a h0, fun i hi' j hj => ?_⟩⟩
      have h1 := hg i j hi' hj
      rw [hsp, add_at', add_at'] at h1
      exact h1
    · obtain rfl : len = 0 := by omega
      exact ⟨0, fun _ _ => .bool false, some a, cap, rfl, hl, fun h => absurd h (Nat.not_lt_zero _)⟩
theorem nv_of_trod {r : Reach} {b0 : Nat} {t e : TypeId} {v : Value} {d : DataW H} {p : List MemPlace} (c : Nat) (T : Nat → TypeId) (ht : P.underlying t = some (.slice e)) (hc : P.cellsOf e = c) (hpos : 0 < c)
    (hk : ((List.range c).all fun j => decide (leafAt P 6 e j = some (T j))) = true)
    (hv : Value.okWide P w r b0 t v) (h : DataW.Trod enc P w base (fun _ => true) held t v d p) : ∃ n x, Nv enc P base held c T w v n x := by
  obtain ⟨a0, len, cap, rfl⟩ := okWide_slice ht hv
  obtain ⟨fuel, hf⟩ := h
  exact nv_of_trod1 c T ht hc hpos hk (by simpa [Value.cells] using hf)
/-- A leaf that is an integer, a bool. -/
theorem leaf_int {t : TypeId} {k : IntKind} {u : Value} {fuel : Nat} {y : DataW H × List MemPlace} (ht : P.underlying t = some (.int k)) (h : DataW.trod enc P w base (fun _ => true) held fuel t [u] = some y) : ∃ n, u = .int k n ∧ (Lit.int k n).wf = true := by
  obtain ⟨n, hn, _, hw⟩ := DataW.trod_int ht h
  simp at hn
  exact ⟨n, hn, hw⟩
theorem leaf_bool {t : TypeId} {u : Value} {fuel : Nat} {y : DataW H × List MemPlace} (ht : P.underlying t = some .bool) (h : DataW.trod enc P w base (fun _ => true) held fuel t [u] = some y) : ∃ b, u = .bool b := by
  obtain ⟨b, hn, _⟩ := DataW.trod_bool ht h
  simp at hn
  exact ⟨b, hn⟩
/-- A slice of records of integers, of which all leaves are integers. -/
theorem rs_of_nv {c : Nat} {T : Nat → TypeId} {kd : Nat → IntKind} {v : Value} {n : Nat} {x : Nat → Nat → Value} (hT : ∀ j, j < c → P.underlying (T j) = some (.int (kd j))) (h : Nv enc P base held c T w v n x) : ∃ z, Rs c kd w v n z := by
  obtain ⟨a0, cap, e, hc, hr⟩ := h
  by_cases hp : 0 < n
  · obtain ⟨b, off, ea, hb, hcell⟩ := hr hp
    have each : ∀ i j, ∃ z : Int, i < n → j < c → x i j = .int (kd j) z ∧ (Lit.int (kd j) z).wf = true := fun i j => by
      by_cases hlt : i < n ∧ j < c
      · obtain ⟨_, fuel, y, hy⟩ := hcell i hlt.1 j hlt.2
        obtain ⟨z, hz, hw⟩ := leaf_int (hT j hlt.2) hy
        exact ⟨z, fun _ _ => ⟨hz, hw⟩⟩
      · exact ⟨0, fun h1 h2 => absurd ⟨h1, h2⟩ hlt⟩
    obtain ⟨z, hz⟩ := Classical.axiomOfChoice fun i => Classical.axiomOfChoice (each i)
    refine ⟨z, a0, cap, e, hc, fun _ => ⟨b, off, ea, hb, fun i hi j hj => ?_⟩⟩
    rw [(hcell i hi j hj).1, (hz i j hi hj).1]
    exact ⟨rfl, (hz i j hi hj).2⟩
  · exact ⟨fun _ _ => 0, a0, cap, e, hc, fun h => absurd h hp⟩
end
end Go.Proofs.YtlapcocljjgjlaaGreat

/-
  Slices of bools, read as lists, and the opening of such arguments. No conditions.
-/
namespace Go.Proofs.YtlapcocljjgjlaaGreat
open Go Go.ChangeShapes Go.WideShapes Go.RowKit

/-- A slice of bools. -/
def bN (l : List Bool) (i : Nat) : Bool := l.getD i false
def Bs (w : World) (v : Value) (l : List Bool) : Prop :=
  ∃ a0 cap, v = .slice a0 l.length cap ∧ l.length ≤ cap ∧ (0 < l.length → ∃ b off, a0 = some ⟨b, off, none⟩ ∧ b < w.heap.size ∧ ∀ i, i < l.length → w.cell? ⟨b, off + i, none⟩ = some (.bool (bN l i)))
theorem Bs.ext {w w' : World} {v : Value} {l : List Bool} (h : Bs w v l) (hb : Ext w w') : Bs w' v l := by
  obtain ⟨a0, cap, e, hc, hr⟩ := h
  refine ⟨a0, cap, e, hc, fun hl => ?_⟩
  obtain ⟨b, off, ea, hlt, hcell⟩ := hr hl
  exact ⟨b, off, ea, Nat.lt_of_lt_of_le hlt hb.size, fun i hi => ext_cell hb (hcell i hi)⟩
theorem Bs.at {w : World} {a0 : Option Addr} {n cap : Nat} {l : List Bool} (h : Bs w (.slice a0 n cap) l) {i : Nat} (hi : i < l.length) : ∃ b off, a0 = some ⟨b, off, none⟩ ∧ b < w.heap.size ∧ w.cell? ⟨b, off + i, none⟩ = some (.bool (bN l i)) := by
  obtain ⟨a, c, e, _, hr⟩ := h
  simp at e
  obtain ⟨rfl, rfl, rfl⟩ := e
  obtain ⟨b, off, e, hlt, hc⟩ := hr (by omega)
  exact ⟨b, off, e, hlt, hc i hi⟩
section
variable {H : Type} {enc : TypeId × Value → H} {P : Program} {w : World} {base : Nat} {held : Bool}
theorem bs_of_nv {v : Value} {n : Nat} {x : Nat → Nat → Value} {T : Nat → TypeId} (hT : P.underlying (T 0) = some .bool) (h : Nv enc P base held 1 T w v n x) : ∃ l, Bs w v l := by
  obtain ⟨a0, cap, e, hc, hr⟩ := h
  by_cases hp : 0 < n
  · obtain ⟨b, off, ea, hb, hcell⟩ := hr hp
    have each : ∀ i, ∃ z : Bool, i < n → x i 0 = .bool z := fun i => by
      by_cases hlt : i < n
      · obtain ⟨_, fuel, y, hy⟩ := hcell i hlt 0 (by omega)
        obtain ⟨z, hz⟩ := leaf_bool hT hy
        exact ⟨z, fun _ => hz⟩
      · exact ⟨false, fun h1 => absurd h1 hlt⟩
    obtain ⟨z, hz⟩ := Classical.axiomOfChoice each
    refine ⟨(List.range n).map z, a0, cap, by simpa using e, by simpa using hc, fun _ => ⟨b, off, ea, hb, fun i hi => ?_⟩⟩
    have hi' : i < n := by simpa using hi
    have h1 := (hcell i hi' 0 (by omega)).1
    rw [Nat.mul_one, Nat.add_zero, hz i hi'] at h1
    rw [h1]
    unfold bN
    rw [List.getD_eq_getElem?_getD, List.getElem?_map, List.getElem?_range hi']
    rfl
  · have : n = 0 := by omega
    subst this
    exact ⟨[], a0, cap, e, hc, fun h => absurd h (Nat.not_lt_zero _)⟩
theorem bs_of_trod {r : Reach} {b0 : Nat} {t e : TypeId} {v : Value} {d : DataW H} {p : List MemPlace} (ht : P.underlying t = some (.slice e)) (he : P.underlying e = some .bool) (hc : P.cellsOf e = 1)
    (hk : ((List.range 1).all fun j => decide (leafAt P 6 e j = some e)) = true) (hv : Value.okWide P w r b0 t v) (h : DataW.Trod enc P w base (fun _ => true) held t v d p) : ∃ l, Bs w v l := by
  obtain ⟨n, x, hn⟩ := nv_of_trod 1 (fun _ => e) ht hc (by omega) hk hv h
  exact bs_of_nv he hn
end
end Go.Proofs.YtlapcocljjgjlaaGreat

/-
  Rows of bools that a call has made itself, two beside one another. No conditions but those of each theorem.
-/
namespace Go.Proofs.YtlapcocljjgjlaaGreat
open Go Go.RowKit

def bV (l : List Bool) : List Value := l.map fun x => Value.bool x
theorem bV_len (l : List Bool) : (bV l).length = l.length := by simp [bV]
theorem bV_app (a b : List Bool) : bV a ++ bV b = bV (a ++ b) := by simp [bV]
theorem ones_b (l : List Bool) : ∀ u ∈ bV l, u.oneCell' = true := by
  intro u hu
  obtain ⟨i, _, rfl⟩ := List.mem_map.1 hu
  rfl
theorem Tryz.infoBool : (Tryz.prog.info? 4).map (fun i => (i.zero, i.size, i.bytes)) = some (some (.bool false), 1, 1) := by kernel_rfl
theorem bool_info : ∃ i, Tryz.prog.info? 4 = some i ∧ i.zero = some (.bool false) ∧ i.size = 1 ∧ i.bytes = 1 := by
  have h := Tryz.infoBool
  cases hi : Tryz.prog.info? 4 with
  | none => rw [hi] at h; cases h
  | some i =>
    rw [hi] at h
    simp at h
    exact ⟨i, rfl, h.1, h.2.1, h.2.2⟩
theorem bN_get {l : List Bool} {i : Nat} (h : i < l.length) : (bV l)[i]? = some (.bool (bN l i)) := by
  unfold bV bN
  rw [List.getElem?_map, List.getElem?_eq_getElem h, List.getD_eq_getElem?_getD, List.getElem?_eq_getElem h]
  rfl
/-- Two rows that a call has made since W, apart. -/
structure TwoB (W : World) (la lb : List Bool) (va vb : Value) (wr : World) : Prop where
  oa : wr.ownsRow W.heap.size 4 1 va la.length (bV la)
  ob : wr.ownsRow W.heap.size 4 1 vb lb.length (bV lb)
  ne : ∀ g, va.ownBlock = some g → vb.ownBlock ≠ some g
  ex : Ext W wr
theorem own_keepB {w w' : World} {base : Nat} {e : TypeId} {size : Nat} {v : Value} {n : Nat} {xs : List Value} (h : w.ownsRow base e size v n xs) (hk : ∀ g, v.ownBlock = some g → w'.heap[g]? = w.heap[g]?) : w'.ownsRow base e size v n xs := by
  obtain ⟨h1, h2⟩ := h
  refine ⟨h1, ?_⟩
  rcases h2 with h2 | ⟨g, cap, cur, rfl, hg, hh, r⟩
  · exact .inl h2
  · exact .inr ⟨g, cap, cur, rfl, hg, (hk g rfl).trans hh, r⟩
theorem TwoB.nil (W : World) : TwoB W [] [] (.slice none 0 0) (.slice none 0 0) W :=
  ⟨⟨rfl, .inl ⟨rfl, rfl⟩⟩, ⟨rfl, .inl ⟨rfl, rfl⟩⟩, fun g h => (by cases h), ext_refl W⟩
section
variable {W : World} {la lb : List Bool} {va vb v' : Value} {wr wr' : World}
theorem TwoB.swap (h : TwoB W la lb va vb wr) : TwoB W lb la vb va wr := ⟨h.ob, h.oa, fun g h1 h2 => h.ne g h2 h1, h.ex⟩
theorem TwoB.ext (h : TwoB W la lb va vb wr) (hx : Ext wr wr') : TwoB W la lb va vb wr' :=
  ⟨own_keepB h.oa fun g hg => hx.block g (h.oa.lt g hg).2, own_keepB h.ob fun g hg => hx.block g (h.ob.lt g hg).2, h.ne, ext_trans h.ex hx⟩
/-- The first one is made anew. -/
theorem TwoB.new (h : TwoB W la lb va vb wr) (l : List Bool) (b : Nat) (hb : b = wr.heap.size) (hl : l.length ≤ 1000) : TwoB W l lb (.slice (some ⟨b, 0, none⟩) l.length l.length) vb (wr.alloc (.cells (bV l).toArray 4)) := by
  subst hb
  have hx := ext_alloc (.cells (bV l).toArray 4) (ext_refl wr)
  have h' := h.ext hx
  refine ⟨⟨by rw [bV_len, Nat.mul_one], .inr ⟨wr.heap.size, l.length, (bV l).toArray, rfl, h.ex.size, hp_at _ _ _ rfl, Nat.le_refl _, by unfold maxLen; omega, by simp [bV_len], ?_⟩⟩, h'.ob, fun g hg hgb => ?_, h'.ex⟩
  · rw [Nat.mul_one]
    exact List.take_of_length_le (by rw [bV_len]; exact Nat.le_refl _)
  · have := (h.ob.lt g hgb).2
    simp [Value.ownBlock] at hg
    omega
/-- The first one grows. -/
theorem TwoB.grow (h : TwoB W la lb va vb wr) {l : List Bool} (hv : wr'.ownsRow W.heap.size 4 1 v' l.length (bV l)) (hg : wr.grownBy wr' va.ownBlock) (hn : v'.ownBlock = va.ownBlock ∨ ∃ g, v'.ownBlock = some g ∧ wr.heap.size ≤ g) : TwoB W l lb v' vb wr' := by
  refine ⟨hv, own_keepB h.ob fun g hgb => hg.block g (h.ob.lt g hgb).2 fun e => h.ne g e.symm hgb, fun g hga => ?_, ext_own h.ex h.oa hg⟩
  rcases hn with e | ⟨g', e, hle⟩
  · exact h.ne g (e ▸ hga)
  · intro hgb
    have := (h.ob.lt g hgb).2
    rw [e] at hga
    cases hga
    omega
end
/-- An append to the first one. -/
theorem wpList_growB {W u : World} {ops : Array Oper} {rest : List Oper} {o : Oper} {a : Act} {Q : Exit → Act → World → Prop} (hgd : o.guard = none) (s x : Operand)
    (ho : o.op = .call { callee := .builtin .append, args := #[s, x], argTypes := #[25, 25] }) (la lb news : List Bool) (va vb : Value) (h : TwoB W la lb va vb u) (hs : a.eval s = va)
    (ad : Addr) (m c : Nat) (hx : a.eval x = .slice (some ad) m c) (hm : news.length = m) (hnews : ∀ i, i < m → u.cell? (ad.add i) = some (.bool (bN news i))) (hlen : la.length + m ≤ 2000000)
    (hc : ∀ v' w', TwoB W (la ++ news) lb v' vb w' → wpList Tryz.prog ops Q rest (a.put o.dst v') w') : wpList Tryz.prog ops Q (o :: rest) a u := by
  obtain ⟨iB, hi, hz0, hz1, hz2⟩ := bool_info
  refine wpList_append_own_at u hgd s x 25 ho W.heap.size 4 iB (.bool false) 1 1 Tryz.underlying25 hi hz0 hz1 hz2 rfl (by decide) va la.length (bV la) hs h.oa ad m c (bV news) hx (by rw [bV_len, hm, Nat.mul_one]) (fun j y hj => ?_) (ones_b news) (by unfold maxLen; omega) (by omega) h.ex.size ?_
  · have hjl : j < news.length := by
      have := (List.getElem?_eq_some_iff.1 hj).1
      rwa [bV_len] at this
    rw [bN_get hjl] at hj
    cases hj
    exact hnews j (by omega)
  · intro v' w' hv hg _ hat
    rw [bV_app] at hv
    refine hc v' w' (h.grow (by rw [List.length_append, hm]; exact hv) hg ?_)
    rcases hat with e | e
    · exact .inl e
    · exact .inr ⟨_, e, Nat.le_refl _⟩
/-- A row that a call made is read. -/
theorem bs_of_own {w : World} {base : Nat} {v : Value} {l : List Bool} (h : w.ownsRow base 4 1 v l.length (bV l)) : Bs w v l ∧ ∀ g, v.ownBlock = some g → base ≤ g := by
  refine ⟨?_, fun g hg => (h.lt g hg).1⟩
  rcases h.2 with ⟨rfl, h2⟩ | ⟨g, cap, cur, rfl, hg, hh, hc, hm, hs, ht⟩
  · have : l = [] := List.eq_nil_of_length_eq_zero h2
    subst this
    exact ⟨none, 0, rfl, Nat.le_refl _, fun h => absurd h (Nat.not_lt_zero _)⟩
  · refine ⟨_, cap, rfl, hc, fun _ => ⟨g, 0, rfl, hp_lt hh, fun i hi => ?_⟩⟩
    rw [Nat.zero_add]
    refine cell_at hh ?_
    have h3 : (cur.toList.take (l.length * 1))[i]? = (bV l)[i]? := by rw [ht]
    rw [List.getElem?_take, if_pos (by omega), Array.getElem?_toList, bN_get hi] at h3
    exact h3
end Go.Proofs.YtlapcocljjgjlaaGreat

/-
  What stands, in the midst of a law of free: a memory with its list, and a row of the nodes that the law has popped. Conditions: those of each theorem.
-/
namespace Go.Proofs.YtlapcocljjgjlaaGreat
open Go Go.RowKit

/-- The memory, the list l with its tag T, the row v of the nodes mine, the plan's box; w0: the law's begin. -/
structure FIn (p : Pl) (lo hi : Nat) (L : Lay) (base : Nat) (w0 : World) (M : MS) (l : List Int) (T : Nat) (mine : List Int) (v : Value) (wr : World) : Prop where
  m : MemIn lo hi L M wr
  fl : FL p M l T
  ir : IR base v mine wr
  ex : Ext w0 wr
  pb : PBox w0.heap.size p wr
  ap : (mine ++ l).Nodup
  rg : ∀ n ∈ mine, InR p n
  ln : mine.length + l.length = p.n.toNat
  bs : base ≤ wr.heap.size
section
variable {p : Pl} {lo hi : Nat} {L : Lay} {base : Nat} {w0 : World} {M : MS} {l : List Int} {T : Nat} {mine : List Int} {v : Value} {wr wr' : World}
theorem FIn.ext (h : FIn p lo hi L base w0 M l T mine v wr) (hx : Ext wr wr') : FIn p lo hi L base w0 M l T mine v wr' :=
  ⟨h.m.ext hx, h.fl, h.ir.ext hx, ext_trans h.ex hx, h.pb.ext hx, h.ap, h.rg, h.ln, Nat.le_trans h.bs hx.size⟩
theorem FIn.start (hM : MemIn lo hi L M wr) (hF : FL p M (rfr p.n.toNat 0) 0) (hx : Ext w0 wr) (hb : PBox w0.heap.size p wr) : FIn p lo hi L wr.heap.size w0 M (rfr p.n.toNat 0) 0 [] (.slice none 0 0) wr :=
  ⟨hM, hF, IR.nil _ _, hx, hb, by simpa using rfr_nodup _ _, fun _ h => by simp at h, by simp [rfr_len], Nat.le_refl _⟩
theorem FIn.notin (h : FIn p lo hi L base w0 M l T mine v wr) {n : Int} (hn : n ∈ mine) : n ∉ l := fun hl => (List.nodup_append.1 h.ap).2.2 n hn n hl rfl
/-- Behind a run: the memory, the list, the tag are others. -/
theorem FIn.ran {M' : MS} (h : FIn p lo hi L base w0 M l T mine v wr) (hm : MemIn lo hi L M' wr') (hf : Fr lo hi wr wr') (h1 : w0.heap.size < lo) (h2 : hi ≤ base) :
    MemIn lo hi L M' wr' ∧ IR base v mine wr' ∧ Ext w0 wr' ∧ PBox w0.heap.size p wr' ∧ base ≤ wr'.heap.size :=
  ⟨hm, h.ir.fr hf h2, hf.below h.ex (by omega), (hf.block _ (heap_lt h.pb) (.inl h1)).trans h.pb, Nat.le_trans h.bs hf.size⟩
theorem FIn.none {M' : MS} (h : FIn p lo hi L base w0 M [] T mine v wr) (hm : MemIn lo hi L M' wr') (hf : Fr lo hi wr wr') (hF : FL p M' [] T) (h1 : w0.heap.size < lo) (h2 : hi ≤ base) : FIn p lo hi L base w0 M' [] T mine v wr' := by
  obtain ⟨a, b, c, d, e⟩ := h.ran hm hf h1 h2
  exact ⟨a, hF, b, c, d, h.ap, h.rg, h.ln, e⟩
/-- A node is popped, and put to the row. -/
theorem FIn.pop {M' : MS} {n : Int} {l' : List Int} {v' : Value} {wr'' : World} (h : FIn p lo hi L base w0 M (n :: l') T mine v wr) (hm : MemIn lo hi L M' wr') (hf : Fr lo hi wr wr') (hF : FL p M' l' (T + 1)) (h1 : w0.heap.size < lo) (h2 : hi ≤ base) (h3 : w0.heap.size < base)
    (hv : IR base v' (mine ++ [n]) wr'') (u : World) (hu : Ext wr' u) (hg : u.grownBy wr'' v.ownBlock) : FIn p lo hi L base w0 M' l' (T + 1) (mine ++ [n]) v' wr'' := by
  obtain ⟨a, b, c, d, e⟩ := h.ran hm hf h1 h2
  have b' := b.ext hu
  have d' := d.ext hu
  refine ⟨(a.ext hu).keep hg.size fun k _ hk => grown_at b' hg (Nat.lt_of_lt_of_le (Nat.lt_of_lt_of_le hk a.top) hu.size) (by omega), hF, hv, grown_ext (ext_trans c hu) b' hg (by omega), (grown_at b' hg (heap_lt d') h3).trans d', ?_, ?_, ?_, Nat.le_trans e (Nat.le_trans hu.size hg.size)⟩
  · have := h.ap
    rw [List.append_assoc]
    exact this
  · intro k hk
    rcases List.mem_append.1 hk with hk | hk
    · exact h.rg k hk
    · simp at hk
      subst hk
      exact h.fl.rg k (by simp)
  · have := h.ln
    simp at this ⊢
    omega
/-- The first one of the row is pushed; the last one. -/
theorem FIn.pushFirst {M' : MS} {n : Int} {rest : List Int} {v' : Value} (h : FIn p lo hi L base w0 M l T (n :: rest) v wr) (hm : MemIn lo hi L M' wr') (hf : Fr lo hi wr wr') (hF : FL p M' (n :: l) (T + 1)) (h1 : w0.heap.size < lo) (h2 : hi ≤ base) (hv : IR base v' rest wr') :
    FIn p lo hi L base w0 M' (n :: l) (T + 1) rest v' wr' := by
  obtain ⟨a, b, c, d, e⟩ := h.ran hm hf h1 h2
  refine ⟨a, hF, hv, c, d, ?_, fun k hk => h.rg k (by simp [hk]), ?_, e⟩
  · have := h.ap
    exact (List.perm_middle.nodup_iff).2 this
  · have := h.ln
    simp at this ⊢
    omega
theorem FIn.pushLast {M' : MS} {n : Int} {rest : List Int} {v' : Value} (h : FIn p lo hi L base w0 M l T (rest ++ [n]) v wr) (hm : MemIn lo hi L M' wr') (hf : Fr lo hi wr wr') (hF : FL p M' (n :: l) (T + 1)) (h1 : w0.heap.size < lo) (h2 : hi ≤ base) (hv : IR base v' rest wr') :
    FIn p lo hi L base w0 M' (n :: l) (T + 1) rest v' wr' := by
  obtain ⟨a, b, c, d, e⟩ := h.ran hm hf h1 h2
  refine ⟨a, hF, hv, c, d, ?_, fun k hk => h.rg k (by simp [hk]), ?_, e⟩
  · have := h.ap
    rw [List.append_assoc] at this
    exact this
  · have := h.ln
    simp at this ⊢
    omega
end
end Go.Proofs.YtlapcocljjgjlaaGreat
