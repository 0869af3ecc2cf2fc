/-
  A whole Scan, in plain numbers. Conditions: a formed plan; hazards that stay; fewer swaps than a tag can tell.
-/
import Derived.Test.YtlapcocljjgjlaaGreatGbe
namespace Go.Proofs.YtlapcocljjgjlaaGreat
open Go Go.RowKit

/-- The free list behind so many nodes reclaimed, of which some are gone. -/
def pushL (gone : Int → Bool) (fl : List Int) : List Int → List Int
  | [] => fl
  | n :: out => pushL gone (if gone n then fl else n :: fl) out
theorem pushL_snoc (gone : Int → Bool) : ∀ (out fl : List Int) (n : Int), pushL gone fl (out ++ [n]) = if gone n then pushL gone fl out else n :: pushL gone fl out
  | [], fl, n => by
    show pushL gone (if gone n then fl else n :: fl) [] = _
    unfold pushL
    split <;> rfl
  | m :: out, fl, n => pushL_snoc gone out _ n
/-- Is a node gone, when it is freed as it stands? -/
def goneB (p : Pl) (M : MS) (n : Int) : Bool := decide ((nst p M n).m = 3)
/-- In a scan's midst: M0 is where it began. -/
structure ScIn (p : Pl) (t : Int) (M0 : MS) (fl0 : List Int) (T0 : Nat) (hd : Nat → BitVec 64) (M : MS) (l out : List Int) (T : Nat) : Prop where
  mg : Mg p M
  rt : RTs p M t l
  fl : FL p M (pushL (goneB p M0) fl0 out) T
  nd : (l ++ out).Nodup
  nf : ∀ n ∈ l, n ∉ pushL (goneB p M0) fl0 out
  tt : T ≤ T0 + out.length
  st : ∀ n, InR p n → n ∉ out → M.wd 0 (sdN p n) = M0.wd 0 (sdN p n)
  dn : ∀ n ∈ out, InR p n ∧ M.wd 0 (sdN p n) = (nst p M0 n).word ∧ ∀ o, 0 ≤ o → o < 3 → M.wd 0 (fdN p n o) = 0#64
  hz : ∀ i : Nat, (i : Int) < 3 * p.t → hzW p M i = hd i
  ot : ∀ j : Nat, 1 ≤ j → (j : Int) < p.nod 0 → ((j : Int) < p.cnt t ∨ p.cnt t + 1 + p.r ≤ j) → M.wd 0 j = M0.wd 0 j
section
variable {p : Pl} {t : Int} {M0 : MS} {fl0 : List Int} {T0 : Nat} {hd : Nat → BitVec 64}
/-- Nothing that counts has turned. -/
theorem ScIn.same (hp : p.ok) (h0 : 0 ≤ t) (h1 : t < p.t) {M M' : MS} {l out : List Int} {T : Nat} (h : ScIn p t M0 fl0 T0 hd M l out T) (hm : Mg p M') (hs : ∀ j, M'.wd 0 j = M.wd 0 j) : ScIn p t M0 fl0 T0 hd M' l out T :=
  ⟨hm, h.rt.of hp h0 h1 fun j _ _ => hs j, h.fl.same hm hs, h.nd, h.nf, h.tt, fun n a b => (hs _).trans (h.st n a b), fun n hn => ⟨(h.dn n hn).1, (hs _).trans (h.dn n hn).2.1, fun o a b => (hs _).trans ((h.dn n hn).2.2 o a b)⟩, fun i hi => (hs _).trans (h.hz i hi), fun j a b c => (hs j).trans (h.ot j a b c)⟩
/-- The word that fill puts at i: behind fill and the count. -/
theorem fill_run (hp : p.ok) (h0 : 0 ≤ t) (h1 : t < p.t) {M : MS} (hG : Mg p M) {l : List Int} (hL : RTs p M t l) {i : Nat} (hi : i < l.length) :
    ∃ M' k, Runs ((fillT p t (i : Int) ((l.length : Int) - 1)).bind fun _ => setT (p.cntF t) (cntW ((l.length : Int) - 1))) M k M' () ∧ k ≤ 3 ∧ Mg p M' ∧ RTs p M' t (rmv l i) ∧ ∀ j : Nat, ((j : Int) < p.cnt t ∨ p.cnt t + 1 + p.r ≤ j) → M'.wd 0 j = M.wd 0 j := by
  obtain ⟨q1, q2, q3, q4, q5, q6⟩ := thr_pl hp h0 h1
  have hlr := hL.len
  have eI := q2 (i : Int) (by omega) (by omega)
  have eL := q2 ((l.length : Int) - 1) (by omega) (by omega)
  -- what stands behind the count's store
  have fin : ∀ M1 : MS, Mg p M1 → (∀ j : Nat, M1.wd 0 j = if (j : Int) = p.cnt t + 1 + i then nameW (iN l (l.length - 1)) else M.wd 0 j) →
      RTs p (M1.done 0 1 (p.cntF t) (cntW ((l.length : Int) - 1)) 0#64) t (rmv l i) ∧ ∀ j : Nat, ((j : Int) < p.cnt t ∨ p.cnt t + 1 + p.r ≤ j) → (M1.done 0 1 (p.cntF t) (cntW ((l.length : Int) - 1)) 0#64).wd 0 j = M.wd 0 j := fun M1 _ w1 => by
    have W : ∀ j : Nat, (M1.done 0 1 (p.cntF t) (cntW ((l.length : Int) - 1)) 0#64).wd 0 j = if (j : Int) = p.cnt t then cntW ((l.length : Int) - 1) else if (j : Int) = p.cnt t + 1 + i then nameW (iN l (l.length - 1)) else M.wd 0 j := fun j => by
      rw [wd_store, w1]
      by_cases e1 : (j : Int) = p.cnt t
      · rw [if_pos e1, if_pos (by omega)]
      · rw [if_neg e1, if_neg (by omega)]
    refine ⟨⟨by rw [rmv_len]; omega, ?_, fun k hk => ?_, fun n hn => ?_⟩, fun j hj => ?_⟩
    · rw [W, if_pos (by unfold cnN; omega), rmv_len]
      congr 1
      omega
    · rw [rmv_len] at hk
      have eK := q2 (k : Int) (by omega) (by omega)
      rw [W, if_neg (by unfold rtN; omega), rmv_at hi hk]
      by_cases e : k = i
      · rw [if_pos (by unfold rtN; omega), if_pos e]
      · rw [if_neg (by unfold rtN; omega), if_neg e]
        exact hL.rt k (by omega)
    · refine hL.rg n ?_
      exact ((rmv_perm hi).symm.subset) (by simp [hn])
    · rw [W, if_neg (by omega), if_neg (by omega)]
  by_cases hq : (i : Int) = (l.length : Int) - 1
  · have hf : fillT p t (i : Int) ((l.length : Int) - 1) = .done () := by unfold fillT; rw [if_pos hq]
    rw [hf]
    have w1 : ∀ j : Nat, M.wd 0 j = if (j : Int) = p.cnt t + 1 + i then nameW (iN l (l.length - 1)) else M.wd 0 j := fun j => by
      split
      · rename_i e
        have h := hL.rt i hi
        rw [show rtN p t (i : Int) = j by unfold rtN; omega] at h
        rw [h, show l.length - 1 = i by omega]
      · rfl
    obtain ⟨f1, f2⟩ := fin M hG w1
    exact ⟨_, 0 + 1, Runs.bind (Runs.done () M) (Runs.set hG _ (by omega) (by omega)), by omega, hG.done _ _ _ _ _, f1, f2⟩
  · have hf : fillT p t (i : Int) ((l.length : Int) - 1) = (getT (p.retF t ((l.length : Int) - 1))).bind fun x => setT (p.retF t i) x := by unfold fillT; rw [if_neg hq]
    rw [hf]
    have r1 := Runs.get hG (at_ := p.retF t ((l.length : Int) - 1)) (by omega) (by omega)
    have hlast : M.wd 0 (p.retF t ((l.length : Int) - 1)).toNat = nameW (iN l (l.length - 1)) := by
      have h := hL.rt (l.length - 1) (by omega)
      rw [show ((l.length - 1 : Nat) : Int) = (l.length : Int) - 1 by omega] at h
      exact h
    rw [hlast] at r1
    have g1 := hG.done 0 0 (p.retF t ((l.length : Int) - 1)) 0#64 0#64
    have r2 := Runs.set g1 (at_ := p.retF t i) (nameW (iN l (l.length - 1))) (by omega) (by omega)
    have g2 := g1.done 0 1 (p.retF t i) (nameW (iN l (l.length - 1))) 0#64
    have w2 : ∀ j : Nat, ((M.done 0 0 (p.retF t ((l.length : Int) - 1)) 0#64 0#64).done 0 1 (p.retF t i) (nameW (iN l (l.length - 1))) 0#64).wd 0 j = if (j : Int) = p.cnt t + 1 + i then nameW (iN l (l.length - 1)) else M.wd 0 j := fun j => by
      rw [wd_store, wd_load]
      by_cases e1 : (j : Int) = p.cnt t + 1 + i
      · rw [if_pos e1, if_pos (by omega)]
      · rw [if_neg e1, if_neg (by omega)]
    obtain ⟨f1, f2⟩ := fin _ g2 w2
    exact ⟨_, (1 + 1) + 1, Runs.bind (Runs.bind r1 r2) (Runs.set g2 _ (by omega) (by omega)), by omega, g2.done _ _ _ _ _, f1, f2⟩
theorem Runs.bind_of {α β γ : Type} {t : Tr α} {f : α → Tr β} {g : β → Tr γ} {M M2 : MS} {k : Nat} {y : γ} (h : Runs ((t.bind f).bind g) M k M2 y) : Runs (t.bind fun x => (f x).bind g) M k M2 y := by
  have e : ∀ t : Tr α, (t.bind f).bind g = t.bind fun x => (f x).bind g := fun t => by
    induction t with
    | done r => rfl
    | more => rfl
    | ask a k ih => exact congrArg (Tr.ask a) (funext fun x => ih x)
  rw [← e t]
  exact h
theorem scn_run (hp : p.ok) (h0 : 0 ≤ t) (h1 : t < p.t) (hT : T0 ≤ 2000000) (N : Nat) : ∀ (k : Nat) (M : MS) (l out : List Int) (T : Nat) (were : Int), ScIn p t M0 fl0 T0 hd M l out T → k ≤ l.length → out.length + l.length ≤ 1024 →
    ∃ M' T' s, Runs (scnT p t (N + 2) k were (l.length : Int)) M s M' (were - (((scanP (hldB p hd) k l out).1).length : Int)) ∧ s ≤ 60 * k ∧ ScIn p t M0 fl0 T0 hd M' (scanP (hldB p hd) k l out).1 (scanP (hldB p hd) k l out).2 T'
  | 0, M, l, out, T, were, hS, _, _ => ⟨M, T, 0, Runs.done _ _, by omega, hS⟩
  | k + 1, M, l, out, T, were, hS, hk, hb => by
    obtain ⟨q1, q2, q3, q4, q5, q6⟩ := thr_pl hp h0 h1
    have hlr := hS.rt.len
    have eK := q2 (k : Int) (by omega) (by omega)
    have hkl : k < l.length := by omega
    obtain ⟨n, hn⟩ : ∃ n, n = iN l k := ⟨_, rfl⟩
    have hnl : n ∈ l := hn ▸ iN_mem hkl
    have hnr := hS.rt.rg n hnl
    have r1 := Runs.get hS.mg (at_ := p.retF t (k : Int)) (by omega) (by omega)
    have hw : M.wd 0 (p.retF t (k : Int)).toNat = nameW n := hn ▸ hS.rt.rt k hkl
    rw [hw] at r1
    have S1 := hS.same hp h0 h1 (hS.mg.done 0 0 (p.retF t (k : Int)) 0#64 0#64) (wd_load M _ _ _)
    obtain ⟨M2, c, r2, hc, g2, w2⟩ := held_run hp S1.mg S1.hz hnr.1
    have S2 := S1.same hp h0 h1 g2 w2
    have hnm : nmdR p (nameW n) = n := nmdR_nameW hnr.1 hnr.2 hp.1.2
    have hst : stysT p n = hldT p n (p.t * 3 - 1).toNat 0 := by unfold stysT; rw [if_neg (by have := hnr.1; omega)]
    rw [← hst] at r2
    by_cases hh : hldB p hd n = true
    · have e : scanP (hldB p hd) (k + 1) l out = scanP (hldB p hd) k l out := by rw [scanP, ← hn, if_pos hh]
      rw [e]
      rw [hh] at r2
      obtain ⟨M3, T3, s3, r3, hs3, S3⟩ := scn_run hp h0 h1 hT N k M2 l out T were S2 (by omega) hb
      refine ⟨M3, T3, 1 + (c + s3), ?_, by omega, S3⟩
      unfold scnT
      refine Runs.bind r1 ?_
      unfold sc2T
      rw [hnm]
      refine Runs.bind r2 ?_
      unfold sc3T
      rw [if_pos rfl]
      exact r3
    · have hh' : hldB p hd n = false := by simpa using hh
      have e : scanP (hldB p hd) (k + 1) l out = scanP (hldB p hd) k (rmv l k) (out ++ [n]) := by rw [scanP, ← hn, if_neg hh]
      rw [e]
      rw [hh'] at r2
      obtain ⟨M3, k3, r3, hk3, g3, T3, w3⟩ := fill_run hp h0 h1 S2.mg S2.rt hkl
      -- behind fill and the count
      have w3n : ∀ j : Nat, p.nod 0 ≤ j → M3.wd 0 j = M2.wd 0 j := fun j hj => w3 j (.inr (by omega))
      have L3 : FL p M3 (pushL (goneB p M0) fl0 out) T := S2.fl.of g3 (w3 0 (.inl (by omega))) fun m hm => w3n _ (by obtain ⟨_, f2, _, _, _⟩ := node_pl hp hm; have := hm.1; unfold nxN; omega)
      have hno : n ∉ out := fun h => (List.nodup_append.1 hS.nd).2.2 n hnl n h rfl
      have hnst : nst p M3 n = nst p M0 n := by
        obtain ⟨f1, _, _, _, _⟩ := node_pl hp hnr
        have := hnr.1
        unfold nst
        rw [w3n _ (by unfold sdN; omega), S2.st n hnr hno]
      have htt := hS.tt
      obtain ⟨M4, fl4, T4, k4, r4, hk4, R4⟩ := rcl_run hp L3 hnr (hS.nf n hnl) (by omega) N
      have hfl4 := R4.l'
      rw [hnst] at hfl4
      have hpl : fl4 = pushL (goneB p M0) fl0 (out ++ [n]) := by
        rw [hfl4, pushL_snoc]
        unfold goneB
        by_cases hg : (nst p M0 n).m = 3 <;> simp [hg]
      have hT4 := R4.T'
      obtain ⟨e1, e2, e3, e4, e5⟩ := node_pl hp hnr
      have hn0 := hnr.1
      have w4 : ∀ j : Nat, 1 ≤ j → (j : Int) < p.nod 0 → M4.wd 0 j = M3.wd 0 j := fun j a b => R4.ot j (by omega) (by unfold nxN; omega) (by unfold sdN; omega) fun o oa ob => by have := e3 o oa ob; unfold fdN; omega
      have hperm := rmv_perm hkl
      rw [← hn] at hperm
      have S4 : ScIn p t M0 fl0 T0 hd M4 (rmv l k) (out ++ [n]) T4 := by
        refine ⟨R4.hl.mg, T3.of hp h0 h1 fun j a b => w4 j (by omega) (by omega), hpl ▸ R4.hl, ?_, fun m hm => ?_, by simp; omega, fun m hm hmo => ?_, fun m hm => ?_, fun i hi => ?_, fun j a b d => ?_⟩
        · refine (List.Perm.nodup_iff ?_).2 hS.nd
          refine List.Perm.trans ?_ (List.Perm.append_right out hperm.symm)
          rw [← List.append_assoc]
          exact List.perm_append_comm (l₁ := rmv l k ++ out) (l₂ := [n])
        · have hml : m ∈ l := hperm.symm.subset (by simp [hm])
          rw [pushL_snoc]
          have hmn : m ≠ n := fun e => by
            have h := (hperm.nodup_iff).1 (List.nodup_append.1 hS.nd).1
            exact (List.nodup_cons.1 h).1 (e ▸ hm)
          split
          · exact hS.nf m hml
          · intro h
            rcases List.mem_cons.1 h with h | h
            · exact hmn h
            · exact hS.nf m hml h
        · have hmo1 : m ∉ out := fun h => hmo (by simp [h])
          have hmn : m ≠ n := fun e => hmo (by simp [e])
          obtain ⟨f1, _, _, _, _⟩ := node_pl hp hm
          have hm0 := hm.1
          rw [R4.ot _ (by unfold sdN; omega) (by unfold nxN sdN; omega) (by unfold sdN; omega) fun o oa ob => by have := e3 o oa ob; unfold fdN sdN; omega, w3n _ (by unfold sdN; omega)]
          exact S2.st m hm hmo1
        · by_cases hmn : m = n
          · subst hmn
            exact ⟨hnr, by rw [R4.st, hnst], R4.fd⟩
          · have hmo : m ∈ out := by
              rcases List.mem_append.1 hm with h | h
              · exact h
              · exact absurd (by simpa using h) hmn
            obtain ⟨d1, d2, d3⟩ := S2.dn m hmo
            obtain ⟨f1, _, f3, _, _⟩ := node_pl hp d1
            have hm0 := d1.1
            refine ⟨d1, ?_, fun o oa ob => ?_⟩
            · rw [R4.ot _ (by unfold sdN; omega) (by unfold nxN sdN; omega) (by unfold sdN; omega) fun o oa ob => by have := e3 o oa ob; unfold fdN sdN; omega, w3n _ (by unfold sdN; omega)]
              exact d2
            · have fo := f3 o oa ob
              rw [R4.ot _ (by unfold fdN; omega) (by unfold nxN fdN; omega) (by unfold sdN fdN; omega) fun o' oa' ob' => by have := e3 o' oa' ob'; unfold fdN; omega, w3n _ (by unfold fdN; omega)]
              exact d3 o oa ob
        · have hz := hz_pl hp hi
          show M4.wd 0 (hzN p i) = _
          rw [w4 _ hz.1 (by omega), w3 _ (.inl (by omega))]
          exact S2.hz i hi
        · rw [w4 j a b, w3 j d]
          exact S2.ot j a b d
      obtain ⟨M5, T5, s5, r5, hs5, S5⟩ := scn_run hp h0 h1 hT N k M4 (rmv l k) (out ++ [n]) T4 were S4 (by rw [rmv_len]; omega) (by rw [rmv_len]; simp; omega)
      refine ⟨M5, T5, 1 + (c + (k3 + (k4 + s5))), ?_, by omega, S5⟩
      unfold scnT
      refine Runs.bind r1 ?_
      unfold sc2T
      rw [hnm]
      refine Runs.bind r2 ?_
      unfold sc3T
      rw [if_neg (by simp)]
      unfold lv1T lv2T
      refine Runs.bind_of ?_
      refine Runs.bind r3 ?_
      unfold lv3T
      refine Runs.bind r4 ?_
      rw [rmv_len] at r5
      rw [show ((l.length - 1 : Nat) : Int) = (l.length : Int) - 1 by omega] at r5
      exact r5
theorem scan_run (hp : p.ok) (h0 : 0 ≤ t) (h1 : t < p.t) {M : MS} {l fl : List Int} {T : Nat} (hT : T ≤ 2000000) (hG : Mg p M) (hL : RTs p M t l) (hF : FL p M fl T) (hn : l.Nodup) (hnf : ∀ n ∈ l, n ∉ fl) (hh : ∀ i : Nat, (i : Int) < 3 * p.t → hzW p M i = hd i) :
    ∃ M' T' s, Runs (scanT p t 2) M s M' ((l.length : Int) - ((scanP (hldB p hd) l.length l []).1.length : Int)) ∧ s ≤ 100000 ∧ ScIn p t M fl T hd M' (scanP (hldB p hd) l.length l []).1 (scanP (hldB p hd) l.length l []).2 T' := by
  obtain ⟨q1, q2, q3, q4, q5, q6⟩ := thr_pl hp h0 h1
  have hr : p.r ≤ 1024 := by unfold Pl.ok at hp; omega
  have hlr := hL.len
  have r1 := Runs.get hG (at_ := p.cntF t) (by omega) (by omega)
  have hcw : M.wd 0 (p.cntF t).toNat = cntW l.length := hL.cn
  rw [hcw] at r1
  have S0 : ScIn p t M fl T hd M l [] T := ⟨hG, hL, hF, by simpa using hn, hnf, by simp, fun _ _ _ => rfl, fun n hn => by simp at hn, hh, fun _ _ _ _ => rfl⟩
  have S1 := S0.same hp h0 h1 (hG.done 0 0 (p.cntF t) 0#64 0#64) (wd_load M _ _ _)
  obtain ⟨M', T', s, r2, hs, S2⟩ := scn_run hp h0 h1 hT 0 l.length _ l [] T (l.length : Int) S1 (Nat.le_refl _) (by simp; omega)
  refine ⟨M', T', 1 + s, ?_, by omega, S2⟩
  unfold scanT
  refine Runs.bind r1 ?_
  unfold sc1T
  rw [cntR_cntW (by omega) hlr hr]
  exact r2
end
end Go.Proofs.YtlapcocljjgjlaaGreat

/-
  More retired nodes than hazards, in plain numbers; what hazards that are set leave to a thread's retired nodes. Conditions: a formed plan.
-/
namespace Go.Proofs.YtlapcocljjgjlaaGreat
open Go Go.RowKit

theorem heldR_some {x : Nat → BitVec 64} {m : BitVec 64} : ∀ (k i : Nat), (heldR x m k i).1 = true → ∃ j, i ≤ j ∧ j < i + k ∧ x j = m
  | 0, _, h => by simp [heldR] at h
  | k + 1, i, h => by
    rw [heldR] at h
    split at h
    · rename_i hx
      exact ⟨i, Nat.le_refl _, by omega, hx⟩
    · obtain ⟨j, h1, h2, h3⟩ := heldR_some k (i + 1) h
      exact ⟨j, by omega, by omega, h3⟩
/-- If all of so many nodes are held, they are no more than there are hazards. -/
theorem held_few {p : Pl} (hp : p.ok) {hd : Nat → BitVec 64} {l : List Int} (hn : l.Nodup) (hr : ∀ n ∈ l, InR p n) (hh : ∀ n ∈ l, hldB p hd n = true) : (l.length : Int) ≤ 3 * p.t := by
  have ht := hp.2.1
  have h := nodup_len l ((List.range (3 * p.t).toNat).map fun j => nodeI (hd j)) hn fun n hnl => by
    obtain ⟨j, _, h2, h3⟩ := heldR_some _ _ (hh n hnl)
    refine List.mem_map.2 ⟨j, List.mem_range.2 (by omega), ?_⟩
    have hr' := hr n hnl
    rw [h3, node_name hr'.1 (by have := hr'.lt hp; omega)]
  simp at h
  omega
theorem scan_more {p : Pl} (hp : p.ok) {hd : Nat → BitVec 64} {l : List Int} (hn : l.Nodup) (hr : ∀ n ∈ l, InR p n) (hm : 3 * p.t < (l.length : Int)) : (scanP (hldB p hd) l.length l []).1.length + 1 ≤ l.length := by
  have h1 := scanP_len (hldB p hd) l.length l [] (Nat.le_refl _)
  simp only [List.length_nil, Nat.add_zero] at h1
  by_cases h0 : (scanP (hldB p hd) l.length l []).2 = []
  · exfalso
    have h2 := scanP_perm (hldB p hd) l.length l [] (Nat.le_refl _)
    rw [h0, List.append_nil, List.append_nil] at h2
    have h3 := scanP_held (hldB p hd) l.length l [] (Nat.le_refl _) fun i a b => by omega
    have h4 := held_few hp (hd := hd) hn hr fun n hnl => by
      have hm := h2.symm.subset hnl
      obtain ⟨i, hi, rfl⟩ := List.mem_iff_getElem.1 hm
      rw [← iN_eq hi]
      exact h3 i hi
    omega
  · have : 0 < (scanP (hldB p hd) l.length l []).2.length := List.length_pos_iff.2 h0
    omega
/-- Hazards that are set. -/
theorem HzTo.rts {p : Pl} (hp : p.ok) {M M' : MS} {f : Nat → BitVec 64} (h : HzTo p M M' f) {t : Int} (h0 : 0 ≤ t) (h1 : t < p.t) {l : List Int} (hL : RTs p M t l) : RTs p M' t l :=
  hL.of hp h0 h1 fun j a _ => h.ot j fun i hi => by
    obtain ⟨q1, q2, q3, q4, q5, q6⟩ := thr_pl hp h0 h1
    have := hz_pl hp hi
    omega
theorem HzTo.fls {p : Pl} (hp : p.ok) {M M' : MS} {f : Nat → BitVec 64} (h : HzTo p M M' f) {l : List Int} {T : Nat} (hF : FL p M l T) : FL p M' l T :=
  hF.of h.mg (h.ot 0 fun i hi => by have := hz_pl hp hi; omega) fun n hn => h.ot _ fun i hi => by
    have := hz_ne hp hi
    exact fun e => this.2 n hn e.symm
/-- A Put leaves the free list. -/
theorem put_fl {p : Pl} (hp : p.ok) {M M' : MS} (hG : Mg p M') {t : Int} (h0 : 0 ≤ t) (h1 : t < p.t) (h : ∀ j : Nat, ((j : Int) < p.cnt t ∨ p.cnt t + 1 + p.r ≤ j) → M'.wd 0 j = M.wd 0 j) {l : List Int} {T : Nat} (hF : FL p M l T) : FL p M' l T := by
  obtain ⟨q1, q2, q3, q4, q5, q6⟩ := thr_pl hp h0 h1
  refine hF.of hG (h 0 (.inl (by omega))) fun n hn => h _ (.inr ?_)
  obtain ⟨_, f2, _, _, _⟩ := node_pl hp hn
  have := hn.1
  unfold nxN
  omega
theorem rfr_last : ∀ (k : Nat) (j : Int), rfr (k + 1) j = rfr k j ++ [j + k]
  | 0, j => by simp [rfr]
  | k + 1, j => by
    rw [rfr, rfr_last k (j + 1), rfr]
    simp
    omega
/-- A Put where there is room. -/
theorem put_more {p : Pl} (hp : p.ok) {M : MS} (hG : Mg p M) {t : Int} (h0 : 0 ≤ t) (h1 : t < p.t) {l fl : List Int} {T : Nat} (hL : RTs p M t l) (hF : FL p M fl T) {n : Int} (hn : InR p n) (hlt : (l.length : Int) < p.r) :
    ∃ M', Runs (putT p t n) M 3 M' (l.length + 1) ∧ Mg p M' ∧ RTs p M' t (l ++ [n]) ∧ FL p M' fl T ∧ ∀ j : Nat, ((j : Int) < p.cnt t ∨ p.cnt t + 1 + p.r ≤ j) → M'.wd 0 j = M.wd 0 j := by
  have h := put_run hp hG h0 h1 hL hn
  rw [if_neg (by omega)] at h
  obtain ⟨M', r1, r2, r3, r4⟩ := h
  exact ⟨M', r1, r2, r3, put_fl hp r2 h0 h1 r4 hF, r4⟩
end Go.Proofs.YtlapcocljjgjlaaGreat

/-
  What stands in the midst of laws of retire: a memory, thread 0's retired nodes, the free list. Conditions: those of each theorem.
-/
namespace Go.Proofs.YtlapcocljjgjlaaGreat
open Go Go.RowKit

theorem wr3 (i : Nat) (h : i ≤ 1000) : wrap64 ((i / 3 : Nat) : Int) = ((i / 3 : Nat) : Int) := by unfold wrap64; omega
/-- In the midst: the memory, thread 0's retired nodes, the free list. -/
structure MoIn (p : Pl) (lo hi : Nat) (L : Lay) (w : World) (M : MS) (l fl : List Int) (T : Nat) (wr : World) : Prop where
  h : HIn p lo hi L w.heap.size w M wr
  rt : RTs p M 0 l
  fl : FL p M fl T
def MhRel (p : Pl) (lo hi : Nat) (L : Lay) (w : World) (l : List Int) (T : Nat) (m : Nat) (vi : Value) (wr : World) : Prop := ∃ (i : Nat) (M : MS), vi = .int .i64 (i : Int) ∧ i ≤ m ∧ MoIn p lo hi L w M l [] T wr
theorem MoIn.ext {p : Pl} {lo hi : Nat} {L : Lay} {w : World} {M : MS} {l fl : List Int} {T : Nat} {wr wr' : World} (h : MoIn p lo hi L w M l fl T wr) (hx : Ext wr wr') : MoIn p lo hi L w M l fl T wr' := ⟨h.h.ext hx, h.rt, h.fl⟩
end Go.Proofs.YtlapcocljjgjlaaGreat

/-
  The law RetireMore, walked. Conditions: those of each theorem.
-/
namespace Go.Proofs.YtlapcocljjgjlaaGreat
open Go Go.RowKit

set_option maxRecDepth 8000 in
set_option maxHeartbeats 1000000 in
theorem more_nofew (p : Pl) (a : Option Addr) (m cap : Nat) (hf : ¬ (p.few ∧ p.ok)) (w : World) : Calls Tryz.prog 5 #[plV p, .slice a m cap] w (Ret (.bool true) w) := by
  have HFP := Lib.hid hf
  clear hf
  go_enter Tryz.func5, Tryz.ntmps5
  go_wp2_with (first
    | (go_at_call 8; refine (r11wake_any _).mono ?_; rintro e w' hr; obtain ⟨rfl, sA, rfl⟩ := hr.over; clear hr)
    | (go_at_call 9; refine (r11few_any p _ false (hid_no HFP.out)).mono ?_; rintro e w' hr; obtain ⟨rfl, sA, rfl⟩ := hr.over; clear hr))
  go_ret
  exact Ret.mk (by repeat (first | exact ext_refl _ | apply ext_over | apply ext_alloc))
set_option maxRecDepth 8000 in
set_option maxHeartbeats 1000000 in
theorem more_long (p : Pl) (a : Option Addr) (m cap : Nat) (hf : p.few ∧ p.ok) (hm : 60 < m) (w : World) : Calls Tryz.prog 5 #[plV p, .slice a m cap] w (Ret (.bool true) w) := by
  have HFP := Lib.hid hf
  have d1 : decide (60 < (m : Int)) = true := by simp; omega
  clear hf
  go_enter Tryz.func5, Tryz.ntmps5
  go_wp2_with (first
    | (go_at_call 8; refine (r11wake_any _).mono ?_; rintro e w' hr; obtain ⟨rfl, sA, rfl⟩ := hr.over; clear hr)
    | (go_at_call 9; refine (r11few_any p _ true (hid_yes HFP.out)).mono ?_; rintro e w' hr; obtain ⟨rfl, sA, rfl⟩ := hr.over; clear hr))
  go_ret
  exact Ret.mk (by repeat (first | exact ext_refl _ | apply ext_over | apply ext_alloc))
set_option maxRecDepth 8000 in
set_option maxHeartbeats 1000000 in
theorem more_small (p : Pl) (a : Option Addr) (m cap : Nat) (hf : p.few ∧ p.ok) (hm : m ≤ 60) (hn : p.n ≤ 3 * p.t) (w : World) : Calls Tryz.prog 5 #[plV p, .slice a m cap] w (Ret (.bool true) w) := by
  have HFP := Lib.hid hf
  have d1 : decide (60 < (m : Int)) = false := by simp; omega
  have e1 : wrap64 (3 * p.t) = 3 * p.t := by have := hf.2.2.1; unfold wrap64; omega
  have d2 : decide (p.n ≤ 3 * p.t) = true := by simp; omega
  clear hf
  go_enter Tryz.func5, Tryz.ntmps5
  go_wp2_with (first
    | (go_at_call 8; refine (r11wake_any _).mono ?_; rintro e w' hr; obtain ⟨rfl, sA, rfl⟩ := hr.over; clear hr)
    | (go_at_call 9; refine (r11few_any p _ true (hid_yes HFP.out)).mono ?_; rintro e w' hr; obtain ⟨rfl, sA, rfl⟩ := hr.over; clear hr))
  go_ret
  exact Ret.mk (by repeat (first | exact ext_refl _ | apply ext_over | apply ext_alloc))
def MoRel (p : Pl) (lo hi : Nat) (L : Lay) (w : World) (T : Nat) (vi : Value) (wr : World) : Prop := ∃ (k : Nat) (M : MS), vi = .int .i64 (k : Int) ∧ (k : Int) ≤ 3 * p.t + 1 ∧ MoIn p lo hi L w M (rfr k 0) [] T wr
set_option maxRecDepth 8000 in
set_option maxHeartbeats 4000000 in
theorem more_yes (p : Pl) (hf : p.few ∧ p.ok) (hn : 3 * p.t < p.n) (ls : List Int) (v : Value) (w : World) (hls : Is w v ls) (hm : ls.length ≤ 60) : Calls Tryz.prog 5 #[plV p, v] w (Ret (.bool true) w) := by
  have HFP := Lib.hid hf
  have HP := Lib.hid hf.2
  have HX := Lib.hid hls
  obtain ⟨a0, cap, rfl, hcap, hcell⟩ := hls
  clear hcell
  have hpt := hf.2.2.1
  have hpn := hf.2.1
  have hrr : 3 * p.t + 1 ≤ p.r ∧ p.r ≤ 1024 := hf.2.2.2.1
  have e1 : wrap64 (3 * p.t) = 3 * p.t := by unfold wrap64; omega
  have d1 : decide (60 < (ls.length : Int)) = false := by simp; omega
  have d2 : decide (p.n ≤ 3 * p.t) = false := by simp; omega
  clear hf
  have hPop : ∀ W, Calls Tryz.prog 10 #[plV p, .agg #[.int .i64 0, .int .i64 2, .int .i64 0]] W (RetPopd p ⟨0, 2, 0⟩ W) := fun W => popped_any p HP.out ⟨0, 2, 0⟩ W
  replace hPop := Lib.hid hPop
  go_enter Tryz.func5, Tryz.ntmps5
  go_wp2_with (first
    | (go_at_call 8; refine (r11wake_any _).mono ?_; rintro e w' hr; obtain ⟨rfl, sA, rfl⟩ := hr.over; clear hr)
    | (go_at_call 9; refine (r11few_any p _ true (hid_yes HFP.out)).mono ?_; rintro e w' hr; obtain ⟨rfl, sA, rfl⟩ := hr.over; clear hr)
    | (go_at_call 10; refine Hid.out ?_))
  refine Lib.hid ?_
  refine (hPop.out _).mono ?_
  rintro e w1 ⟨lo, hi, L, M, rfl, hM, hPo, hx, hlo⟩
  have hx1 : Ext (w.alloc (.cells #[.int .i64 p.n, .int .i64 p.t, .int .i64 p.r, .int .i64 p.d, .int .i64 p.b, .int .i64 p.g] 23)) w1 := by
    refine ext_trans ?_ hx
    repeat (first | exact ext_refl _ | apply ext_over)
  have hlo1 : w.heap.size < lo := by
    refine Nat.lt_of_lt_of_le ?_ hlo
    refine Nat.lt_of_lt_of_le (m := (w.alloc (.cells #[.int .i64 p.n, .int .i64 p.t, .int .i64 p.r, .int .i64 p.d, .int .i64 p.b, .int .i64 p.g] 23)).heap.size) (by simp) ?_
    first | exact over_size _ _ | exact Nat.le_trans (over_size _ _) (over_size _ _) | exact Nat.le_trans (over_size _ _) (Nat.le_trans (over_size _ _) (over_size _ _))
  have hb0 : PBox w.heap.size p w1 := (hx1.block _ (by simp)).trans (heap_at w _ _ rfl)
  have hhi := hM.top
  have HI := Lib.hid (HIn.mk hM hPo.fl.mg (ext_trans (ext_alloc _ (ext_refl w)) hx1) hb0)
  have HPO := Lib.hid hPo
  clear hM hPo hx hx1 hlo hb0 hPop
  have hfl := HPO.out.fl
  rw [Nat.sub_self] at hfl
  have HS : Hid (MoIn p lo hi L w M (rfr 0 0) [] p.n.toNat w1) := Lib.hid ⟨HI.out, low_rts HP.out HPO.out.low (by omega) (by omega), hfl⟩
  clear hfl HPO HI
  go_wp2
  go_loopw [6] (fun vi wr => MoRel p lo hi L w p.n.toNat vi wr) (fun vi _ => (3 * p.t + 1 - intOf vi).toNat)
  case atStart => exact ⟨0, M, rfl, by omega, HS.out⟩
  case round =>
    clear HS
    obtain ⟨k, M, rfl, hk, hS⟩ := hrel
    have HR := Lib.hid hS
    clear hS
    have ⟨c0, c1, c2, c3, c4, c5, lt⟩ := HR.out.h.pb.plc
    by_cases hlt : (k : Int) ≤ 3 * p.t
    · obtain ⟨M1, r1, g1, t1, f1, _⟩ := put_more HP.out HR.out.h.mg (t := 0) (by omega) (by omega) HR.out.rt HR.out.fl (n := (k : Int)) ⟨by omega, by omega⟩ (by rw [rfr_len]; omega)
      have hsn := rfr_last k 0
      rw [Int.zero_add] at hsn
      rw [← hsn] at t1
      have HR1 := Lib.hid r1
      have HN := Lib.hid (And.intro g1 (And.intro t1 f1))
      have HH := Lib.hid HR.out.h
      clear r1 g1 t1 f1 hsn
      go_wp2_with (go_at_call 13; refine (rput_PT p 0 (k : Int) _ HP.out (by omega) (by omega)).mono ?_; rintro e w2 ⟨v1, F1, rfl, hx2, hp1, hbn1, hsub1⟩; refine Hid.out ?_)
      refine Lib.hid ?_
      have HOF1 := Lib.hid (fun j (hj : F1 j) => (hsub1 j hj).elim (fun h => h.elim) fun h => (.inr (Nat.le_trans HH.out.m.top h) : j < lo ∨ hi ≤ j))
      have HH2 := Lib.hid (HH.out.ext hx2)
      have HP1 := Lib.hid hp1
      have HBN1 := Lib.hid hbn1
      clear hx2 hp1 hbn1 hsub1
      go_wp2_with (go_at_call 14; refine (cap_int HH2.out.m 0 1#64 (by omega) (by rw [HH2.out.mg.n]; omega) (Lib.hid HH2.out.mg.e)).mono ?_; rintro e w3 ⟨rfl, hx3⟩; refine Hid.out ?_)
      refine Lib.hid ?_
      have HH3 := Lib.hid (HH2.out.ext hx3)
      replace HP1 := Lib.hid (HP1.out.agr (Agr.of_ext hx3 HBN1.out))
      replace HBN1 := Lib.hid (HBN1.out.ext hx3.size)
      clear hx3
      go_wp2_with (go_at_call 12; refine (runI_any HR1.out 9 (by omega) (by omega) F1 v1 w3 HP1.out HBN1.out HOF1.out HH3.out.m).mono ?_; rintro e w4 ⟨rfl, hm4, hf4⟩; refine Hid.out ?_)
      refine Lib.hid ?_
      have HI4 : Hid (MoIn p lo hi L w M1 (rfr (k + 1) 0) [] p.n.toNat w4) := Lib.hid ⟨HH3.out.ran hm4 hf4 HN.out.1 (by omega) hlo1, HN.out.2.1, HN.out.2.2⟩
      clear hm4 hf4 HP1 HBN1 HOF1 HR HH HH2 HH3 HR1 HN c0 c1 c2 c3 c4 c5 lt
      go_wp2
      exact ⟨⟨k + 1, M1, by go_num, by omega, HI4.out⟩, by simp [intOf]; omega⟩
    · obtain ⟨l, hl⟩ : ∃ l, Hid (rfr (3 * p.t + 1).toNat 0 = l) := ⟨_, Lib.hid rfl⟩
      have HL := hl
      rw [show k = (3 * p.t + 1).toNat by omega, hl.out] at HR
      have hnlt : 3 * p.t < (k : Int) := by omega
      go_wp2
      clear hlt hnlt hl hk c0 c1 c2 c3 c4 c5 lt
      go_loopw [7] (fun vi wr => MhRel p lo hi L w l p.n.toNat ls.length vi wr) (fun vi _ => (ls.length - intOf vi).toNat)
      case atStart => exact ⟨0, M, rfl, Nat.zero_le _, HR.out⟩
      case round =>
        clear HR
        obtain ⟨i, M, rfl, hi1, hS⟩ := hrel
        have HR := Lib.hid hS
        clear hS
        have ⟨c0, c1, c2, c3, c4, c5, lt⟩ := HR.out.h.pb.plc
        by_cases hlt : i < ls.length
        · have hlt' : (i : Int) < ls.length := by omega
          by_cases hl3 : (i : Int) < 3 * p.t
          · obtain ⟨bb, ofs, rfl, hbl, hcell⟩ := HX.out.at (by omega)
            have d0 := hcell i hlt
            obtain ⟨y, hy⟩ : ∃ y, y = iN ls i := ⟨_, rfl⟩
            rw [← hy] at d0
            replace d0 := ext_cell HR.out.h.ex d0
            have hbl2 := cell_lt d0
            have hbl3 : bb < lo := by omega
            clear hcell hy
            by_cases hy0 : 0 ≤ y
            · by_cases hy1 : y < p.n
              · have dy0 : decide (0 ≤ y) = true := by simp; omega
                have dy1 : decide (y < p.n) = true := by simp; omega
                have hdiv : Int.tdiv (i : Int) 3 = ((i / 3 : Nat) : Int) := by rw [Int.tdiv_eq_ediv_of_nonneg (by omega)]; omega
                have hmod : Int.tmod (i : Int) 3 = ((i % 3 : Nat) : Int) := by rw [Int.tmod_eq_emod_of_nonneg (by omega)]; omega
                have hi3 : ((i / 3 : Nat) : Int) < p.t := by omega
                have hi4 : ((i % 3 : Nat) : Int) < 3 := by omega
                have hS : ∀ W, Calls Tryz.prog 16 #[plV p, .int .i64 ((i / 3 : Nat) : Int), .int .i64 ((i % 3 : Nat) : Int), .int .i64 y] W (RetP (PT kN (setT (p.hazF ((i / 3 : Nat) : Int) ((i % 3 : Nat) : Int)) (nameW y))) noF W) := fun W => hset_PT p _ _ y (by omega) (by omega) W
                have hRn : ∀ (F1 : Nat → Prop) v1 w3, PT kN (setT (p.hazF ((i / 3 : Nat) : Int) ((i % 3 : Nat) : Int)) (nameW y)) F1 v1 w3 → Bnd F1 w3 → (∀ j, F1 j → j < lo ∨ hi ≤ j) → MemIn lo hi L M w3 → _ := fun F1 v1 w3 a b c d => runSetH p HP.out HR.out.h.mg ((i / 3 : Nat) : Int) ((i % 3 : Nat) : Int) (nameW y) (by omega) hi3 (by omega) hi4 F1 v1 w3 a b c d
                replace hS := Lib.hid hS
                replace hRn := Lib.hid hRn
                clear hi3 hi4
                have hw3 : Hid (wrap64 ((i / 3 : Nat) : Int) = ((i / 3 : Nat) : Int)) := Lib.hid (wr3 i (by omega))
                generalize i / 3 = i3 at hdiv hS hRn hw3
                generalize i % 3 = i4 at hmod hS hRn
                go_wp2
                refine wp_region_over (by kernel_rfl) (by kernel_rfl) ?_
                repeat (go_big_quiet_step (fail))
                refine wpQuiet_nil ?_
                intro _ hw'
                obtain ⟨sR, hw''⟩ := hw'
                subst hw''
                have HRa := Lib.hid (HR.out.ext (over_below wr sR))
                clear c0 c1 c2 c3 c4 c5 lt
                replace d0 := ext_cell (over_below wr sR) d0
                replace hbl2 := cell_lt d0
                generalize over wr sR = wa at HRa d0 hbl2 ⊢
                have ⟨c0, c1, c2, c3, c4, c5, lt⟩ := HRa.out.h.pb.plc
                clear e1
                replace hw3 := hw3.out
                go_wp2
                refine wp_region_mix (fun w' => ∃ s, w' = off lo hi wa s) [(0, [0, 1, 2, 3, 4, 5, 6, 7, 8, 10, 11]), (1, [9]), (1, [12]), (1, [13])] (by kernel_rfl) (by kernel_rfl) (off_of ((Fr.refl lo hi wa).drew)) ?_
                simp only [pieces, pickL, List.map_cons, List.map_nil, List.getD_cons_zero, List.getD_cons_succ]
                refine mix_reads ?_
                repeat (go_big_quiet_step (fail))
                refine wpQuiet_nil (mix_acts ?_)
                have HX0 := Lib.hid ((Fr.refl lo hi wa).drew)
                have HH := Lib.hid (HRa.out.h.ext (ext_drew (ext_refl wa)))
                go_wp2_with (go_at_call 16; refine (hS.out _).mono ?_; rintro e w2 ⟨v1, F1, rfl, hx2, hp1, hbn1, hsub1⟩; refine Hid.out ?_)
                refine Lib.hid ?_
                have HOF1 := Lib.hid (fun j (hj : F1 j) => (hsub1 j hj).elim (fun h => h.elim) fun h => (.inr (Nat.le_trans HH.out.m.top h) : j < lo ∨ hi ≤ j))
                have HH2 := Lib.hid (HH.out.ext hx2)
                have HP1 := Lib.hid hp1
                have HBN1 := Lib.hid hbn1
                have HX2 := Lib.hid (HX0.out.ext hx2)
                clear hx2 hp1 hbn1 hsub1
                clear hw3
                go_wp2
                refine mixQ_mk (off_of HX2.out) (mix_acts ?_)
                go_wp2_with (go_at_call 14; refine (cap_int HH2.out.m 0 1#64 (by omega) (by rw [HH2.out.mg.n]; omega) (Lib.hid HH2.out.mg.e)).mono ?_; rintro e w3 ⟨rfl, hx3⟩; refine Hid.out ?_)
                refine Lib.hid ?_
                have HH3 := Lib.hid (HH2.out.ext hx3)
                replace HP1 := Lib.hid (HP1.out.agr (Agr.of_ext hx3 HBN1.out))
                replace HBN1 := Lib.hid (HBN1.out.ext hx3.size)
                have HX3 := Lib.hid (HX2.out.ext hx3)
                clear hx3
                go_wp2
                refine mixQ_mk (off_of HX3.out) (mix_acts ?_)
                go_wp2_with (go_at_call 15; refine (hRn.out F1 v1 w3 HP1.out HBN1.out HOF1.out HH3.out.m).mono ?_; rintro e w4 ⟨M1, rfl, hm4, hf4, hz4⟩; refine Hid.out ?_)
                refine Lib.hid ?_
                have HI4 : Hid (MoIn p lo hi L w M1 l [] p.n.toNat w4) := Lib.hid ⟨HH3.out.ran hm4 hf4 hz4.mg (by omega) hlo1, hz4.rts HP.out (by omega) (by omega) HR.out.rt, hz4.fls HP.out HR.out.fl⟩
                have HX4 := Lib.hid (HX3.out.trans hf4)
                clear hm4 hf4 hz4 HP1 HBN1 HOF1 HX0 HX2 HX3 HH HH2 HH3 hS hRn
                go_wp2
                refine mixQ_mk (off_of HX4.out) (mix_end ?_)
                clear c0 c1 c2 c3 c4 c5 lt d0 HRa HR
                go_wp2
                exact ⟨⟨i + 1, M1, by go_num, by omega, HI4.out⟩, by simp [intOf]; omega⟩
              · have hy2 : p.n ≤ y := by omega
                have dy0 : decide (0 ≤ y) = true := by simp; omega
                have dy1 : decide (y < p.n) = false := by simp; omega
                go_wp2
                refine wp_region_over (by kernel_rfl) (by kernel_rfl) ?_
                repeat (go_big_quiet_step (fail))
                refine wpQuiet_nil ?_
                intro _ hw'
                obtain ⟨sR, hw''⟩ := hw'
                subst hw''
                have HRa := Lib.hid (HR.out.ext (over_below wr sR))
                clear c0 c1 c2 c3 c4 c5 lt d0
                go_wp2
                exact ⟨⟨i + 1, M, by go_num, by omega, HRa.out⟩, by simp [intOf]; omega⟩
            · have hy2 : y < 0 := by omega
              have dy0 : decide (0 ≤ y) = false := by simp; omega
              go_wp2
              refine wp_region_over (by kernel_rfl) (by kernel_rfl) ?_
              repeat (go_big_quiet_step (fail))
              refine wpQuiet_nil ?_
              intro _ hw'
              obtain ⟨sR, hw''⟩ := hw'
              subst hw''
              have HRa := Lib.hid (HR.out.ext (over_below wr sR))
              clear c0 c1 c2 c3 c4 c5 lt d0
              go_wp2
              exact ⟨⟨i + 1, M, by go_num, by omega, HRa.out⟩, by simp [intOf]; omega⟩
          · have hnl3 : 3 * p.t ≤ (i : Int) := by omega
            have hlen : (l.length : Int) = 3 * p.t + 1 := by rw [← HL.out, rfr_len]; omega
            have hnd : l.Nodup := by rw [← HL.out]; exact rfr_nodup _ _
            obtain ⟨M2, T2, s2, r2, hs2, S2⟩ := scan_run (hd := hzW p M) HP.out (t := 0) (by omega) (by omega) (by omega) HR.out.h.mg HR.out.rt HR.out.fl hnd (fun _ _ h => by simp at h) (fun _ _ => rfl)
            have hmo := scan_more HP.out (hd := hzW p M) hnd HR.out.rt.rg (by omega)
            obtain ⟨l1, hl1⟩ : ∃ l1, (scanP (hldB p (hzW p M)) l.length l []).1 = l1 := ⟨_, rfl⟩
            rw [hl1] at r2 S2 hmo
            have HRT := Lib.hid S2.rt
            have HMG := Lib.hid S2.mg
            obtain ⟨kx, hkx⟩ : ∃ kx : Int, kx = (l.length : Int) - (l1.length : Int) := ⟨_, rfl⟩
            rw [← hkx] at r2
            have HR2 := Lib.hid r2
            have dk : decide (1 ≤ kx) = true := by simp; omega
            have hk1 : 1 ≤ kx := by omega
            have hlen1 : (l1.length : Int) = 3 * p.t + 1 - kx := by omega
            replace e1 := Lib.hid e1
            have e5 : Hid (wrap64 (3 * p.t + 1) = 3 * p.t + 1) := Lib.hid (by unfold wrap64; omega)
            have e6 : Hid (wrap64 (3 * p.t + 1 - kx) = 3 * p.t + 1 - kx) := Lib.hid (by unfold wrap64; omega)
            replace hlen1 := Lib.hid hlen1
            have HH := Lib.hid HR.out.h
            clear hlen hnd hmo hl1 S2 r2 hkx HL
            go_wp2_with (go_at_call 17; refine (scan_PT p 0 2 _ HP.out).mono ?_; rintro e w2 ⟨v1, F1, rfl, hx2, hp1, hbn1, hsub1⟩; refine Hid.out ?_)
            refine Lib.hid ?_
            have HOF1 := Lib.hid (fun j (hj : F1 j) => (hsub1 j hj).elim (fun h => h.elim) fun h => (.inr (Nat.le_trans HH.out.m.top h) : j < lo ∨ hi ≤ j))
            have HH2 := Lib.hid (HH.out.ext hx2)
            have HP1 := Lib.hid hp1
            have HBN1 := Lib.hid hbn1
            clear hx2 hp1 hbn1 hsub1
            go_wp2_with (go_at_call 14; refine (cap_int HH2.out.m 0 1#64 (by omega) (by rw [HH2.out.mg.n]; omega) (Lib.hid HH2.out.mg.e)).mono ?_; rintro e w3 ⟨rfl, hx3⟩; refine Hid.out ?_)
            refine Lib.hid ?_
            have HH3 := Lib.hid (HH2.out.ext hx3)
            replace HP1 := Lib.hid (HP1.out.agr (Agr.of_ext hx3 HBN1.out))
            replace HBN1 := Lib.hid (HBN1.out.ext hx3.size)
            clear hx3
            go_wp2_with (go_at_call 12; refine (runI_any HR2.out 100000 (by omega) (by omega) F1 v1 w3 HP1.out HBN1.out HOF1.out HH3.out.m).mono ?_; rintro e w4 ⟨rfl, hm4, hf4⟩; refine Hid.out ?_)
            refine Lib.hid ?_
            have HI4 := Lib.hid (HH3.out.ran hm4 hf4 HMG.out (by omega) hlo1)
            clear hm4 hf4 HP1 HBN1 HOF1 HR HH HH2 HH3 HR2 c0 c1 c2 c3 c4 c5 lt
            have ⟨c0, c1, c2, c3, c4, c5, lt⟩ := HI4.out.pb.plc
            replace e5 := e5.out
            replace e1 := e1.out
            go_wp2
            refine wp_region_mix (fun w' => ∃ s, w' = over w4 s) [(0, [0, 1, 2, 3, 4, 5, 6, 7, 10, 11, 12, 13, 14, 15]), (1, [8]), (0, [9, 16, 17, 18])] (by kernel_rfl) (by kernel_rfl) (over_of (ext_drew (ext_refl w4))) ?_
            simp only [pieces, pickL, List.map_cons, List.map_nil, List.getD_cons_zero, List.getD_cons_succ]
            refine mix_reads ?_
            repeat (go_big_quiet_step (fail))
            refine wpQuiet_nil (mix_acts ?_)
            go_wp2_with (go_at_call 21; refine (rlist_any p HP.out 0 (by omega) (by omega) l1 HMG.out HRT.out HI4.out.m.drew).mono ?_; rintro e w5 ⟨v5, rfl, hv5, hx5⟩; refine Hid.out ?_)
            refine Lib.hid ?_
            obtain ⟨v5a, v5c, rfl⟩ := hv5.slice
            have HX5 := Lib.hid (ext_trans (ext_drew (ext_refl w4)) hx5)
            clear hv5 hx5
            go_wp2
            refine mixQ_mk (over_of HX5.out) (mix_reads ?_)
            repeat (go_big_quiet_step (fail))
            refine wpQuiet_nil (mix_end ?_)
            go_wp2
            go_ret
            exact Ret.bool (by rw [e6.out, hlen1.out]; simp) (ext_trans HI4.out.ex HX5.out)
        · have hnl4 : ls.length ≤ i := by omega
          have hnl5 : ¬ (i : Int) < ls.length := by omega
          have hlen : (l.length : Int) = 3 * p.t + 1 := by rw [← HL.out, rfr_len]; omega
          have hnd : l.Nodup := by rw [← HL.out]; exact rfr_nodup _ _
          obtain ⟨M2, T2, s2, r2, hs2, S2⟩ := scan_run (hd := hzW p M) HP.out (t := 0) (by omega) (by omega) (by omega) HR.out.h.mg HR.out.rt HR.out.fl hnd (fun _ _ h => by simp at h) (fun _ _ => rfl)
          have hmo := scan_more HP.out (hd := hzW p M) hnd HR.out.rt.rg (by omega)
          obtain ⟨l1, hl1⟩ : ∃ l1, (scanP (hldB p (hzW p M)) l.length l []).1 = l1 := ⟨_, rfl⟩
          rw [hl1] at r2 S2 hmo
          have HRT := Lib.hid S2.rt
          have HMG := Lib.hid S2.mg
          obtain ⟨kx, hkx⟩ : ∃ kx : Int, kx = (l.length : Int) - (l1.length : Int) := ⟨_, rfl⟩
          rw [← hkx] at r2
          have HR2 := Lib.hid r2
          have dk : decide (1 ≤ kx) = true := by simp; omega
          have hk1 : 1 ≤ kx := by omega
          have hlen1 : (l1.length : Int) = 3 * p.t + 1 - kx := by omega
          replace e1 := Lib.hid e1
          have e5 : Hid (wrap64 (3 * p.t + 1) = 3 * p.t + 1) := Lib.hid (by unfold wrap64; omega)
          have e6 : Hid (wrap64 (3 * p.t + 1 - kx) = 3 * p.t + 1 - kx) := Lib.hid (by unfold wrap64; omega)
          replace hlen1 := Lib.hid hlen1
          have HH := Lib.hid HR.out.h
          clear hlen hnd hmo hl1 S2 r2 hkx HL
          go_wp2_with (go_at_call 17; refine (scan_PT p 0 2 _ HP.out).mono ?_; rintro e w2 ⟨v1, F1, rfl, hx2, hp1, hbn1, hsub1⟩; refine Hid.out ?_)
          refine Lib.hid ?_
          have HOF1 := Lib.hid (fun j (hj : F1 j) => (hsub1 j hj).elim (fun h => h.elim) fun h => (.inr (Nat.le_trans HH.out.m.top h) : j < lo ∨ hi ≤ j))
          have HH2 := Lib.hid (HH.out.ext hx2)
          have HP1 := Lib.hid hp1
          have HBN1 := Lib.hid hbn1
          clear hx2 hp1 hbn1 hsub1
          go_wp2_with (go_at_call 14; refine (cap_int HH2.out.m 0 1#64 (by omega) (by rw [HH2.out.mg.n]; omega) (Lib.hid HH2.out.mg.e)).mono ?_; rintro e w3 ⟨rfl, hx3⟩; refine Hid.out ?_)
          refine Lib.hid ?_
          have HH3 := Lib.hid (HH2.out.ext hx3)
          replace HP1 := Lib.hid (HP1.out.agr (Agr.of_ext hx3 HBN1.out))
          replace HBN1 := Lib.hid (HBN1.out.ext hx3.size)
          clear hx3
          go_wp2_with (go_at_call 12; refine (runI_any HR2.out 100000 (by omega) (by omega) F1 v1 w3 HP1.out HBN1.out HOF1.out HH3.out.m).mono ?_; rintro e w4 ⟨rfl, hm4, hf4⟩; refine Hid.out ?_)
          refine Lib.hid ?_
          have HI4 := Lib.hid (HH3.out.ran hm4 hf4 HMG.out (by omega) hlo1)
          clear hm4 hf4 HP1 HBN1 HOF1 HR HH HH2 HH3 HR2 c0 c1 c2 c3 c4 c5 lt
          have ⟨c0, c1, c2, c3, c4, c5, lt⟩ := HI4.out.pb.plc
          replace e5 := e5.out
          replace e1 := e1.out
          go_wp2
          refine wp_region_mix (fun w' => ∃ s, w' = over w4 s) [(0, [0, 1, 2, 3, 4, 5, 6, 7, 10, 11, 12, 13, 14, 15]), (1, [8]), (0, [9, 16, 17, 18])] (by kernel_rfl) (by kernel_rfl) (over_of (ext_drew (ext_refl w4))) ?_
          simp only [pieces, pickL, List.map_cons, List.map_nil, List.getD_cons_zero, List.getD_cons_succ]
          refine mix_reads ?_
          repeat (go_big_quiet_step (fail))
          refine wpQuiet_nil (mix_acts ?_)
          go_wp2_with (go_at_call 21; refine (rlist_any p HP.out 0 (by omega) (by omega) l1 HMG.out HRT.out HI4.out.m.drew).mono ?_; rintro e w5 ⟨v5, rfl, hv5, hx5⟩; refine Hid.out ?_)
          refine Lib.hid ?_
          obtain ⟨v5a, v5c, rfl⟩ := hv5.slice
          have HX5 := Lib.hid (ext_trans (ext_drew (ext_refl w4)) hx5)
          clear hv5 hx5
          go_wp2
          refine mixQ_mk (over_of HX5.out) (mix_reads ?_)
          repeat (go_big_quiet_step (fail))
          refine wpQuiet_nil (mix_end ?_)
          go_wp2
          go_ret
          exact Ret.bool (by rw [e6.out, hlen1.out]; simp) (ext_trans HI4.out.ex HX5.out)
end Go.Proofs.YtlapcocljjgjlaaGreat
