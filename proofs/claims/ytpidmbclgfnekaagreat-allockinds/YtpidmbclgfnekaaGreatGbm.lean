/-
  A whole Scan, in plain numbers. Conditions: a formed plan; hazards that stay; fewer swaps than a tag can tell.
-/
import Derived.Test.YtpidmbclgfnekaaGreatGbl
import Derived.Deep.Cut
namespace Go.Proofs.YtpidmbclgfnekaaGreat
open Go Go.RowKit

/-- The free list behind so many nodes reclaimed, of which some are gone. -/
def pushL (gone : Int → Bool) (fl : List Int) : List Int → List Int
  | [] => fl
  | n :: out => pushL gone (if gone n then fl else n :: fl) out
theorem pushL_snoc (gone : Int → Bool) : ∀ (out fl : List Int) (n : Int), pushL gone fl (out ++ [n]) = if gone n then pushL gone fl out else n :: pushL gone fl out
  | [], fl, n => by
    show pushL gone (if gone n then fl else n :: fl) [] = _
    unfold pushL
    split <;> rfl
  | m :: out, fl, n => pushL_snoc gone out _ n
/-- Is a node gone, when it is freed as it stands? -/
def goneB (p : Pl) (M : MS) (n : Int) : Bool := decide ((nst p M n).m = 3)
/-- In a scan's midst: M0 is where it began. -/
structure ScIn (p : Pl) (t : Int) (M0 : MS) (fl0 : List Int) (T0 : Nat) (hd : Nat → BitVec 64) (M : MS) (l out : List Int) (T : Nat) : Prop where
  mg : Mg p M
  rt : RTs p M t l
  fl : FL p M (pushL (goneB p M0) fl0 out) T
  nd : (l ++ out).Nodup
  nf : ∀ n ∈ l, n ∉ pushL (goneB p M0) fl0 out
  tt : T ≤ T0 + out.length
  st : ∀ n, InR p n → n ∉ out → M.wd 0 (sdN p n) = M0.wd 0 (sdN p n)
  dn : ∀ n ∈ out, InR p n ∧ M.wd 0 (sdN p n) = (nst p M0 n).word ∧ ∀ o, 0 ≤ o → o < 3 → M.wd 0 (fdN p n o) = 0#64
  hz : ∀ i : Nat, (i : Int) < 3 * p.t → hzW p M i = hd i
  ot : ∀ j : Nat, 1 ≤ j → (j : Int) < p.nod 0 → ((j : Int) < p.cnt t ∨ p.cnt t + 1 + p.r ≤ j) → M.wd 0 j = M0.wd 0 j
section
variable {p : Pl} {t : Int} {M0 : MS} {fl0 : List Int} {T0 : Nat} {hd : Nat → BitVec 64}
/-- Nothing that counts has turned. -/
theorem ScIn.same (hp : p.ok) (h0 : 0 ≤ t) (h1 : t < p.t) {M M' : MS} {l out : List Int} {T : Nat} (h : ScIn p t M0 fl0 T0 hd M l out T) (hm : Mg p M') (hs : ∀ j, M'.wd 0 j = M.wd 0 j) : ScIn p t M0 fl0 T0 hd M' l out T :=
  ⟨hm, h.rt.of hp h0 h1 fun j _ _ => hs j, h.fl.same hm hs, h.nd, h.nf, h.tt, fun n a b => (hs _).trans (h.st n a b), fun n hn => ⟨(h.dn n hn).1, (hs _).trans (h.dn n hn).2.1, fun o a b => (hs _).trans ((h.dn n hn).2.2 o a b)⟩, fun i hi => (hs _).trans (h.hz i hi), fun j a b c => (hs j).trans (h.ot j a b c)⟩
/-- The word that fill puts at i: behind fill and the count. -/
theorem fill_run (hp : p.ok) (h0 : 0 ≤ t) (h1 : t < p.t) {M : MS} (hG : Mg p M) {l : List Int} (hL : RTs p M t l) {i : Nat} (hi : i < l.length) :
    ∃ M' k, Runs ((fillT p t (i : Int) ((l.length : Int) - 1)).bind fun _ => setT (p.cntF t) (cntW ((l.length : Int) - 1))) M k M' () ∧ k ≤ 3 ∧ Mg p M' ∧ RTs p M' t (rmv l i) ∧ ∀ j : Nat, ((j : Int) < p.cnt t ∨ p.cnt t + 1 + p.r ≤ j) → M'.wd 0 j = M.wd 0 j := by
  obtain ⟨q1, q2, q3, q4, q5, q6⟩ := thr_pl hp h0 h1
  have hlr := hL.len
  have eI := q2 (i : Int) (by omega) (by omega)
  have eL := q2 ((l.length : Int) - 1) (by omega) (by omega)
  -- what stands behind the count's store
  have fin : ∀ M1 : MS, Mg p M1 → (∀ j : Nat, M1.wd 0 j = if (j : Int) = p.cnt t + 1 + i then nameW (iN l (l.length - 1)) else M.wd 0 j) →
      RTs p (M1.done 0 1 (p.cntF t) (cntW ((l.length : Int) - 1)) 0#64) t (rmv l i) ∧ ∀ j : Nat, ((j : Int) < p.cnt t ∨ p.cnt t + 1 + p.r ≤ j) → (M1.done 0 1 (p.cntF t) (cntW ((l.length : Int) - 1)) 0#64).wd 0 j = M.wd 0 j := fun M1 _ w1 => by
    have W : ∀ j : Nat, (M1.done 0 1 (p.cntF t) (cntW ((l.length : Int) - 1)) 0#64).wd 0 j = if (j : Int) = p.cnt t then cntW ((l.length : Int) - 1) else if (j : Int) = p.cnt t + 1 + i then nameW (iN l (l.length - 1)) else M.wd 0 j := fun j => by
      rw [wd_store, w1]
      by_cases e1 : (j : Int) = p.cnt t
      · rw [if_pos e1, if_pos (by omega)]
      · rw [if_neg e1, if_neg (by omega)]
    refine ⟨⟨by rw [rmv_len]; omega, ?_, fun k hk => ?_, fun n hn => ?_⟩, fun j hj => ?_⟩
    · rw [W, if_pos (by unfold cnN; omega), rmv_len]
      congr 1
      omega
    · rw [rmv_len] at hk
      have eK := q2 (k : Int) (by omega) (by omega)
      rw [W, if_neg (by unfold rtN; omega), rmv_at hi hk]
      by_cases e : k = i
      · rw [if_pos (by unfold rtN; omega), if_pos e]
      · rw [if_neg (by unfold rtN; omega), if_neg e]
        exact hL.rt k (by omega)
    · refine hL.rg n ?_
      exact ((rmv_perm hi).symm.subset) (by simp [hn])
    · rw [W, if_neg (by omega), if_neg (by omega)]
  by_cases hq : (i : Int) = (l.length : Int) - 1
  · have hf : fillT p t (i : Int) ((l.length : Int) - 1) = .done () := by unfold fillT; rw [if_pos hq]
    rw [hf]
    have w1 : ∀ j : Nat, M.wd 0 j = if (j : Int) = p.cnt t + 1 + i then nameW (iN l (l.length - 1)) else M.wd 0 j := fun j => by
      split
      · rename_i e
        have h := hL.rt i hi
        rw [show rtN p t (i : Int) = j by unfold rtN; omega] at h
        rw [h, show l.length - 1 = i by omega]
      · rfl
    obtain ⟨f1, f2⟩ := fin M hG w1
    exact ⟨_, 0 + 1, Runs.bind (Runs.done () M) (Runs.set hG _ (by omega) (by omega)), by omega, hG.done _ _ _ _ _, f1, f2⟩
  · have hf : fillT p t (i : Int) ((l.length : Int) - 1) = (getT (p.retF t ((l.length : Int) - 1))).bind fun x => setT (p.retF t i) x := by unfold fillT; rw [if_neg hq]
    rw [hf]
    have r1 := Runs.get hG (at_ := p.retF t ((l.length : Int) - 1)) (by omega) (by omega)
    have hlast : M.wd 0 (p.retF t ((l.length : Int) - 1)).toNat = nameW (iN l (l.length - 1)) := by
      have h := hL.rt (l.length - 1) (by omega)
      rw [show ((l.length - 1 : Nat) : Int) = (l.length : Int) - 1 by omega] at h
      exact h
    rw [hlast] at r1
    have g1 := hG.done 0 0 (p.retF t ((l.length : Int) - 1)) 0#64 0#64
    have r2 := Runs.set g1 (at_ := p.retF t i) (nameW (iN l (l.length - 1))) (by omega) (by omega)
    have g2 := g1.done 0 1 (p.retF t i) (nameW (iN l (l.length - 1))) 0#64
    have w2 : ∀ j : Nat, ((M.done 0 0 (p.retF t ((l.length : Int) - 1)) 0#64 0#64).done 0 1 (p.retF t i) (nameW (iN l (l.length - 1))) 0#64).wd 0 j = if (j : Int) = p.cnt t + 1 + i then nameW (iN l (l.length - 1)) else M.wd 0 j := fun j => by
      rw [wd_store, wd_load]
      by_cases e1 : (j : Int) = p.cnt t + 1 + i
      · rw [if_pos e1, if_pos (by omega)]
      · rw [if_neg e1, if_neg (by omega)]
    obtain ⟨f1, f2⟩ := fin _ g2 w2
    exact ⟨_, (1 + 1) + 1, Runs.bind (Runs.bind r1 r2) (Runs.set g2 _ (by omega) (by omega)), by omega, g2.done _ _ _ _ _, f1, f2⟩
theorem Runs.bind_of {α β γ : Type} {t : Tr α} {f : α → Tr β} {g : β → Tr γ} {M M2 : MS} {k : Nat} {y : γ} (h : Runs ((t.bind f).bind g) M k M2 y) : Runs (t.bind fun x => (f x).bind g) M k M2 y := by
  have e : ∀ t : Tr α, (t.bind f).bind g = t.bind fun x => (f x).bind g := fun t => by
    induction t with
    | done r => rfl
    | more => rfl
    | ask a k ih => exact congrArg (Tr.ask a) (funext fun x => ih x)
  rw [← e t]
  exact h
theorem scn_run (hp : p.ok) (h0 : 0 ≤ t) (h1 : t < p.t) (hT : T0 ≤ 2000000) (N : Nat) : ∀ (k : Nat) (M : MS) (l out : List Int) (T : Nat) (were : Int), ScIn p t M0 fl0 T0 hd M l out T → k ≤ l.length → out.length + l.length ≤ 1024 →
    ∃ M' T' s, Runs (scnT p t (N + 2) k were (l.length : Int)) M s M' (were - (((scanP (hldB p hd) k l out).1).length : Int)) ∧ s ≤ 60 * k ∧ ScIn p t M0 fl0 T0 hd M' (scanP (hldB p hd) k l out).1 (scanP (hldB p hd) k l out).2 T'
  | 0, M, l, out, T, were, hS, _, _ => ⟨M, T, 0, Runs.done _ _, by omega, hS⟩
  | k + 1, M, l, out, T, were, hS, hk, hb => by
    obtain ⟨q1, q2, q3, q4, q5, q6⟩ := thr_pl hp h0 h1
    have hlr := hS.rt.len
    have eK := q2 (k : Int) (by omega) (by omega)
    have hkl : k < l.length := by omega
    obtain ⟨n, hn⟩ : ∃ n, n = iN l k := ⟨_, rfl⟩
    have hnl : n ∈ l := hn ▸ iN_mem hkl
    have hnr := hS.rt.rg n hnl
    have r1 := Runs.get hS.mg (at_ := p.retF t (k : Int)) (by omega) (by omega)
    have hw : M.wd 0 (p.retF t (k : Int)).toNat = nameW n := hn ▸ hS.rt.rt k hkl
    rw [hw] at r1
    have S1 := hS.same hp h0 h1 (hS.mg.done 0 0 (p.retF t (k : Int)) 0#64 0#64) (wd_load M _ _ _)
    obtain ⟨M2, c, r2, hc, g2, w2⟩ := held_run hp S1.mg S1.hz hnr.1
    have S2 := S1.same hp h0 h1 g2 w2
    have hnm : nmdR p (nameW n) = n := nmdR_nameW hnr.1 hnr.2 hp.1.2
    have hst : stysT p n = hldT p n (p.t * 3 - 1).toNat 0 := by unfold stysT; rw [if_neg (by have := hnr.1; omega)]
    rw [← hst] at r2
    by_cases hh : hldB p hd n = true
    · have e : scanP (hldB p hd) (k + 1) l out = scanP (hldB p hd) k l out := by rw [scanP, ← hn, if_pos hh]
      rw [e]
      rw [hh] at r2
      obtain ⟨M3, T3, s3, r3, hs3, S3⟩ := scn_run hp h0 h1 hT N k M2 l out T were S2 (by omega) hb
      refine ⟨M3, T3, 1 + (c + s3), ?_, by omega, S3⟩
      unfold scnT
      refine Runs.bind r1 ?_
      unfold sc2T
      rw [hnm]
      refine Runs.bind r2 ?_
      unfold sc3T
      rw [if_pos rfl]
      exact r3
    · have hh' : hldB p hd n = false := by simpa using hh
      have e : scanP (hldB p hd) (k + 1) l out = scanP (hldB p hd) k (rmv l k) (out ++ [n]) := by rw [scanP, ← hn, if_neg hh]
      rw [e]
      rw [hh'] at r2
      obtain ⟨M3, k3, r3, hk3, g3, T3, w3⟩ := fill_run hp h0 h1 S2.mg S2.rt hkl
      -- behind fill and the count
      have w3n : ∀ j : Nat, p.nod 0 ≤ j → M3.wd 0 j = M2.wd 0 j := fun j hj => w3 j (.inr (by omega))
      have L3 : FL p M3 (pushL (goneB p M0) fl0 out) T := S2.fl.of g3 (w3 0 (.inl (by omega))) fun m hm => w3n _ (by obtain ⟨_, f2, _, _, _⟩ := node_pl hp hm; have := hm.1; unfold nxN; omega)
      have hno : n ∉ out := fun h => (List.nodup_append.1 hS.nd).2.2 n hnl n h rfl
      have hnst : nst p M3 n = nst p M0 n := by
        obtain ⟨f1, _, _, _, _⟩ := node_pl hp hnr
        have := hnr.1
        unfold nst
        rw [w3n _ (by unfold sdN; omega), S2.st n hnr hno]
      have htt := hS.tt
      obtain ⟨M4, fl4, T4, k4, r4, hk4, R4⟩ := rcl_run hp L3 hnr (hS.nf n hnl) (by omega) N
      have hfl4 := R4.l'
      rw [hnst] at hfl4
      have hpl : fl4 = pushL (goneB p M0) fl0 (out ++ [n]) := by
        rw [hfl4, pushL_snoc]
        unfold goneB
        by_cases hg : (nst p M0 n).m = 3 <;> simp [hg]
      have hT4 := R4.T'
      obtain ⟨e1, e2, e3, e4, e5⟩ := node_pl hp hnr
      have hn0 := hnr.1
      have w4 : ∀ j : Nat, 1 ≤ j → (j : Int) < p.nod 0 → M4.wd 0 j = M3.wd 0 j := fun j a b => R4.ot j (by omega) (by unfold nxN; omega) (by unfold sdN; omega) fun o oa ob => by have := e3 o oa ob; unfold fdN; omega
      have hperm := rmv_perm hkl
      rw [← hn] at hperm
      have S4 : ScIn p t M0 fl0 T0 hd M4 (rmv l k) (out ++ [n]) T4 := by
        refine ⟨R4.hl.mg, T3.of hp h0 h1 fun j a b => w4 j (by omega) (by omega), hpl ▸ R4.hl, ?_, fun m hm => ?_, by simp; omega, fun m hm hmo => ?_, fun m hm => ?_, fun i hi => ?_, fun j a b d => ?_⟩
        · refine (List.Perm.nodup_iff ?_).2 hS.nd
          refine List.Perm.trans ?_ (List.Perm.append_right out hperm.symm)
          rw [← List.append_assoc]
          exact List.perm_append_comm (l₁ := rmv l k ++ out) (l₂ := [n])
        · have hml : m ∈ l := hperm.symm.subset (by simp [hm])
          rw [pushL_snoc]
          have hmn : m ≠ n := fun e => by
            have h := (hperm.nodup_iff).1 (List.nodup_append.1 hS.nd).1
            exact (List.nodup_cons.1 h).1 (e ▸ hm)
          split
          · exact hS.nf m hml
          · intro h
            rcases List.mem_cons.1 h with h | h
            · exact hmn h
            · exact hS.nf m hml h
        · have hmo1 : m ∉ out := fun h => hmo (by simp [h])
          have hmn : m ≠ n := fun e => hmo (by simp [e])
          obtain ⟨f1, _, _, _, _⟩ := node_pl hp hm
          have hm0 := hm.1
          rw [R4.ot _ (by unfold sdN; omega) (by unfold nxN sdN; omega) (by unfold sdN; omega) fun o oa ob => by have := e3 o oa ob; unfold fdN sdN; omega, w3n _ (by unfold sdN; omega)]
          exact S2.st m hm hmo1
        · by_cases hmn : m = n
          · subst hmn
            exact ⟨hnr, by rw [R4.st, hnst], R4.fd⟩
          · have hmo : m ∈ out := by
              rcases List.mem_append.1 hm with h | h
              · exact h
              · exact absurd (by simpa using h) hmn
            obtain ⟨d1, d2, d3⟩ := S2.dn m hmo
            obtain ⟨f1, _, f3, _, _⟩ := node_pl hp d1
            have hm0 := d1.1
            refine ⟨d1, ?_, fun o oa ob => ?_⟩
            · rw [R4.ot _ (by unfold sdN; omega) (by unfold nxN sdN; omega) (by unfold sdN; omega) fun o oa ob => by have := e3 o oa ob; unfold fdN sdN; omega, w3n _ (by unfold sdN; omega)]
              exact d2
            · have fo := f3 o oa ob
              rw [R4.ot _ (by unfold fdN; omega) (by unfold nxN fdN; omega) (by unfold sdN fdN; omega) fun o' oa' ob' => by have := e3 o' oa' ob'; unfold fdN; omega, w3n _ (by unfold fdN; omega)]
              exact d3 o oa ob
        · have hz := hz_pl hp hi
          show M4.wd 0 (hzN p i) = _
          rw [w4 _ hz.1 (by omega), w3 _ (.inl (by omega))]
          exact S2.hz i hi
        · rw [w4 j a b, w3 j d]
          exact S2.ot j a b d
      obtain ⟨M5, T5, s5, r5, hs5, S5⟩ := scn_run hp h0 h1 hT N k M4 (rmv l k) (out ++ [n]) T4 were S4 (by rw [rmv_len]; omega) (by rw [rmv_len]; simp; omega)
      refine ⟨M5, T5, 1 + (c + (k3 + (k4 + s5))), ?_, by omega, S5⟩
      unfold scnT
      refine Runs.bind r1 ?_
      unfold sc2T
      rw [hnm]
      refine Runs.bind r2 ?_
      unfold sc3T
      rw [if_neg (by simp)]
      unfold lv1T lv2T
      refine Runs.bind_of ?_
      refine Runs.bind r3 ?_
      unfold lv3T
      refine Runs.bind r4 ?_
      rw [rmv_len] at r5
      rw [show ((l.length - 1 : Nat) : Int) = (l.length : Int) - 1 by omega] at r5
      exact r5
theorem scan_run (hp : p.ok) (h0 : 0 ≤ t) (h1 : t < p.t) {M : MS} {l fl : List Int} {T : Nat} (hT : T ≤ 2000000) (hG : Mg p M) (hL : RTs p M t l) (hF : FL p M fl T) (hn : l.Nodup) (hnf : ∀ n ∈ l, n ∉ fl) (hh : ∀ i : Nat, (i : Int) < 3 * p.t → hzW p M i = hd i) :
    ∃ M' T' s, Runs (scanT p t 2) M s M' ((l.length : Int) - ((scanP (hldB p hd) l.length l []).1.length : Int)) ∧ s ≤ 100000 ∧ ScIn p t M fl T hd M' (scanP (hldB p hd) l.length l []).1 (scanP (hldB p hd) l.length l []).2 T' := by
  obtain ⟨q1, q2, q3, q4, q5, q6⟩ := thr_pl hp h0 h1
  have hr : p.r ≤ 1024 := by unfold Pl.ok at hp; omega
  have hlr := hL.len
  have r1 := Runs.get hG (at_ := p.cntF t) (by omega) (by omega)
  have hcw : M.wd 0 (p.cntF t).toNat = cntW l.length := hL.cn
  rw [hcw] at r1
  have S0 : ScIn p t M fl T hd M l [] T := ⟨hG, hL, hF, by simpa using hn, hnf, by simp, fun _ _ _ => rfl, fun n hn => by simp at hn, hh, fun _ _ _ _ => rfl⟩
  have S1 := S0.same hp h0 h1 (hG.done 0 0 (p.cntF t) 0#64 0#64) (wd_load M _ _ _)
  obtain ⟨M', T', s, r2, hs, S2⟩ := scn_run hp h0 h1 hT 0 l.length _ l [] T (l.length : Int) S1 (Nat.le_refl _) (by simp; omega)
  refine ⟨M', T', 1 + s, ?_, by omega, S2⟩
  unfold scanT
  refine Runs.bind r1 ?_
  unfold sc1T
  rw [cntR_cntW (by omega) hlr hr]
  exact r2
end
end Go.Proofs.YtpidmbclgfnekaaGreat

/-
  More retired nodes than hazards, in plain numbers; what hazards that are set leave to a thread's retired nodes. Conditions: a formed plan.
-/
namespace Go.Proofs.YtpidmbclgfnekaaGreat
open Go Go.RowKit

theorem heldR_some {x : Nat → BitVec 64} {m : BitVec 64} : ∀ (k i : Nat), (heldR x m k i).1 = true → ∃ j, i ≤ j ∧ j < i + k ∧ x j = m
  | 0, _, h => by simp [heldR] at h
  | k + 1, i, h => by
    rw [heldR] at h
    split at h
    · rename_i hx
      exact ⟨i, Nat.le_refl _, by omega, hx⟩
    · obtain ⟨j, h1, h2, h3⟩ := heldR_some k (i + 1) h
      exact ⟨j, by omega, by omega, h3⟩
/-- If all of so many nodes are held, they are no more than there are hazards. -/
theorem held_few {p : Pl} (hp : p.ok) {hd : Nat → BitVec 64} {l : List Int} (hn : l.Nodup) (hr : ∀ n ∈ l, InR p n) (hh : ∀ n ∈ l, hldB p hd n = true) : (l.length : Int) ≤ 3 * p.t := by
  have ht := hp.2.1
  have h := nodup_len l ((List.range (3 * p.t).toNat).map fun j => nodeI (hd j)) hn fun n hnl => by
    obtain ⟨j, _, h2, h3⟩ := heldR_some _ _ (hh n hnl)
    refine List.mem_map.2 ⟨j, List.mem_range.2 (by omega), ?_⟩
    have hr' := hr n hnl
    rw [h3, node_name hr'.1 (by have := hr'.lt hp; omega)]
  simp at h
  omega
theorem scan_more {p : Pl} (hp : p.ok) {hd : Nat → BitVec 64} {l : List Int} (hn : l.Nodup) (hr : ∀ n ∈ l, InR p n) (hm : 3 * p.t < (l.length : Int)) : (scanP (hldB p hd) l.length l []).1.length + 1 ≤ l.length := by
  have h1 := scanP_len (hldB p hd) l.length l [] (Nat.le_refl _)
  simp only [List.length_nil, Nat.add_zero] at h1
  by_cases h0 : (scanP (hldB p hd) l.length l []).2 = []
  · exfalso
    have h2 := scanP_perm (hldB p hd) l.length l [] (Nat.le_refl _)
    rw [h0, List.append_nil, List.append_nil] at h2
    have h3 := scanP_held (hldB p hd) l.length l [] (Nat.le_refl _) fun i a b => by omega
    have h4 := held_few hp (hd := hd) hn hr fun n hnl => by
      have hm := h2.symm.subset hnl
      obtain ⟨i, hi, rfl⟩ := List.mem_iff_getElem.1 hm
      rw [← iN_eq hi]
      exact h3 i hi
    omega
  · have : 0 < (scanP (hldB p hd) l.length l []).2.length := List.length_pos_iff.2 h0
    omega
/-- Hazards that are set. -/
theorem HzTo.rts {p : Pl} (hp : p.ok) {M M' : MS} {f : Nat → BitVec 64} (h : HzTo p M M' f) {t : Int} (h0 : 0 ≤ t) (h1 : t < p.t) {l : List Int} (hL : RTs p M t l) : RTs p M' t l :=
  hL.of hp h0 h1 fun j a _ => h.ot j fun i hi => by
    obtain ⟨q1, q2, q3, q4, q5, q6⟩ := thr_pl hp h0 h1
    have := hz_pl hp hi
    omega
theorem HzTo.fls {p : Pl} (hp : p.ok) {M M' : MS} {f : Nat → BitVec 64} (h : HzTo p M M' f) {l : List Int} {T : Nat} (hF : FL p M l T) : FL p M' l T :=
  hF.of h.mg (h.ot 0 fun i hi => by have := hz_pl hp hi; omega) fun n hn => h.ot _ fun i hi => by
    have := hz_ne hp hi
    exact fun e => this.2 n hn e.symm
/-- A Put leaves the free list. -/
theorem put_fl {p : Pl} (hp : p.ok) {M M' : MS} (hG : Mg p M') {t : Int} (h0 : 0 ≤ t) (h1 : t < p.t) (h : ∀ j : Nat, ((j : Int) < p.cnt t ∨ p.cnt t + 1 + p.r ≤ j) → M'.wd 0 j = M.wd 0 j) {l : List Int} {T : Nat} (hF : FL p M l T) : FL p M' l T := by
  obtain ⟨q1, q2, q3, q4, q5, q6⟩ := thr_pl hp h0 h1
  refine hF.of hG (h 0 (.inl (by omega))) fun n hn => h _ (.inr ?_)
  obtain ⟨_, f2, _, _, _⟩ := node_pl hp hn
  have := hn.1
  unfold nxN
  omega
theorem rfr_last : ∀ (k : Nat) (j : Int), rfr (k + 1) j = rfr k j ++ [j + k]
  | 0, j => by simp [rfr]
  | k + 1, j => by
    rw [rfr, rfr_last k (j + 1), rfr]
    simp
    omega
/-- A Put where there is room. -/
theorem put_more {p : Pl} (hp : p.ok) {M : MS} (hG : Mg p M) {t : Int} (h0 : 0 ≤ t) (h1 : t < p.t) {l fl : List Int} {T : Nat} (hL : RTs p M t l) (hF : FL p M fl T) {n : Int} (hn : InR p n) (hlt : (l.length : Int) < p.r) :
    ∃ M', Runs (putT p t n) M 3 M' (l.length + 1) ∧ Mg p M' ∧ RTs p M' t (l ++ [n]) ∧ FL p M' fl T ∧ ∀ j : Nat, ((j : Int) < p.cnt t ∨ p.cnt t + 1 + p.r ≤ j) → M'.wd 0 j = M.wd 0 j := by
  have h := put_run hp hG h0 h1 hL hn
  rw [if_neg (by omega)] at h
  obtain ⟨M', r1, r2, r3, r4⟩ := h
  exact ⟨M', r1, r2, r3, put_fl hp r2 h0 h1 r4 hF, r4⟩
end Go.Proofs.YtpidmbclgfnekaaGreat

/-
  A Guard in plain numbers: its states, and what each step does. Conditions: a formed plan; a place of the region that is no hazard.
-/
namespace Go.Proofs.YtpidmbclgfnekaaGreat
open Go Go.RowKit

/-- A guard's states: it loads; it stores the hazard; it loads again; it is over. -/
inductive GS : Type
  | ld : GS
  | st (x : BitVec 64) : GS
  | rl (x : BitVec 64) : GS
  | dn (x : BitVec 64) : GS
def gdT (p : Pl) (t s at_ : Int) (sh N : Nat) : GS → Tr (BitVec 64)
  | .ld => grdT p t s at_ sh N
  | .st x => (setT (p.hazF t s) (x >>> sh)).bind fun _ => ldT at_ (gonT p t s at_ sh N) x
  | .rl x => ldT at_ (gonT p t s at_ sh N) x
  | .dn x => .done x
/-- Where it goes with a word. -/
def gnx (sh : Nat) (x : BitVec 64) : GS := if x >>> sh = 0#64 then .dn x else .st x
theorem gon_gnx (p : Pl) (t s at_ : Int) (sh N : Nat) (x : BitVec 64) : gonT p t s at_ sh (N + 1) x = gdT p t s at_ sh N (gnx sh x) := by
  rw [gonT]
  unfold gnx
  split
  · rfl
  · rfl
/-- A step, as the tree says it. -/
def GStep (p : Pl) (t s at_ : Int) (sh : Nat) (M : MS) (N : Nat) (g : GS) (M' : MS) (N' : Nat) (g' : GS) : Prop :=
  ∃ a f, gdT p t s at_ sh N g = .ask a f ∧ DoOk M 0 1#64 a.op a.at_ ∧ M' = M.done 0 a.op a.at_ a.a a.b ∧ f (M.wd (0 : Int).toNat a.at_.toNat) = gdT p t s at_ sh N' g'
theorem runT_gstep {p : Pl} {t s at_ : Int} {sh : Nat} {M M' : MS} {N N' : Nat} {g g' : GS} (h : GStep p t s at_ sh M N g M' N' g') (k : Nat) : runT 0 1#64 (k + 1) (gdT p t s at_ sh N g) M = (runT 0 1#64 k (gdT p t s at_ sh N' g') M').map (fun x => (x.1, x.2.1 + 1, x.2.2)) := by
  obtain ⟨a, f, h1, h2, rfl, h4⟩ := h
  rw [h1, runT, if_pos h2, h4]
/-- What the place's word leads to, in a state that loads. -/
def GS.aft (sh : Nat) (y : BitVec 64) : GS → GS
  | .ld => gnx sh y
  | .st x => .rl x
  | .rl x => if y = x then .dn x else gnx sh y
  | .dn x => .dn x
/-- The access that it asks. -/
def GS.acc (p : Pl) (t s at_ : Int) (sh : Nat) : GS → Acc
  | .st x => stA (p.hazF t s) (x >>> sh)
  | _ => ldA at_
def GS.isDn : GS → Bool
  | .dn _ => true
  | _ => false
/-- The step of a state, whichever. -/
theorem go_g {p : Pl} (hp : p.ok) {M : MS} (hM : Mg p M) {t s at_ : Int} (h0 : 0 ≤ t) (h1 : t < p.t) (h2 : 0 ≤ s) (h3 : s < 3) (ha0 : 0 ≤ at_) (ha1 : at_ < p.sizeF) (sh N : Nat) (g : GS) (hg : g.isDn = false) :
    ∃ N', N ≤ N' ∧ N' ≤ N + 1 ∧ GStep p t s at_ sh M (N + 1) g (M.done 0 (g.acc p t s at_ sh).op (g.acc p t s at_ sh).at_ (g.acc p t s at_ sh).a (g.acc p t s at_ sh).b) N' (g.aft sh (M.wd 0 at_.toNat)) ∧
      (∃ f, gdT p t s at_ sh (N + 1) g = .ask (g.acc p t s at_ sh) f) ∧ DoOk M 0 1#64 (g.acc p t s at_ sh).op (g.acc p t s at_ sh).at_ := by
  have hokL : DoOk M 0 1#64 (ldA at_).op (ldA at_).at_ := hM.ok ha0 ha1 (show (0 : Int) ≤ 0 by omega) (show (0 : Int) ≤ 3 by omega)
  have hokS := haz_ok hp hM h0 h1 h2 h3 (op := 1) (by omega) (by omega)
  cases g with
  | ld => exact ⟨N, Nat.le_refl _, Nat.le_succ _, ⟨_, _, rfl, hokL, rfl, gon_gnx p t s at_ sh N _⟩, ⟨_, rfl⟩, hokL⟩
  | st x => exact ⟨N + 1, Nat.le_succ _, Nat.le_refl _, ⟨_, _, rfl, hokS, rfl, rfl⟩, ⟨_, rfl⟩, hokS⟩
  | rl x =>
    refine ⟨N, Nat.le_refl _, Nat.le_succ _, ⟨_, _, rfl, hokL, rfl, ?_⟩, ⟨_, rfl⟩, hokL⟩
    show (if M.wd 0 at_.toNat = x then Tr.done x else gonT p t s at_ sh (N + 1) (M.wd 0 at_.toNat)) = _
    unfold GS.aft
    by_cases e : M.wd 0 at_.toNat = x
    · simp only [e, if_true]
      rfl
    · simp only [e, if_false]
      exact gon_gnx p t s at_ sh N _
  | dn x => cases hg
/-- What stands for a state: the hazard names the node, once it is stored. -/
def GOk (sh : Nat) (hz : BitVec 64) : GS → Prop
  | .ld => True
  | .st x => x >>> sh ≠ 0#64
  | .rl x => x >>> sh ≠ 0#64 ∧ hz = x >>> sh
  | .dn x => x >>> sh ≠ 0#64 → hz = x >>> sh
theorem gnx_ok (sh : Nat) (hz x : BitVec 64) : GOk sh hz (gnx sh x) := by
  unfold gnx
  split
  · rename_i h
    exact fun h' => (h' h).elim
  · rename_i h
    exact h
/-- What a step does to the words. -/
theorem gst_words {p : Pl} (hp : p.ok) {M : MS} (hM : Mg p M) {t s at_ : Int} (h0 : 0 ≤ t) (h1 : t < p.t) (h2 : 0 ≤ s) (h3 : s < 3) (ha : ∀ i : Nat, (i : Int) < 3 * p.t → at_.toNat ≠ hzN p i) (sh : Nat) (g : GS) :
    HzTo p M (M.done 0 (g.acc p t s at_ sh).op (g.acc p t s at_ sh).at_ (g.acc p t s at_ sh).a (g.acc p t s at_ sh).b) (fun i => match g with | .st x => if i = (3 * t + s).toNat then x >>> sh else hzW p M i | _ => hzW p M i) ∧
    (M.done 0 (g.acc p t s at_ sh).op (g.acc p t s at_ sh).at_ (g.acc p t s at_ sh).a (g.acc p t s at_ sh).b).wd 0 at_.toNat = M.wd 0 at_.toNat := by
  have e := (hazF_eq hp h0 h1 h2 h3).2
  have hld : HzTo p M (M.done 0 0 at_ 0#64 0#64) (fun i => hzW p M i) ∧ (M.done 0 0 at_ 0#64 0#64).wd 0 at_.toNat = M.wd 0 at_.toNat :=
    ⟨⟨hM.done _ _ _ _ _, fun i _ => wd_load M at_ 0#64 0#64 _, fun j _ => wd_load M at_ 0#64 0#64 j⟩, wd_load M at_ 0#64 0#64 _⟩
  cases g with
  | ld => exact hld
  | rl x => exact hld
  | dn x => exact hld
  | st x =>
    refine ⟨⟨hM.done _ _ _ _ _, fun i hi => ?_, fun j hj => ?_⟩, ?_⟩
    · show (M.done 0 1 (p.hazF t s) (x >>> sh) 0#64).wd 0 (hzN p i) = _
      rw [wd_store, e]
      by_cases hi2 : i = (3 * t + s).toNat
      · subst hi2
        simp
      · rw [if_neg fun h => hi2 (hz_inj h)]
        simp only [hi2, if_false]
        rfl
    · show (M.done 0 1 (p.hazF t s) (x >>> sh) 0#64).wd 0 j = _
      rw [wd_store, if_neg (by rw [e]; exact hj _ (by omega))]
    · show (M.done 0 1 (p.hazF t s) (x >>> sh) 0#64).wd 0 at_.toNat = _
      rw [wd_store, if_neg (by rw [e]; exact ha _ (by omega))]
/-- So a state stays in order. -/
theorem gok_step {p : Pl} (hp : p.ok) {M : MS} (hM : Mg p M) {t s at_ : Int} (h0 : 0 ≤ t) (h1 : t < p.t) (h2 : 0 ≤ s) (h3 : s < 3) (ha : ∀ i : Nat, (i : Int) < 3 * p.t → at_.toNat ≠ hzN p i) (sh : Nat) (g : GS) (y : BitVec 64) (hg : GOk sh (hzW p M (3 * t + s).toNat) g) :
    GOk sh (hzW p (M.done 0 (g.acc p t s at_ sh).op (g.acc p t s at_ sh).at_ (g.acc p t s at_ sh).a (g.acc p t s at_ sh).b) (3 * t + s).toNat) (g.aft sh y) := by
  have hw := (gst_words hp hM h0 h1 h2 h3 ha sh g).1.hz (3 * t + s).toNat (by omega)
  rw [hw]
  cases g with
  | ld => exact gnx_ok _ _ _
  | st x => exact ⟨hg, by simp⟩
  | rl x =>
    unfold GS.aft
    simp only
    split
    · exact fun _ => hg.2
    · exact gnx_ok _ _ _
  | dn x => exact hg
/-- How many steps are left at most, where so many times the word may yet be turned. -/
def GS.mu (cur : BitVec 64) (rem : Nat) : GS → Nat
  | .ld => 2 * rem + 3
  | .st x => if cur = x then 2 * rem + 2 else 2 * rem + 4
  | .rl x => if cur = x then 2 * rem + 1 else 2 * rem + 3
  | .dn _ => 0
theorem mu_turn (cur cur' : BitVec 64) (rem : Nat) (g : GS) : g.mu cur' rem ≤ g.mu cur (rem + 1) := by
  cases g <;> simp only [GS.mu] <;> (repeat' split) <;> omega
theorem mu_less (cur : BitVec 64) {rem rem' : Nat} (h : rem' ≤ rem) (g : GS) : g.mu cur rem' ≤ g.mu cur rem := by
  cases g <;> simp only [GS.mu] <;> (repeat' split) <;> omega
theorem mu_gnx (sh : Nat) (cur : BitVec 64) (rem : Nat) : (gnx sh cur).mu cur rem ≤ 2 * rem + 2 := by
  unfold gnx
  split
  · simp [GS.mu]
  · simp [GS.mu]
theorem mu_step (sh : Nat) (cur : BitVec 64) (rem : Nat) (g : GS) (hg : g.isDn = false) : (g.aft sh cur).mu cur rem + 1 ≤ g.mu cur rem := by
  have h := mu_gnx sh cur rem
  cases g with
  | ld =>
    show (gnx sh cur).mu cur rem + 1 ≤ 2 * rem + 3
    omega
  | st x =>
    show (if cur = x then 2 * rem + 1 else 2 * rem + 3) + 1 ≤ (if cur = x then 2 * rem + 2 else 2 * rem + 4)
    split <;> omega
  | rl x =>
    show (if cur = x then GS.dn x else gnx sh cur).mu cur rem + 1 ≤ (if cur = x then 2 * rem + 1 else 2 * rem + 3)
    by_cases e : cur = x
    · rw [if_pos e, if_pos e]
      show 0 + 1 ≤ _
      omega
    · rw [if_neg e, if_neg e]
      omega
  | dn x => cases hg
end Go.Proofs.YtpidmbclgfnekaaGreat

/-
  What the law's awake comes to; runs of Pop and Push, as calls. Conditions: those of each theorem.
-/
namespace Go.Proofs.YtpidmbclgfnekaaGreat
open Go Go.RowKit

theorem p2ok : Pl.ok ⟨2, 1, 4, 0, 1, 1⟩ := by unfold Pl.ok; decide
/-- What a Pop that is run alone comes to. -/
def PopSpec (l : List Int) (T : Nat) (r : Int) (k : Nat) (l' : List Int) (T' : Nat) : Prop := (l = [] ∧ r = -1 ∧ k = 1 ∧ l' = [] ∧ T' = T) ∨ (l = r :: l' ∧ k = 3 ∧ T' = T + 1)
def RetPop (p : Pl) (lo hi : Nat) (L : Lay) (M : MS) (l : List Int) (T : Nat) (w : World) (e : Ending) (w' : World) : Prop :=
  ∃ M' r k l' T', e = .returned (.tuple #[.int .i64 r, .int .i64 ((k : Nat) : Int), .bool true]) ∧ MemIn lo hi L M' w' ∧ Fr lo hi w w' ∧ FL p M' l' T' ∧ PopSpec l T r k l' T' ∧ Keeps p M T M' T' none
theorem runPop {lo hi : Nat} {L : Lay} {M : MS} (p : Pl) (hp : p.ok) (l : List Int) (T : Nat) (hT : T < 8796093022207) (F : Nat → Prop) (v : Value) (w : World) (hL : FL p M l T) (hP : PT kI (popT p 3) F v w) (hF : Bnd F w) (hO : ∀ j, F j → j < lo ∨ hi ≤ j) (hM : MemIn lo hi L M w) :
    Calls Tryz.prog 19 #[v, .pointer (some ⟨L.bm, 0, none⟩), .agg #[.int .i64 0, .int .u64 (U 1#64)], .int .i64 9] w (RetPop p lo hi L M l T w) := by
  cases l with
  | nil =>
    obtain ⟨M', h1, h2, h3⟩ := pop_none hp hL 2 8
    exact (run_I (popT p 3) F v 0 1#64 9 w _ (by omega) h1 hP hF hO hM).mono fun e w' ⟨g1, g2, g3⟩ => ⟨M', -1, 1, [], T, g1, g2, g3, h2, .inl ⟨rfl, rfl, rfl, rfl, rfl⟩, h3⟩
  | cons n l =>
    obtain ⟨M', h1, h2, h3⟩ := pop_some hp hL hT 1 6
    exact (run_I (popT p 3) F v 0 1#64 9 w _ (by omega) h1 hP hF hO hM).mono fun e w' ⟨g1, g2, g3⟩ => ⟨M', n, 3, l, T + 1, g1, g2, g3, h2, .inr ⟨rfl, rfl, rfl⟩, h3⟩
def RetPush (p : Pl) (lo hi : Nat) (L : Lay) (M : MS) (n : Int) (l : List Int) (T : Nat) (w : World) (e : Ending) (w' : World) : Prop :=
  ∃ M', e = .returned (.tuple #[.int .i64 n, .int .i64 3, .bool true]) ∧ MemIn lo hi L M' w' ∧ Fr lo hi w w' ∧ FL p M' (n :: l) (T + 1) ∧ Keeps p M T M' (T + 1) (some n)
theorem runPush {lo hi : Nat} {L : Lay} {M : MS} (p : Pl) (hp : p.ok) (n : Int) (hn : InR p n) (l : List Int) (hnl : n ∉ l) (T : Nat) (hT : T < 8796093022207) (F : Nat → Prop) (v : Value) (w : World) (hL : FL p M l T) (hP : PT kI (pushT p n 3) F v w) (hF : Bnd F w) (hO : ∀ j, F j → j < lo ∨ hi ≤ j) (hM : MemIn lo hi L M w) :
    Calls Tryz.prog 19 #[v, .pointer (some ⟨L.bm, 0, none⟩), .agg #[.int .i64 0, .int .u64 (U 1#64)], .int .i64 9] w (RetPush p lo hi L M n l T w) := by
  obtain ⟨M', h1, h2, h3⟩ := push_run hp hL hT hn hnl 1 6
  exact (run_I (pushT p n 3) F v 0 1#64 9 w _ (by omega) h1 hP hF hO hM).mono fun e w' ⟨g1, g2, g3⟩ => ⟨M', g1, g2, g3, h2, h3⟩
end Go.Proofs.YtpidmbclgfnekaaGreat

/-
  What the calls of Step and Over come to (B). Conditions: those of each theorem.
-/
namespace Go.Proofs.YtpidmbclgfnekaaGreat
open Go Go.RowKit

theorem over_B (t : Tr (Bool)) (F : Nat → Prop) (v : Value) (w : World) (hP : PT kB t F v w) (y : Bool) (b : Bool) (hy : Hid (ansT kB t = .bool y)) (hb : Hid (ovT t = b)) : Calls Tryz.prog 163 #[v] w (Ret (.tuple #[.bool y, .bool b]) w) := by
  rw [← hb.out, ← hy.out]
  cases t with
  | done x => cases hP; exact overYB x _ _ _ _ w
  | ask a f => obtain ⟨g, caps, rfl, _⟩ := hP; exact ovnB a _ _ _ w
  | more => obtain ⟨a, g, caps, rfl, _⟩ := hP; exact ovnB a _ _ _ w
theorem ans_B (t : Tr (Bool)) : ∃ y, ansT kB t = .bool y := by
  cases t with
  | done x => exact ⟨_, rfl⟩
  | ask a f => exact ⟨_, rfl⟩
  | more => exact ⟨_, rfl⟩
end Go.Proofs.YtpidmbclgfnekaaGreat

/-
  What the calls of Run come to (B). Conditions: those of each theorem.
-/
namespace Go.Proofs.YtpidmbclgfnekaaGreat
open Go Go.RowKit

structure RunN_B (lo hi : Nat) (L : Lay) (r : Int) (e : BitVec 64) (x : MS × Nat × Tr (Bool)) (m : Nat) (B : Nat) (w : World) (n : Nat) (t : Tr (Bool)) (M : MS) (v : Value) (F : Nat → Prop) (wr : World) : Prop where
  km : n ≤ m
  res : ∃ y, runT r e (m - n) t M = some y ∧ x = (y.1, y.2.1 + n, y.2.2)
  p : PT kB t F v wr
  bnd : Bnd F wr
  off : ∀ j, F j → (j < lo ∨ hi ≤ j) ∧ j ≠ B
  mem : MemIn lo hi L M wr
  fr : Fr lo hi w wr
  box : ∃ (y : Bool) (a : Acc) (fn : Value), v = .agg #[.bool y, .int .i64 a.op, .int .i64 a.at_, .int .u64 (U a.a), .int .u64 (U a.b), fn, .pointer none] ∧ (fn = .nilFunc ∨ ∃ g caps, fn = .func (.func g) #[] caps) ∧ wr.heap[B]? = some (.cells #[.bool y, .int .i64 a.op, .int .i64 a.at_, .int .u64 (U a.a), .int .u64 (U a.b), fn, .pointer none] 205)
  cap : wr.heap[B + 1]? = some (.cells #[.int .i64 r, .int .u64 (U e)] 49)
def RunL_B (lo hi : Nat) (L : Lay) (r : Int) (e : BitVec 64) (x : MS × Nat × Tr (Bool)) (m : Nat) (B : Nat) (w : World) (i : Value) (wr : World) : Prop :=
  ∃ (n : Nat) (t : Tr (Bool)) (M : MS) (v : Value) (F : Nat → Prop), i = .int .i64 (n : Int) ∧ RunN_B lo hi L r e x m B w n t M v F wr
end Go.Proofs.YtpidmbclgfnekaaGreat

/-
  What the laws of hazard share: their awake and fits, runs of Set, Clear and Held as calls, what a word names, the reference's Held, and what stands in the midst of a law. Conditions: those of each theorem.
-/
namespace Go.Proofs.YtpidmbclgfnekaaGreat
open Go Go.RowKit

/-! Runs. -/
def RetSetH (p : Pl) (lo hi : Nat) (L : Lay) (M : MS) (i : Nat) (x : BitVec 64) (w : World) (e : Ending) (w' : World) : Prop :=
  ∃ M', e = .returned (.tuple #[.agg #[], .int .i64 1, .bool true]) ∧ MemIn lo hi L M' w' ∧ Fr lo hi w w' ∧ HzTo p M M' (fun j => if j = i then x else hzW p M j)
theorem runSetH {lo hi : Nat} {L : Lay} {M : MS} (p : Pl) (hp : p.ok) (hG : Mg p M) (t s : Int) (x : BitVec 64) (h0 : 0 ≤ t) (h1 : t < p.t) (h2 : 0 ≤ s) (h3 : s < 3) (F : Nat → Prop) (v : Value) (w : World) (hP : PT kN (setT (p.hazF t s) x) F v w) (hF : Bnd F w) (hO : ∀ j, F j → j < lo ∨ hi ≤ j) (hM : MemIn lo hi L M w) :
    Calls Tryz.prog 29 #[v, .pointer (some ⟨L.bm, 0, none⟩), .agg #[.int .i64 0, .int .u64 (U 1#64)], .int .i64 9] w (RetSetH p lo hi L M (3 * t + s).toNat x w) := by
  obtain ⟨M', r1, r2⟩ := set_run hp hG x h0 h1 h2 h3 8
  exact (run_N (setT (p.hazF t s) x) F v 0 1#64 9 w _ (by omega) r1 hP hF hO hM).mono fun e w' ⟨g1, g2, g3⟩ => ⟨M', g1, g2, g3, r2⟩
def RetClrH (p : Pl) (lo hi : Nat) (L : Lay) (M : MS) (t : Int) (w : World) (e : Ending) (w' : World) : Prop :=
  ∃ M', e = .returned (.tuple #[.agg #[], .int .i64 3, .bool true]) ∧ MemIn lo hi L M' w' ∧ Fr lo hi w w' ∧ HzTo p M M' (fun i => if (3 * t).toNat ≤ i ∧ i < (3 * t + 3).toNat then 0#64 else hzW p M i)
theorem runClrH {lo hi : Nat} {L : Lay} {M : MS} (p : Pl) (hp : p.ok) (hG : Mg p M) (t : Int) (h0 : 0 ≤ t) (h1 : t < p.t) (F : Nat → Prop) (v : Value) (w : World) (hP : PT kN (clrT p t 3 0) F v w) (hF : Bnd F w) (hO : ∀ j, F j → j < lo ∨ hi ≤ j) (hM : MemIn lo hi L M w) :
    Calls Tryz.prog 29 #[v, .pointer (some ⟨L.bm, 0, none⟩), .agg #[.int .i64 0, .int .u64 (U 1#64)], .int .i64 9] w (RetClrH p lo hi L M t w) := by
  obtain ⟨M', r1, r2⟩ := clr_run hp h0 h1 3 0 M 6 (by omega) (by omega) hG
  rw [Int.add_zero] at r2
  exact (run_N (clrT p t 3 0) F v 0 1#64 9 w _ (by omega) r1 hP hF hO hM).mono fun e w' ⟨g1, g2, g3⟩ => ⟨M', g1, g2, g3, r2⟩
def RetHldH (p : Pl) (lo hi : Nat) (L : Lay) (M : MS) (n : Int) (w : World) (e : Ending) (w' : World) : Prop :=
  ∃ (M' : MS) (b : Bool) (c : Nat), e = .returned (.tuple #[.bool b, .int .i64 (c : Int), .bool true]) ∧ MemIn lo hi L M' w' ∧ Fr lo hi w w' ∧ (Mg p M' ∧ ∀ j, M'.wd 0 j = M.wd 0 j) ∧ heldR (hzW p M) (nameW n) (3 * p.t).toNat 0 = (b, c)
/-! In the midst of a law: the memory, the plan's box B. -/
structure HIn (p : Pl) (lo hi : Nat) (L : Lay) (B : Nat) (w0 : World) (M : MS) (wr : World) : Prop where
  m : MemIn lo hi L M wr
  mg : Mg p M
  ex : Ext w0 wr
  pb : PBox B p wr
section
variable {p : Pl} {lo hi : Nat} {L : Lay} {B : Nat} {w0 : World} {M M' : MS} {wr wr' : World}
theorem HIn.ext (h : HIn p lo hi L B w0 M wr) (hx : Ext wr wr') : HIn p lo hi L B w0 M wr' := ⟨h.m.ext hx, h.mg, ext_trans h.ex hx, h.pb.ext hx⟩
theorem HIn.ran (h : HIn p lo hi L B w0 M wr) (hm : MemIn lo hi L M' wr') (hf : Fr lo hi wr wr') (hG : Mg p M') (h1 : w0.heap.size ≤ lo) (h2 : B < lo) : HIn p lo hi L B w0 M' wr' :=
  ⟨hm, hG, hf.below h.ex h1, (hf.block _ (heap_lt h.pb) (.inl h2)).trans h.pb⟩
end
theorem h64 (n : Nat) (h : n ≤ 2000000) : wrap64 ((n : Int) + 1) = ((n + 1 : Nat) : Int) := by
  unfold wrap64
  omega
theorem p2nm : nameW 1 ≠ 0#64 := nameW_ne0 (by omega) (by omega)

/-- What fits asks. -/
def FitsP (p : Pl) (t s n : Int) : Prop := p.few ∧ p.ok ∧ 0 ≤ t ∧ t < p.t ∧ 0 ≤ s ∧ s < 3 ∧ -1 ≤ n ∧ n < p.n
/-! The reference. -/
def HelRel (l : List (BitVec 64)) (m : BitVec 64) (vi : Value) : Prop := ∃ k : Nat, k ≤ l.length ∧ vi = .int .i64 (k : Int) ∧ heldR (uN l) m l.length 0 = heldR (uN l) m (l.length - k) k
end Go.Proofs.YtpidmbclgfnekaaGreat

/-
  What the laws of retire share: their awake and few, runs as calls, and a memory whose nodes are all popped. Conditions: those of each theorem.
-/
namespace Go.Proofs.YtpidmbclgfnekaaGreat
open Go Go.RowKit

/-! Runs. -/
def RetRI (lo hi : Nat) (L : Lay) (M' : MS) (k : Nat) (x : Int) (w : World) (e : Ending) (w' : World) : Prop :=
  e = .returned (.tuple #[.int .i64 x, .int .i64 (k : Int), .bool true]) ∧ MemIn lo hi L M' w' ∧ Fr lo hi w w'
theorem runI_any {lo hi : Nat} {L : Lay} {M M' : MS} {t : Tr Int} {k : Nat} {x : Int} (hR : Runs t M k M' x) (most : Int) (hk : (k : Int) ≤ most) (hmo : most ≤ 1099511627776) (F : Nat → Prop) (v : Value) (w : World) (hP : PT kI t F v w) (hF : Bnd F w) (hO : ∀ j, F j → j < lo ∨ hi ≤ j) (hM : MemIn lo hi L M w) :
    Calls Tryz.prog 19 #[v, .pointer (some ⟨L.bm, 0, none⟩), .agg #[.int .i64 0, .int .u64 (U 1#64)], .int .i64 most] w (RetRI lo hi L M' k x w) :=
  (run_I t F v 0 1#64 most w _ hmo (hR.run (by omega)) hP hF hO hM).mono fun _ _ h => h
theorem zer_low {p : Pl} (hp : p.ok) {M : MS} (hz : Zer p M) : ∀ j : Nat, 1 ≤ j → (j : Int) < p.nod 0 → M.wd 0 j = 0#64 := fun j h0 h1 => hz j (by omega) fun m hm => by
  obtain ⟨_, h2, _, _, _⟩ := node_pl hp hm
  have := hm.1
  unfold nxN
  omega
theorem low_rts {p : Pl} (hp : p.ok) {M : MS} (hz : ∀ j : Nat, 1 ≤ j → (j : Int) < p.nod 0 → M.wd 0 j = 0#64) {t : Int} (h0 : 0 ≤ t) (h1 : t < p.t) : RTs p M t [] := by
  obtain ⟨q1, q2, q3, q4, q5, q6⟩ := thr_pl hp h0 h1
  have hr : 1 ≤ p.r := by unfold Pl.ok at hp; omega
  refine ⟨by simp; omega, ?_, fun i hi => by simp at hi, fun n hn => by simp at hn⟩
  rw [hz _ (by unfold cnN; omega) (by unfold cnN; omega)]
  exact nameH_none.symm
theorem low_hz {p : Pl} (hp : p.ok) {M : MS} (hz : ∀ j : Nat, 1 ≤ j → (j : Int) < p.nod 0 → M.wd 0 j = 0#64) {i : Nat} (h : (i : Int) < 3 * p.t) : hzW p M i = 0#64 := by
  have h1 := hz_pl hp h
  obtain ⟨q1, q2, q3, q4, q5, q6⟩ := thr_pl hp (t := 0) (by omega) (by have := hp.2.1; omega)
  have hr : 1 ≤ p.r := by unfold Pl.ok at hp; omega
  exact hz _ h1.1 (by omega)

end Go.Proofs.YtpidmbclgfnekaaGreat
