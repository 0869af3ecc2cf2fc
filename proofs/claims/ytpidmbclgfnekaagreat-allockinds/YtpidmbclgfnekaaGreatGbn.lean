/-
  One thread that is granted nodes, and retires them, in plain numbers: what New, Stash and Retire do, alone. Conditions: a formed plan; fewer swaps than a tag can tell.
-/
import Derived.Test.YtpidmbclgfnekaaGreatGbm
namespace Go.Proofs.YtpidmbclgfnekaaGreat
open Go Go.RowKit

def upS (sf : Int → St) (n : Int) (s : St) : Int → St := fun m => if m = n then s else sf m
theorem upS_same (sf : Int → St) (n : Int) (s : St) : upS sf n s n = s := if_pos rfl
theorem upS_other {sf : Int → St} {n m : Int} {s : St} (h : m ≠ n) : upS sf n s m = sf m := if_neg h
/-- The memory of one thread's nodes: free ones, retired ones, states, hazards. -/
structure AIn (p : Pl) (t : Int) (M : MS) (fs rs : List Int) (T : Nat) (sf : Int → St) (hd : Nat → BitVec 64) : Prop where
  fl : FL p M fs T
  rt : RTs p M t rs
  nd : (fs ++ rs).Nodup
  st : ∀ n, InR p n → M.wd 0 (sdN p n) = (sf n).word
  ok : ∀ n, InR p n → (sf n).ok
  hz : ∀ i : Nat, (i : Int) < 3 * p.t → hzW p M i = hd i
theorem sd_ne {p : Pl} (hp : p.ok) {n m : Int} (hn : InR p n) (hm : InR p m) : sdN p n ≠ 0 ∧ sdN p n ≠ nxN p m ∧ (sdN p n = sdN p m → n = m) ∧ p.nod 0 ≤ sdN p n := by
  obtain ⟨a1, a2, _, a4, a5⟩ := node_pl hp hn
  obtain ⟨b1, b2, _, b4, b5⟩ := node_pl hp hm
  have := hn.1
  have := hm.1
  unfold sdN nxN
  refine ⟨by omega, by omega, fun h => by omega, by omega⟩
theorem low_keep {p : Pl} (hp : p.ok) {t : Int} (h0 : 0 ≤ t) (h1 : t < p.t) {M M' : MS} (hl : ∀ j : Nat, 1 ≤ j → (j : Int) < p.nod 0 → M'.wd 0 j = M.wd 0 j) :
    (∀ {l : List Int}, RTs p M t l → RTs p M' t l) ∧ ∀ i : Nat, (i : Int) < 3 * p.t → hzW p M' i = hzW p M i := by
  obtain ⟨q1, q2, q3, q4, q5, q6⟩ := thr_pl hp h0 h1
  have hr : 4 ≤ p.r := by unfold Pl.ok at hp; omega
  refine ⟨fun h => h.of hp h0 h1 fun j a b => hl j (by omega) (by omega), fun i hi => ?_⟩
  obtain ⟨b1, b2⟩ := hz_pl hp hi
  exact hl _ b1 (by omega)
theorem bec_run {p : Pl} (hp : p.ok) {M : MS} (hG : Mg p M) {n : Int} (hn : InR p n) (f : St → St) {s : St} (hs : ofS (M.wd 0 (sdN p n)) = s) :
    ∃ M', Runs (becT p n f) M 2 M' (f s) ∧ Mg p M' ∧ ∀ j, M'.wd 0 j = if j = sdN p n then (f s).word else M.wd 0 j := by
  obtain ⟨a1, a2, _, a4, a5⟩ := node_pl hp hn
  have hn0 := hn.1
  have r1 := Runs.get hG (at_ := p.stF n) (by omega) (by omega)
  have g1 := hG.done 0 0 (p.stF n) 0#64 0#64
  have r2 := Runs.set g1 (at_ := p.stF n) (f s).word (by omega) (by omega)
  refine ⟨_, ?_, g1.done 0 1 (p.stF n) (f s).word 0#64, fun j => ?_⟩
  · unfold becT
    refine Runs.bind (k1 := 1) (k2 := 1) r1 ?_
    unfold bec1T
    have e : M.wd 0 (p.stF n).toNat = M.wd 0 (sdN p n) := rfl
    rw [e, hs]
    exact Runs.bind (k1 := 1) (k2 := 0) r2 (Runs.done _ _)
  · rw [wd_store, wd_load]
    rfl
theorem AIn.of_st {p : Pl} {t : Int} {M : MS} {fl rt : List Int} {T : Nat} {sf : Int → St} {hd : Nat → BitVec 64} (h : AIn p t M fl rt T sf hd) {n : Int} (hn : InR p n) : ofS (M.wd 0 (sdN p n)) = sf n := by
  rw [h.st n hn]
  exact (isW_word _ (h.ok n hn)).2
theorem liveF_ok {s : St} (h : s.ok) {kd : Int} (hk : 0 ≤ kd ∧ kd ≤ 2) : (liveF kd s).ok := by
  unfold St.ok at h
  unfold liveF St.ok
  simp only
  omega
theorem retF_ok {s : St} (h : s.ok) : (retF' s).ok := by
  unfold St.ok at h
  unfold retF' St.ok
  simp only
  omega
theorem freed_ok {p : Pl} (hp : p.ok) {s : St} (h : s.ok) : (s.freed p.g).ok := by
  have hg : p.g ≤ 1073741823 := by unfold Pl.ok at hp; omega
  unfold St.ok at h
  unfold St.freed
  split
  · unfold St.ok
    simp only
    omega
  · unfold St.ok wrap64
    simp only
    omega
section
variable {p : Pl} {t : Int} (hp : p.ok) (h0 : 0 ≤ t) (h1 : t < p.t)
include hp h0 h1
/-- A node's state has turned. -/
theorem AIn.bec {M M' : MS} {fl rt : List Int} {T : Nat} {sf : Int → St} {hd : Nat → BitVec 64} (h : AIn p t M fl rt T sf hd) {n : Int} (hn : InR p n) {s : St} (hs : s.ok) (hG : Mg p M') (hw : ∀ j, M'.wd 0 j = if j = sdN p n then s.word else M.wd 0 j) : AIn p t M' fl rt T (upS sf n s) hd := by
  have hlow : ∀ j : Nat, 1 ≤ j → (j : Int) < p.nod 0 → M'.wd 0 j = M.wd 0 j := fun j a b => by
    rw [hw, if_neg]
    have := (sd_ne hp hn hn).2.2.2
    omega
  obtain ⟨k1, k2⟩ := low_keep hp h0 h1 hlow
  refine ⟨h.fl.of hG ?_ fun m hm => ?_, k1 h.rt, h.nd, fun m hm => ?_, fun m hm => ?_, fun i hi => (k2 i hi).trans (h.hz i hi)⟩
  · rw [hw, if_neg fun e => (sd_ne hp hn hn).1 e.symm]
  · rw [hw, if_neg fun e => (sd_ne hp hn hm).2.1 e.symm]
  · by_cases e : m = n
    · subst e
      rw [hw, if_pos rfl, upS_same]
    · rw [hw, if_neg fun e2 => e ((sd_ne hp hm hn).2.2.1 e2), upS_other e]
      exact h.st m hm
  · by_cases e : m = n
    · subst e
      rw [upS_same]
      exact hs
    · rw [upS_other e]
      exact h.ok m hm
theorem AIn.pop {M : MS} {n : Int} {fl rt : List Int} {T : Nat} {sf : Int → St} {hd : Nat → BitVec 64} (h : AIn p t M (n :: fl) rt T sf hd) (hT : T < 8796093022207) (N : Nat) : ∃ M', Runs (popT p (N + 2)) M 3 M' n ∧ AIn p t M' fl rt (T + 1) sf hd := by
  obtain ⟨M1, r1, r2, _⟩ := pop_some hp h.fl hT N 0
  have r := runs_of _ _ _ _ _ _ r1
  have hw : ∀ j, j ≠ 0 → M1.wd 0 j = M.wd 0 j := fun j hj => r.only (S := fun j => j = 0) (only_pop hp (S := fun j => j = 0) rfl _) j hj
  obtain ⟨k1, k2⟩ := low_keep hp h0 h1 (M := M) (M' := M1) fun j a _ => hw j (by omega)
  exact ⟨M1, r, r2, k1 h.rt, (List.nodup_cons.1 h.nd).2, fun m hm => (hw _ (sd_ne hp hm hm).1).trans (h.st m hm), h.ok, fun i hi => (k2 i hi).trans (h.hz i hi)⟩
/-- None there: nothing turns. -/
theorem AIn.pop0 {M : MS} {rt : List Int} {T : Nat} {sf : Int → St} {hd : Nat → BitVec 64} (h : AIn p t M [] rt T sf hd) (N : Nat) : ∃ M', Runs (popT p (N + 1)) M 1 M' (-1) ∧ AIn p t M' [] rt T sf hd := by
  obtain ⟨M1, r1, r2, _⟩ := pop_none hp h.fl N 0
  have r := runs_of _ _ _ _ _ _ r1
  have hw : ∀ j, j ≠ 0 → M1.wd 0 j = M.wd 0 j := fun j hj => r.only (S := fun j => j = 0) (only_pop hp (S := fun j => j = 0) rfl _) j hj
  obtain ⟨k1, k2⟩ := low_keep hp h0 h1 (M := M) (M' := M1) fun j a _ => hw j (by omega)
  exact ⟨M1, r, r2, k1 h.rt, h.nd, fun m hm => (hw _ (sd_ne hp hm hm).1).trans (h.st m hm), h.ok, fun i hi => (k2 i hi).trans (h.hz i hi)⟩
theorem new_take {M : MS} {n : Int} {fl rt : List Int} {T : Nat} {sf : Int → St} {hd : Nat → BitVec 64} (h : AIn p t M (n :: fl) rt T sf hd) (hT : T < 8796093022207) {kd : Int} (hk : 0 ≤ kd ∧ kd ≤ 2) (N : Nat) :
    ∃ M', Runs (newT p t kd (N + 2)) M 5 M' ⟨n, (sf n).g, 0⟩ ∧ AIn p t M' fl rt (T + 1) (upS sf n (liveF kd (sf n))) hd := by
  have hn := h.fl.rg n (by simp)
  obtain ⟨M1, r1, a1⟩ := h.pop hp h0 h1 hT N
  obtain ⟨M2, r2, g2, w2⟩ := bec_run hp a1.fl.mg hn (liveF kd) (a1.of_st hn)
  refine ⟨M2, ?_, a1.bec hp h0 h1 hn (liveF_ok (h.ok n hn) hk) g2 w2⟩
  unfold newT twcT
  refine Runs.bind (k1 := 3) (k2 := 2) (M1 := M1) (x := n) ?_ ?_
  · refine Runs.bind (k1 := 3) (k2 := 0) r1 ?_
    unfold tw1T
    rw [if_neg (by have := hn.1; omega)]
    exact Runs.done _ _
  · unfold new1T
    rw [if_neg (by have := hn.1; omega)]
    exact Runs.bind (k1 := 2) (k2 := 0) r2 (Runs.done _ _)
/-- Is the node gone when it is freed? -/
def goneS (p : Pl) (sf : Int → St) (n : Int) : Bool := decide (((sf n).freed p.g).m = 3)
def freedS (p : Pl) (sf : Int → St) (out : List Int) : Int → St := fun n => if n ∈ out then (sf n).freed p.g else sf n
omit hp h0 h1 in
theorem pushL_cg {g g' : Int → Bool} : ∀ (l fl : List Int), (∀ n ∈ l, g n = g' n) → pushL g fl l = pushL g' fl l
  | [], _, _ => rfl
  | n :: l, fl, h => by
    unfold pushL
    rw [h n (List.mem_cons_self ..)]
    exact pushL_cg l _ fun m hm => h m (List.mem_cons_of_mem _ hm)
/-- A Scan, alone. -/
theorem AIn.scan {M : MS} {fl rt : List Int} {T : Nat} {sf : Int → St} {hd : Nat → BitVec 64} (h : AIn p t M fl rt T sf hd) (hT : T ≤ 2000000) :
    ∃ M' T' s, Runs (scanT p t 2) M s M' ((rt.length : Int) - ((scanP (hldB p hd) rt.length rt []).1.length : Int)) ∧ s ≤ 1 + 60 * rt.length ∧ T' ≤ T + rt.length ∧
      AIn p t M' (pushL (goneS p sf) fl (scanP (hldB p hd) rt.length rt []).2) (scanP (hldB p hd) rt.length rt []).1 T' (freedS p sf (scanP (hldB p hd) rt.length rt []).2) hd := by
  obtain ⟨q1, q2, q3, q4, q5, q6⟩ := thr_pl hp h0 h1
  have hr : p.r ≤ 1024 := by unfold Pl.ok at hp; omega
  have hlr := h.rt.len
  have hn : rt.Nodup := (List.nodup_append.1 h.nd).2.1
  have hnf : ∀ n ∈ rt, n ∉ fl := fun n a b => (List.nodup_append.1 h.nd).2.2 n b n a rfl
  have r1 := Runs.get h.fl.mg (at_ := p.cntF t) (by omega) (by omega)
  have hcw : M.wd 0 (p.cntF t).toNat = cntW rt.length := h.rt.cn
  rw [hcw] at r1
  have S0 : ScIn p t M fl T hd M rt [] T := ⟨h.fl.mg, h.rt, h.fl, by simpa using hn, hnf, by simp, fun _ _ _ => rfl, fun n hn => by simp at hn, h.hz, fun _ _ _ _ => rfl⟩
  have S1 := S0.same hp h0 h1 (h.fl.mg.done 0 0 (p.cntF t) 0#64 0#64) (wd_load M _ _ _)
  obtain ⟨M', T', s, r2, hs, S2⟩ := scn_run hp h0 h1 hT 0 rt.length _ rt [] T (rt.length : Int) S1 (Nat.le_refl _) (by simp; omega)
  have hlen := scanP_len (hldB p hd) rt.length rt [] (Nat.le_refl _)
  have hgo : ∀ n, InR p n → goneB p M n = goneS p sf n := fun n hn => by
    unfold goneB goneS nst
    rw [h.of_st hn]
  obtain ⟨l1, e1⟩ : ∃ l1, (scanP (hldB p hd) rt.length rt []).1 = l1 := ⟨_, rfl⟩
  obtain ⟨l2, e2⟩ : ∃ l2, (scanP (hldB p hd) rt.length rt []).2 = l2 := ⟨_, rfl⟩
  rw [e1, e2] at S2
  rw [e1] at r2
  rw [e1, e2]
  rw [e1, e2] at hlen
  have hl2 : ∀ n ∈ l2, InR p n := fun n hn => (S2.dn n hn).1
  have hpl : pushL (goneB p M) fl l2 = pushL (goneS p sf) fl l2 := pushL_cg l2 fl fun n hn => hgo n (hl2 n hn)
  have hfl := S2.fl
  rw [hpl] at hfl
  refine ⟨M', T', 1 + s, ?_, by omega, ?_, hfl, S2.rt, ?_, fun n hn => ?_, fun n hn => ?_, S2.hz⟩
  · unfold scanT
    refine Runs.bind r1 ?_
    unfold sc1T
    rw [cntR_cntW (by omega) hlr hr]
    exact r2
  · have := S2.tt
    simp at hlen
    omega
  · have hnd2 := S2.nd
    have hnf2 := S2.nf
    rw [hpl] at hnf2
    exact List.nodup_append.2 ⟨hfl.nd, (List.nodup_append.1 hnd2).1, fun a ha b hb e => hnf2 b hb (e ▸ ha)⟩
  · unfold freedS
    by_cases hm : n ∈ l2
    · rw [if_pos hm, (S2.dn n hm).2.1]
      unfold nst
      rw [h.of_st hn]
    · rw [if_neg hm, S2.st n hn hm]
      exact h.st n hn
  · unfold freedS
    by_cases hm : n ∈ l2
    · rw [if_pos hm]
      exact freed_ok hp (h.ok n hn)
    · rw [if_neg hm]
      exact h.ok n hn
theorem new_scan {M : MS} {rt : List Int} {T : Nat} {sf : Int → St} {hd : Nat → BitVec 64} (h : AIn p t M [] rt T sf hd) (hT : T ≤ 2000000) {kd : Int} (hk : 0 ≤ kd ∧ kd ≤ 2) (rt' out fl' : List Int)
    (e1 : scanP (hldB p hd) rt.length rt [] = (rt', out)) (e2 : pushL (goneS p sf) [] out = fl') :
    ∃ M' T' s g, Runs (newT p t kd 2) M s M' g ∧ s ≤ 7 + 60 * rt.length ∧ T' ≤ T + rt.length + 1 ∧
      match fl' with
      | [] => g = ⟨-1, 0, 4⟩ ∧ AIn p t M' [] rt' T' (freedS p sf out) hd
      | n :: fl2 => g = ⟨n, (freedS p sf out n).g, 0⟩ ∧ AIn p t M' fl2 rt' T' (upS (freedS p sf out) n (liveF kd (freedS p sf out n))) hd := by
  have hl : rt.length ≤ 1024 := by
    have := h.rt.len
    unfold Pl.ok at hp
    omega
  obtain ⟨M1, r1, a1⟩ := h.pop0 hp h0 h1 1
  obtain ⟨M2, T2, s, r2, hs, hT2, a2⟩ := a1.scan hp h0 h1 hT
  rw [e1] at a2 r2
  simp only at a2 r2
  rw [e2] at a2
  cases fl' with
  | nil =>
    obtain ⟨M3, r3, a3⟩ := a2.pop0 hp h0 h1 1
    refine ⟨M3, T2, (1 + (s + 1)) + 0, ⟨-1, 0, 4⟩, ?_, by omega, by omega, rfl, a3⟩
    unfold newT twcT
    refine Runs.bind (M1 := M3) (x := -1) (Runs.bind r1 ?_) ?_
    · unfold tw1T
      rw [if_pos rfl]
      exact Runs.bind r2 r3
    · unfold new1T
      rw [if_pos rfl]
      exact Runs.done _ _
  | cons n fl2 =>
    obtain ⟨M3, r3, a3⟩ := a2.pop hp h0 h1 (by omega) 0
    have hn := a2.fl.rg n (by simp)
    obtain ⟨M4, r4, g4, w4⟩ := bec_run hp a3.fl.mg hn (liveF kd) (a3.of_st hn)
    refine ⟨M4, T2 + 1, (1 + (s + 3)) + (2 + 0), ⟨n, (freedS p sf out n).g, 0⟩, ?_, by omega, by omega, rfl, a3.bec hp h0 h1 hn (liveF_ok (a2.ok n hn) hk) g4 w4⟩
    unfold newT twcT
    refine Runs.bind (M1 := M3) (x := n) (Runs.bind r1 ?_) ?_
    · unfold tw1T
      rw [if_pos rfl]
      exact Runs.bind r2 r3
    · unfold new1T
      rw [if_neg (by have := hn.1; omega)]
      exact Runs.bind r4 (Runs.done _ _)
/-- A Put where there is room. -/
theorem AIn.put {M : MS} {fl rt : List Int} {T : Nat} {sf : Int → St} {hd : Nat → BitVec 64} (h : AIn p t M fl rt T sf hd) {n : Int} (hn : InR p n) (hnl : n ∉ fl ++ rt) (hlt : (rt.length : Int) < p.r) :
    ∃ M', Runs (putT p t n) M 3 M' (rt.length + 1) ∧ AIn p t M' fl (rt ++ [n]) T sf hd := by
  obtain ⟨q1, q2, q3, q4, q5, q6⟩ := thr_pl hp h0 h1
  obtain ⟨M1, r1, g1, t1, f1, w1⟩ := put_more hp h.fl.mg h0 h1 h.rt h.fl hn hlt
  refine ⟨M1, r1, f1, t1, ?_, fun m hm => ?_, h.ok, fun i hi => ?_⟩
  · rw [← List.append_assoc]
    exact List.nodup_append.2 ⟨h.nd, by simp, fun a ha b hb e => by simp at hb; subst hb; subst e; exact hnl ha⟩
  · rw [w1 _ (.inr (by have := (sd_ne hp hm hm).2.2.2; omega))]
    exact h.st m hm
  · obtain ⟨b1, b2⟩ := hz_pl hp hi
    exact (w1 (hzN p i) (.inl (by omega))).trans (h.hz i hi)
theorem AIn.put0 {M : MS} {fl rt : List Int} {T : Nat} {sf : Int → St} {hd : Nat → BitVec 64} (h : AIn p t M fl rt T sf hd) {n : Int} (hn : InR p n) (hlt : (rt.length : Int) = p.r) :
    ∃ M', Runs (putT p t n) M 1 M' (-1) ∧ AIn p t M' fl rt T sf hd := by
  have hpr := put_run hp h.fl.mg h0 h1 h.rt hn
  rw [if_pos hlt] at hpr
  obtain ⟨M1, r1, g1, w1⟩ := hpr
  obtain ⟨k1, k2⟩ := low_keep hp h0 h1 (M := M) (M' := M1) fun j _ _ => w1 j
  exact ⟨M1, r1, h.fl.same g1 w1, k1 h.rt, h.nd, fun m hm => (w1 _).trans (h.st m hm), h.ok, fun i hi => (k2 i hi).trans (h.hz i hi)⟩
theorem stash_room {M : MS} {fl rt : List Int} {T : Nat} {sf : Int → St} {hd : Nat → BitVec 64} (h : AIn p t M fl rt T sf hd) {n : Int} (hn : InR p n) (hnl : n ∉ fl ++ rt) (hlt : (rt.length : Int) < p.r) (N : Nat) :
    ∃ M', Runs (stashT p t n N) M 3 M' n ∧ AIn p t M' fl (rt ++ [n]) T sf hd := by
  obtain ⟨M1, r1, a1⟩ := h.put hp h0 h1 hn hnl hlt
  refine ⟨M1, ?_, a1⟩
  unfold stashT twcT
  refine Runs.bind (M1 := M1) (x := (rt.length : Int) + 1) (k1 := 3) (k2 := 0) (Runs.bind (k1 := 3) (k2 := 0) r1 ?_) ?_
  · unfold tw1T
    rw [if_neg (by omega)]
    exact Runs.done _ _
  · unfold stash1T
    rw [if_neg (by omega)]
    exact Runs.done _ _
theorem aret_room {M : MS} {fl rt : List Int} {T : Nat} {sf : Int → St} {hd : Nat → BitVec 64} (h : AIn p t M fl rt T sf hd) {n : Int} (hn : InR p n) (hnl : n ∉ fl ++ rt) (hlt : (rt.length : Int) < p.r) (N : Nat) :
    ∃ M', Runs (aretT p t n N) M 5 M' n ∧ AIn p t M' fl (rt ++ [n]) T (upS sf n (retF' (sf n))) hd := by
  obtain ⟨M1, r1, g1, w1⟩ := bec_run hp h.fl.mg hn retF' (h.of_st hn)
  have a1 := h.bec hp h0 h1 hn (retF_ok (h.ok n hn)) g1 w1
  obtain ⟨M2, r2, a2⟩ := stash_room hp h0 h1 a1 hn hnl hlt N
  exact ⟨M2, Runs.bind (k1 := 2) (k2 := 3) r1 r2, a2⟩
theorem aret_full {M : MS} {fl rt : List Int} {T : Nat} {sf : Int → St} {hd : Nat → BitVec 64} (h : AIn p t M fl rt T sf hd) (hT : T ≤ 2000000) {n : Int} (hn : InR p n) (hnl : n ∉ fl ++ rt) (hlt : (rt.length : Int) = p.r) :
    ∃ M' T' s, Runs (aretT p t n 2) M s M' n ∧ s ≤ 10 + 60 * rt.length ∧ T' ≤ T + rt.length ∧
      AIn p t M' (pushL (goneS p (upS sf n (retF' (sf n)))) fl (scanP (hldB p hd) rt.length rt []).2) ((scanP (hldB p hd) rt.length rt []).1 ++ [n]) T' (freedS p (upS sf n (retF' (sf n))) (scanP (hldB p hd) rt.length rt []).2) hd := by
  obtain ⟨M1, r1, g1, w1⟩ := bec_run hp h.fl.mg hn retF' (h.of_st hn)
  have a1 := h.bec hp h0 h1 hn (retF_ok (h.ok n hn)) g1 w1
  obtain ⟨M2, r2, a2⟩ := a1.put0 hp h0 h1 hn hlt
  obtain ⟨M3, T3, s, r3, hs, hT3, a3⟩ := a2.scan hp h0 h1 hT
  have hrt : rt.Nodup := (List.nodup_append.1 h.nd).2.1
  have hm3 : 3 * p.t < (rt.length : Int) := by
    unfold Pl.ok at hp
    omega
  have hmo := scan_more hp (hd := hd) hrt h.rt.rg hm3
  have hperm := scanP_perm (hldB p hd) rt.length rt [] (Nat.le_refl _)
  rw [List.append_nil] at hperm
  have hnew : n ∉ pushL (goneS p (upS sf n (retF' (sf n)))) fl (scanP (hldB p hd) rt.length rt []).2 ++ (scanP (hldB p hd) rt.length rt []).1 := fun hx => by
    have hsub : ∀ (g : Int → Bool) (out fl : List Int), n ∈ pushL g fl out → n ∈ fl ∨ n ∈ out := by
      intro g out
      induction out with
      | nil => intro fl hx; exact .inl hx
      | cons m out ih =>
        intro fl hx
        rcases ih _ hx with h2 | h2
        · by_cases hg : g m = true
          · rw [if_pos hg] at h2
            exact .inl h2
          · rw [if_neg hg] at h2
            rcases List.mem_cons.1 h2 with rfl | h2
            · exact .inr (by simp)
            · exact .inl h2
        · exact .inr (by simp [h2])
    rw [List.mem_append] at hnl
    rcases List.mem_append.1 hx with h2 | h2
    · rcases hsub _ _ _ h2 with h3 | h3
      · exact hnl (.inl h3)
      · exact hnl (.inr (hperm.mem_iff.1 (List.mem_append.2 (.inr h3))))
    · exact hnl (.inr (hperm.mem_iff.1 (List.mem_append.2 (.inl h2))))
  obtain ⟨M4, r4, a4⟩ := a3.put hp h0 h1 hn hnew (by omega)
  refine ⟨M4, T3, 2 + ((1 + (s + 3)) + 0), ?_, by omega, hT3, a4⟩
  refine Runs.bind r1 ?_
  unfold stashT twcT
  refine Runs.bind (M1 := M4) (x := ((scanP (hldB p hd) rt.length rt []).1.length : Int) + 1) (Runs.bind r2 ?_) ?_
  · unfold tw1T
    rw [if_pos rfl]
    exact Runs.bind r3 r4
  · unfold stash1T
    rw [if_neg (by omega)]
    exact Runs.done _ _
end
end Go.Proofs.YtpidmbclgfnekaaGreat

/-
  What the calls of Step and Over come to (G). Conditions: those of each theorem.
-/
namespace Go.Proofs.YtpidmbclgfnekaaGreat
open Go Go.RowKit

set_option maxRecDepth 8000 in
set_option maxHeartbeats 2000000 in
theorem stepA_G {lo hi : Nat} {L : Lay} {M : MS} (a : Acc) (f : BitVec 64 → Tr (Gr)) (F : Nat → Prop) (v : Value) (r : Int) (e : BitVec 64) (w : World) (hP : PT kG (.ask a f) F v w) (hF : Bnd F w) (hO : ∀ j, F j → j < lo ∨ hi ≤ j) (hM : MemIn lo hi L M w) (hd : DoOk M r e a.op a.at_) (x : BitVec 64) (hx0 : Hid (M.wd r.toNat a.at_.toNat = x)) :
    Calls Tryz.prog 38 #[v, .pointer (some ⟨L.bm, 0, none⟩), .agg #[.int .i64 r, .int .u64 (U e)]] w (RetS kG lo hi L (M.done r a.op a.at_ a.a a.b) (f x) F w) := by
  obtain ⟨g, caps, rfl, hg, hc⟩ := hP
  have HC := Lib.hid hc
  have HM := Lib.hid hM
  have HDO := Lib.hid hd
  have hhi := hM.top
  unfold Enters at hg
  clear hc hM hd
  have n0 : ∀ f x y w, (binOp .eql 43 (.func f x y) .nilFunc).run Tryz.prog w = .ok (.bool false) w := fun f x y w => eql_fn w fnG f x y
  show Calls Tryz.prog 38 #[.agg #[.int .i64 0, .int .i64 0, .int .i64 0, .int .i64 a.op, .int .i64 a.at_, .int .u64 (U a.a), .int .u64 (U a.b), .func (.func g) #[] caps, .pointer none], .pointer (some ⟨L.bm, 0, none⟩), .agg #[.int .i64 r, .int .u64 (U e)]] w _
  go_enter Tryz.func38, Tryz.ntmps38
  go_wp2_with (go_at_call 77; refine Hid.out ?_)
  refine Lib.hid ?_
  have hb3 := heap_at ((w.alloc (.cells #[.int .i64 0, .int .i64 0, .int .i64 0, .int .i64 a.op, .int .i64 a.at_, .int .u64 (U a.a), .int .u64 (U a.b), .func (.func g) #[] caps, .pointer none] 46)).alloc (.cells #[.int .i64 r, .int .u64 (U e)] 49)) (.cells #[.int .i64 0, .int .i64 0, .int .i64 0, .int .i64 0, .int .i64 0, .int .u64 0, .int .u64 0, .nilFunc, .pointer none] 46) (w.heap.size + 1 + 1) (by simp)
  have hb1 := cell_at (o := 7) (heap_at w (.cells #[.int .i64 0, .int .i64 0, .int .i64 0, .int .i64 a.op, .int .i64 a.at_, .int .u64 (U a.a), .int .u64 (U a.b), .func (.func g) #[] caps, .pointer none] 46) w.heap.size rfl) rfl
  have hb1' := ext_cell (ext_alloc (.cells #[.int .i64 0, .int .i64 0, .int .i64 0, .int .i64 0, .int .i64 0, .int .u64 0, .int .u64 0, .nilFunc, .pointer none] 46) (ext_alloc (.cells #[.int .i64 r, .int .u64 (U e)] 49) (ext_refl _))) hb1
  have hEW : Ext w (((w.alloc (.cells #[.int .i64 0, .int .i64 0, .int .i64 0, .int .i64 a.op, .int .i64 a.at_, .int .u64 (U a.a), .int .u64 (U a.b), .func (.func g) #[] caps, .pointer none] 46)).alloc (.cells #[.int .i64 r, .int .u64 (U e)] 49)).alloc (.cells #[.int .i64 0, .int .i64 0, .int .i64 0, .int .i64 0, .int .i64 0, .int .u64 0, .int .u64 0, .nilFunc, .pointer none] 46)) := ext_alloc _ (ext_alloc _ (ext_alloc _ (ext_refl w)))
  have hz : (((w.alloc (.cells #[.int .i64 0, .int .i64 0, .int .i64 0, .int .i64 a.op, .int .i64 a.at_, .int .u64 (U a.a), .int .u64 (U a.b), .func (.func g) #[] caps, .pointer none] 46)).alloc (.cells #[.int .i64 r, .int .u64 (U e)] 49)).alloc (.cells #[.int .i64 0, .int .i64 0, .int .i64 0, .int .i64 0, .int .i64 0, .int .u64 0, .int .u64 0, .nilFunc, .pointer none] 46)).heap.size = w.heap.size + 1 + 1 + 1 := by simp
  clear hb1
  generalize (((w.alloc (.cells #[.int .i64 0, .int .i64 0, .int .i64 0, .int .i64 a.op, .int .i64 a.at_, .int .u64 (U a.a), .int .u64 (U a.b), .func (.func g) #[] caps, .pointer none] 46)).alloc (.cells #[.int .i64 r, .int .u64 (U e)] 49)).alloc (.cells #[.int .i64 0, .int .i64 0, .int .i64 0, .int .i64 0, .int .i64 0, .int .u64 0, .int .u64 0, .nilFunc, .pointer none] 46)) = W at hb3 hb1' hEW hz ⊢
  refine (do_yes (HM.out.ext hEW) r a.op a.at_ e a.a a.b HDO.out).mono ?_
  rintro e1 w1 ⟨rfl, hm1, hf1⟩
  rw [hx0.out]
  have hs1 := hf1.size
  have k5 : w1.cell? ⟨w.heap.size, 7, none⟩ = some (.func (.func g) #[] caps) := by
    rw [hf1.cell (by omega) (.inr hhi)]; exact hb1'
  have hb31 : w1.heap[w.heap.size + 1 + 1]? = _ := (hf1.block _ (by omega) (.inr (by omega))).trans hb3
  have HM1 := Lib.hid hm1
  have HF1 := Lib.hid ((Fr.of_ext hEW).trans hf1)
  have HB1 := Lib.hid hb31
  have HCX := Lib.hid (HC.out x w1 (Agr.of_fr HF1.out hF hO))
  have lw1 : w.heap.size < w1.heap.size := by omega
  clear hm1 hf1 hb3 hb1' hb31 hEW HC HM HDO
  go_wp2_with (refine HCX.out.mono ?_; rintro e2 w2 ⟨v', F', rfl, hx, hp, hbn, hsub⟩; refine Hid.out ?_)
  refine Lib.hid ?_
  have hbx := (hx.block _ (heap_lt HB1.out)).trans HB1.out
  obtain ⟨y0, y1, y2, a2, fn2, rfl, hfn⟩ := shG hp
  have hnF : ¬ F' (w.heap.size + 1 + 1) := fun h => by
    rcases hsub _ h with h | h
    · have := hF _ h; omega
    · omega
  have hX := put9_frNew (b := w.heap.size + 1 + 1) (.int .i64 y0) (.int .i64 y1) (.int .i64 y2) (.int .i64 a2.op) (.int .i64 a2.at_) (.int .u64 (U a2.a)) (.int .u64 (U a2.b)) (fn2) (.pointer none) (HF1.out.ext hx) (by omega)
  have hMM := put9_mem (b := w.heap.size + 1 + 1) (.int .i64 y0) (.int .i64 y1) (.int .i64 y2) (.int .i64 a2.op) (.int .i64 a2.at_) (.int .u64 (U a2.a)) (.int .u64 (U a2.b)) (fn2) (.pointer none) (HM1.out.ext hx) (by omega)
  have hB := put9_block (.int .i64 y0) (.int .i64 y1) (.int .i64 y2) (.int .i64 a2.op) (.int .i64 a2.at_) (.int .u64 (U a2.a)) (.int .u64 (U a2.b)) (fn2) (.pointer none) hbx
  have hP := hp.agr (Agr.of_put9 (b := w.heap.size + 1 + 1) (.int .i64 y0) (.int .i64 y1) (.int .i64 y2) (.int .i64 a2.op) (.int .i64 a2.at_) (.int .u64 (U a2.a)) (.int .u64 (U a2.b)) (fn2) (.pointer none) hnF)
  have hS : (put9 (w.heap.size + 1 + 1) (.int .i64 y0) (.int .i64 y1) (.int .i64 y2) (.int .i64 a2.op) (.int .i64 a2.at_) (.int .u64 (U a2.a)) (.int .u64 (U a2.b)) (fn2) (.pointer none) w2).heap.size = w2.heap.size := put9_size (.int .i64 y0) (.int .i64 y1) (.int .i64 y2) (.int .i64 a2.op) (.int .i64 a2.at_) (.int .u64 (U a2.a)) (.int .u64 (U a2.b)) (fn2) (.pointer none)
  obtain ⟨c0, c1, c2, c3, c4, c5, c6, c7, c8, cz, ll⟩ := nin_of hbx
  rw [put9] at hX hB hP hS hMM
  have HX := Lib.hid (And.intro hX (And.intro hB (And.intro hP (And.intro hS hMM))))
  have HFN := Lib.hid hfn
  have HBN := Lib.hid hbn
  have HSUB := Lib.hid hsub
  clear hX hB hP hS hMM hx hbx hp hfn hbn hsub hnF HCX HB1 HM1 HF1
  rcases HFN.out with rfl | ⟨g', caps', rfl⟩
  all_goals
    go_wp2
    clear c0 c1 c2 c3 c4 c5 c6 c7 c8 cz ll
    obtain ⟨hX, hB, hP, hS, hMM⟩ := HX.out
    clear HX
    generalize (World.setCell _ (⟨w.heap.size + 1 + 1, 8, none⟩ : Addr) _) = Z at hX hB hP hS hMM ⊢
    obtain ⟨c0, c1, c2, c3, c4, c5, c6, c7, c8, cz, ll⟩ := nin_of hB
    exact bodyPost_ret (by simp only [results, Tryz.results38, go_sem]; simp [go_sem, c0, c1, c2, c3, c4, c5, c6, c7, c8]) rfl ⟨_, F', rfl, hP, fun j hj => by rw [hS]; exact HBN.out j hj, fun j hj => (HSUB.out j hj).imp_right fun h => by omega, hMM, hX⟩
set_option maxRecDepth 8000 in
set_option maxHeartbeats 2000000 in
theorem stepR_G {lo hi : Nat} {L : Lay} {M : MS} (a : Acc) (f : BitVec 64 → Tr (Gr)) (F : Nat → Prop) (v : Value) (r : Int) (e : BitVec 64) (w : World) (hP : PT kG (.ask a f) F v w) (hM : MemIn lo hi L M w) (hd : ¬ DoOk M r e a.op a.at_) :
    Calls Tryz.prog 38 #[v, .pointer (some ⟨L.bm, 0, none⟩), .agg #[.int .i64 r, .int .u64 (U e)]] w (Ret (.tuple #[v, .bool false]) w) := by
  obtain ⟨g, caps, rfl, hg, hc⟩ := hP
  have HM := Lib.hid hM
  have HDO := Lib.hid hd
  have hhi := hM.top
  clear hc hM hd hg
  have n0 : ∀ f x y w, (binOp .eql 43 (.func f x y) .nilFunc).run Tryz.prog w = .ok (.bool false) w := fun f x y w => eql_fn w fnG f x y
  show Calls Tryz.prog 38 #[.agg #[.int .i64 0, .int .i64 0, .int .i64 0, .int .i64 a.op, .int .i64 a.at_, .int .u64 (U a.a), .int .u64 (U a.b), .func (.func g) #[] caps, .pointer none], .pointer (some ⟨L.bm, 0, none⟩), .agg #[.int .i64 r, .int .u64 (U e)]] w _
  go_enter Tryz.func38, Tryz.ntmps38
  go_wp2_with (go_at_call 77; refine Hid.out ?_)
  refine Lib.hid ?_
  have hb3 := heap_at ((w.alloc (.cells #[.int .i64 0, .int .i64 0, .int .i64 0, .int .i64 a.op, .int .i64 a.at_, .int .u64 (U a.a), .int .u64 (U a.b), .func (.func g) #[] caps, .pointer none] 46)).alloc (.cells #[.int .i64 r, .int .u64 (U e)] 49)) (.cells #[.int .i64 0, .int .i64 0, .int .i64 0, .int .i64 0, .int .i64 0, .int .u64 0, .int .u64 0, .nilFunc, .pointer none] 46) (w.heap.size + 1 + 1) (by simp)
  have hb1 : (((w.alloc (.cells #[.int .i64 0, .int .i64 0, .int .i64 0, .int .i64 a.op, .int .i64 a.at_, .int .u64 (U a.a), .int .u64 (U a.b), .func (.func g) #[] caps, .pointer none] 46)).alloc (.cells #[.int .i64 r, .int .u64 (U e)] 49)).alloc (.cells #[.int .i64 0, .int .i64 0, .int .i64 0, .int .i64 0, .int .i64 0, .int .u64 0, .int .u64 0, .nilFunc, .pointer none] 46)).heap[w.heap.size]? = some (.cells #[.int .i64 0, .int .i64 0, .int .i64 0, .int .i64 a.op, .int .i64 a.at_, .int .u64 (U a.a), .int .u64 (U a.b), .func (.func g) #[] caps, .pointer none] 46) := by
    rw [Below.heap_alloc _ _ _ (by simp; omega), Below.heap_alloc _ _ _ (by simp)]
    exact heap_at w _ _ rfl
  have hEW : Ext w (((w.alloc (.cells #[.int .i64 0, .int .i64 0, .int .i64 0, .int .i64 a.op, .int .i64 a.at_, .int .u64 (U a.a), .int .u64 (U a.b), .func (.func g) #[] caps, .pointer none] 46)).alloc (.cells #[.int .i64 r, .int .u64 (U e)] 49)).alloc (.cells #[.int .i64 0, .int .i64 0, .int .i64 0, .int .i64 0, .int .i64 0, .int .u64 0, .int .u64 0, .nilFunc, .pointer none] 46)) := ext_alloc _ (ext_alloc _ (ext_alloc _ (ext_refl w)))
  generalize (((w.alloc (.cells #[.int .i64 0, .int .i64 0, .int .i64 0, .int .i64 a.op, .int .i64 a.at_, .int .u64 (U a.a), .int .u64 (U a.b), .func (.func g) #[] caps, .pointer none] 46)).alloc (.cells #[.int .i64 r, .int .u64 (U e)] 49)).alloc (.cells #[.int .i64 0, .int .i64 0, .int .i64 0, .int .i64 0, .int .i64 0, .int .u64 0, .int .u64 0, .nilFunc, .pointer none] 46)) = W at hb3 hb1 hEW ⊢
  refine (do_no (HM.out.ext hEW) r a.op a.at_ e a.a a.b HDO.out).mono ?_
  rintro e1 w1 ⟨rfl, hx⟩
  have hb31 := (hx.block _ (heap_lt hb3)).trans hb3
  have hb11 := (hx.block _ (heap_lt hb1)).trans hb1
  obtain ⟨c0, c1, c2, c3, c4, c5, c6, c7, c8, cz, ll⟩ := nin_of hb31
  obtain ⟨d0, d1, d2, d3, d4, d5, d6, d7, d8, dz, dl⟩ := nin_of hb11
  have hX := put9_ext (b := w.heap.size + 1 + 1) (.int .i64 0) (.int .i64 0) (.int .i64 0) (.int .i64 a.op) (.int .i64 a.at_) (.int .u64 (U a.a)) (.int .u64 (U a.b)) (.func (.func g) #[] caps) (.pointer none) (ext_trans hEW hx) (by omega)
  have hB := put9_block (.int .i64 0) (.int .i64 0) (.int .i64 0) (.int .i64 a.op) (.int .i64 a.at_) (.int .u64 (U a.a)) (.int .u64 (U a.b)) (.func (.func g) #[] caps) (.pointer none) hb31
  rw [put9] at hX hB
  have HX := Lib.hid hX
  have HB := Lib.hid hB
  clear hX hB hb3 hb1 hEW hx hb31 hb11
  go_wp2
  replace HX := HX.out
  replace HB := HB.out
  clear c0 c1 c2 c3 c4 c5 c6 c7 c8 cz ll
  generalize (World.setCell _ (⟨w.heap.size + 1 + 1, 8, none⟩ : Addr) _) = Z at HB HX ⊢
  obtain ⟨c0, c1, c2, c3, c4, c5, c6, c7, c8, cz, ll⟩ := nin_of HB
  exact bodyPost_ret (by simp only [results, Tryz.results38, go_sem]; simp [go_sem, c0, c1, c2, c3, c4, c5, c6, c7, c8, kG, vS3, at3]) rfl (Ret.mk HX)
set_option maxRecDepth 8000 in
set_option maxHeartbeats 2000000 in
theorem stepD_G (x : Gr) (F : Nat → Prop) (v mv : Value) (r : Int) (e : BitVec 64) (w : World) (hP : PT kG (.done x) F v w) :
    Calls Tryz.prog 38 #[v, mv, .agg #[.int .i64 r, .int .u64 (U e)]] w (Ret (.tuple #[v, .bool false]) w) := by
  cases hP
  have n0 : ∀ w, (binOp .eql 43 .nilFunc .nilFunc).run Tryz.prog w = .ok (.bool true) w := fun w => eql_nil w fnG
  show Calls Tryz.prog 38 #[.agg #[.int .i64 x.n, .int .i64 x.g, .int .i64 x.e, .int .i64 accZ.op, .int .i64 accZ.at_, .int .u64 (U accZ.a), .int .u64 (U accZ.b), .nilFunc, .pointer none], mv, .agg #[.int .i64 r, .int .u64 (U e)]] w _
  go_enter Tryz.func38, Tryz.ntmps38
  go_wp2
  exact bodyPost_ret (by simp only [results, Tryz.results38, go_sem]; simp [go_sem, kG, vS3, at3]) rfl (Ret.mk (ext_alloc _ (ext_alloc _ (ext_alloc _ (ext_refl w)))))
theorem over_G (t : Tr (Gr)) (F : Nat → Prop) (v : Value) (w : World) (hP : PT kG t F v w) (y0 y1 y2 : Int) (b : Bool) (hy : Hid (ansT kG t = .agg #[.int .i64 y0, .int .i64 y1, .int .i64 y2])) (hb : Hid (ovT t = b)) : Calls Tryz.prog 39 #[v] w (Ret (.tuple #[.agg #[.int .i64 y0, .int .i64 y1, .int .i64 y2], .bool b]) w) := by
  rw [← hb.out, ← hy.out]
  cases t with
  | done x => cases hP; exact overYG x.n x.g x.e _ _ _ _ w
  | ask a f => obtain ⟨g, caps, rfl, _⟩ := hP; exact ovnG a _ _ _ w
  | more => obtain ⟨a, g, caps, rfl, _⟩ := hP; exact ovnG a _ _ _ w
theorem ans_G (t : Tr (Gr)) : ∃ y0 y1 y2, ansT kG t = .agg #[.int .i64 y0, .int .i64 y1, .int .i64 y2] := by
  cases t with
  | done x => exact ⟨_, _, _, rfl⟩
  | ask a f => exact ⟨_, _, _, rfl⟩
  | more => exact ⟨_, _, _, rfl⟩
theorem stay_G {lo hi : Nat} {L : Lay} {M : MS} (t : Tr (Gr)) (F : Nat → Prop) (v : Value) (r : Int) (e : BitVec 64) (w : World) (hP : PT kG t F v w) (hM : MemIn lo hi L M w) (hs : Stays r e M t) :
    Calls Tryz.prog 38 #[v, .pointer (some ⟨L.bm, 0, none⟩), .agg #[.int .i64 r, .int .u64 (U e)]] w (Ret (.tuple #[v, .bool false]) w) := by
  cases t with
  | done x => exact stepD_G x F v _ r e w hP
  | ask a f => exact stepR_G a f F v r e w hP hM hs
  | more => exact hs.elim
end Go.Proofs.YtpidmbclgfnekaaGreat
