/-
  Nodes that are retired, in plain numbers: where their words are, and what whole runs of Put, Reclaim and Scan do. Conditions: a formed plan; fewer swaps than a tag can tell.
-/
import Derived.Test.YthjklbonebnekaaGreatGao
import Derived.Test.YthjklbonebnekaaGreatGat
import Derived.Test.YthjklbonebnekaaGreatGau
import Derived.Test.YthjklbonebnekaaGreatGaw
set_option maxRecDepth 8000
set_option maxHeartbeats 4000000
namespace Go.Proofs.YthjklbonebnekaaGreat
open Go Go.RowKit
def Runs {α:Type} (t:Tr α) (M:MS) (k:Nat) (M':MS) (x:α):Prop:=∀ q,runT 0 1#64 (k+q) t M = some (M',k,.done x)
theorem runT_done {α:Type} (x:α) (M:MS) (q:Nat):runT 0 1#64 q (.done x) M = some (M,0,.done x):=by cases q <;> rfl
theorem Runs.done {α:Type} (x:α) (M:MS):Runs (.done x) M 0 M x:=fun _ => runT_done x M _
theorem Runs.ask {α:Type} {a:Acc} {f:BitVec 64 → Tr α} {M M':MS} {k:Nat} {x:α} (h:DoOk M 0 1#64 a.op a.at_) (hr:Runs (f (M.wd 0 a.at_.toNat)) (M.done 0 a.op a.at_ a.a a.b) k M' x):Runs (.ask a f) M (k+1) M' x:=fun q => by
 rw [show k+1+q = (k+q)+1 by omega,runT,if_pos h]
 show Option.map _ (runT 0 1#64 (k+q) (f (M.wd 0 a.at_.toNat)) _) = _
 rw [hr q]
 rfl
theorem runs_of {α:Type}:∀ (n:Nat) (t:Tr α) (M M':MS) (k:Nat) (x:α),runT 0 1#64 n t M = some (M',k,.done x) → Runs t M k M' x
 | 0,t,M,M',k,x,h => by
  rw [runT] at h
  cases h
  exact Runs.done x M
 | n+1,.done r,M,M',k,x,h => by
  rw [runT] at h
  cases h
  exact Runs.done _ M
 | n+1,.more,M,M',k,x,h => by
  rw [runT] at h
  cases h
 | n+1,.ask a f,M,M',k,x,h => by
  rw [runT] at h
  by_cases hd:DoOk M 0 1#64 a.op a.at_
  ·rw [if_pos hd] at h
   obtain ⟨y,h1,h2⟩:=Option.map_eq_some_iff.1 h
   obtain ⟨M1,k1,t1⟩:=y
   simp only [Prod.mk.injEq] at h2
   obtain ⟨rfl,rfl,rfl⟩:=h2
   exact Runs.ask hd (runs_of n _ _ _ _ _ h1)
  ·rw [if_neg hd] at h
   cases h
theorem Runs.bind {α β:Type}:∀ {t:Tr α} {f:α → Tr β} {M M1 M2:MS} {k1 k2:Nat} {x:α} {y:β},Runs t M k1 M1 x → Runs (f x) M1 k2 M2 y → Runs (t.bind f) M (k1+k2) M2 y
 | .done r,f,M,M1,M2,k1,k2,x,y,h1,h2 => by
  have h:=h1 0
  rw [runT_done] at h
  cases h
  rw [Nat.zero_add]
  exact h2
 | .more,f,M,M1,M2,k1,k2,x,y,h1,h2 => by
  have h:=h1 1
  rw [runT] at h
  cases h
 | .ask a g,f,M,M1,M2,k1,k2,x,y,h1,h2 => by
  have h:=h1 1
  rw [runT] at h
  by_cases hd:DoOk M 0 1#64 a.op a.at_
  ·rw [if_pos hd] at h
   obtain ⟨z,hz1,hz2⟩:=Option.map_eq_some_iff.1 h
   obtain ⟨M3,k3,t3⟩:=z
   simp only [Prod.mk.injEq] at hz2
   obtain ⟨rfl,rfl,rfl⟩:=hz2
   have hr:=runs_of _ _ _ _ _ _ hz1
   rw [show k3+1+k2 = (k3+k2)+1 by omega]
   exact Runs.ask hd (Runs.bind hr h2)
  ·rw [if_neg hd] at h
   cases h
theorem Runs.run {α:Type} {t:Tr α} {M M':MS} {k:Nat} {x:α} (h:Runs t M k M' x) {n:Nat} (hn:k ≤ n):runT 0 1#64 n t M = some (M',k,.done x):=by
 have:=h (n - k)
 rwa [show k+(n - k) = n by omega] at this
theorem Runs.get {p:Pl} {M:MS} (hM:Mg p M) {at_:Int} (h0:0 ≤ at_) (h1:at_ < p.sizeF):Runs (getT at_) M 1 (M.done 0 0 at_ 0#64 0#64) (M.wd 0 at_.toNat):=
 Runs.ask (a:=ldA at_) (hM.ok h0 h1 (by show (0:Int) ≤ 0;omega) (by show (0:Int) ≤ 3;omega)) (Runs.done _ _)
theorem Runs.set {p:Pl} {M:MS} (hM:Mg p M) {at_:Int} (x:BitVec 64) (h0:0 ≤ at_) (h1:at_ < p.sizeF):Runs (setT at_ x) M 1 (M.done 0 1 at_ x 0#64) ():=
 Runs.ask (a:=stA at_ x) (hM.ok h0 h1 (by show (0:Int) ≤ 1;omega) (by show (1:Int) ≤ 3;omega)) (Runs.done _ _)
def Only {α:Type} (S:Nat → Prop):Tr α → Prop
 | .done _ => True
 | .more => True
 | .ask a f => (a.op = 0 ∨ S a.at_.toNat) ∧ ∀ x,Only S (f x)
theorem Only.bind {α β:Type} {S:Nat → Prop}:∀ {t:Tr α} {f:α → Tr β},Only S t → (∀ x,Only S (f x)) → Only S (t.bind f)
 | .done r,_,_,h => h r
 | .more,_,_,_ => trivial
 | .ask _ _,_,h1,h2 => ⟨h1.1,fun x => (h1.2 x).bind h2⟩
theorem only_run {α:Type} {S:Nat → Prop}:∀ (n:Nat) {t:Tr α} {M M':MS} {k:Nat} {t':Tr α},Only S t → runT 0 1#64 n t M = some (M',k,t') → ∀ j,¬ S j → M'.wd 0 j = M.wd 0 j
 | 0,t,M,M',k,t',_,h,j,hj => by
  rw [runT] at h
  cases h
  rfl
 | n+1,.done r,M,M',k,t',_,h,j,hj => by
  rw [runT] at h
  cases h
  rfl
 | n+1,.more,M,M',k,t',_,h,j,hj => by
  rw [runT] at h
  cases h
 | n+1,.ask a f,M,M',k,t',ho,h,j,hj => by
  rw [runT] at h
  by_cases hd:DoOk M 0 1#64 a.op a.at_
  ·rw [if_pos hd] at h
   obtain ⟨y,h1,h2⟩:=Option.map_eq_some_iff.1 h
   obtain ⟨M1,k1,t1⟩:=y
   simp only [Prod.mk.injEq] at h2
   obtain ⟨rfl,_,_⟩:=h2
   rw [only_run n (ho.2 _) h1 j hj,wd_done]
   split
   ·rename_i hje
    rcases ho.1 with h0 | h0
    ·rw [h0,hje]
     rfl
    ·exact absurd (hje ▸ h0) hj
   ·rfl
  ·rw [if_neg hd] at h
   cases h
   rfl
theorem Runs.only {α:Type} {S:Nat → Prop} {t:Tr α} {M M':MS} {k:Nat} {x:α} (h:Runs t M k M' x) (ho:Only S t):∀ j,¬ S j → M'.wd 0 j = M.wd 0 j:=fun j hj => only_run _ ho (h 0) j hj
theorem only_get (S:Nat → Prop) (at_:Int):Only S (getT at_):=⟨.inl rfl,fun _ => trivial⟩
theorem only_set {S:Nat → Prop} {at_:Int} {x:BitVec 64} (h:S at_.toNat):Only S (setT at_ x):=⟨.inr h,fun _ => trivial⟩
theorem only_try {S:Nat → Prop} {at_:Int} {x y:BitVec 64} (h:S at_.toNat):Only S (tryT at_ x y):=⟨.inr h,fun _ => trivial⟩
theorem only_sw {p:Pl} (hp:p.ok) {S:Nat → Prop} (h0:S 0) {h x:BitVec 64} {n:Int} {t:Tr Int} (ht:Only S t):Only S (swT p h x n t):=by
 refine Only.bind (only_try (by rw [head_zero hp];exact h0)) fun b => ?_
 cases b with
 | true => exact trivial
 | false => exact ht
theorem only_push {p:Pl} (hp:p.ok) {S:Nat → Prop} (h0:S 0) {n:Int} (hn:S (nxN p n)):∀ N,Only S (pushT p n N)
 | 0 => by
  unfold pushT
  split <;> exact trivial
 | N+1 => by
  unfold pushT
  split
  ·exact trivial
  ·exact (only_get S _).bind fun h => (only_set hn).bind fun _ => only_sw hp h0 (only_push hp h0 hn N)
theorem only_pop {p:Pl} (hp:p.ok) {S:Nat → Prop} (h0:S 0):∀ N,Only S (popT p N)
 | 0 => trivial
 | N+1 => by
  unfold popT
  refine (only_get S _).bind fun h => ?_
  unfold pop1T
  split
  ·exact trivial
  ·exact (only_get S _).bind fun _ => only_sw hp h0 (only_pop hp h0 N)
def sdN (p:Pl) (n:Int):Nat:=(p.stF n).toNat
def fdN (p:Pl) (n o:Int):Nat:=(p.fdF n o).toNat
def cnN (p:Pl) (t:Int):Nat:=(p.cntF t).toNat
def rtN (p:Pl) (t i:Int):Nat:=(p.retF t i).toNat
theorem node_pl {p:Pl} (hp:p.ok) {n:Int} (hn:InR p n):p.stF n = p.nod 0+n * 5 ∧ p.nxF n = p.nod 0+n * 5+1 ∧ (∀ o,0 ≤ o → o < 3 → p.fdF n o = p.nod 0+n * 5+2+o) ∧ 1 ≤ p.nod 0 ∧ p.nod 0+n * 5+5 ≤ p.sizeF:=by
 have h0:=Pl.nod_in hp (x:=0) (by omega) (by have:=hp.1;omega)
 have hs:p.sizeF = p.nod p.n:=by unfold Pl.sizeF;rw [if_pos hp]
 refine ⟨?_,?_,fun o h1 h2 => ?_,h0.1,?_⟩
 ·unfold Pl.stF
  rw [if_pos ⟨hp,hn.1,hn.2⟩]
  unfold Pl.nod
  omega
 ·unfold Pl.nxF
  rw [if_pos ⟨hp,hn.1,hn.2⟩]
  unfold Pl.nod
  omega
 ·unfold Pl.fdF
  rw [if_pos ⟨hp,⟨hn.1,hn.2⟩,h1,h2⟩]
  unfold Pl.nod
  omega
 ·rw [hs]
  unfold Pl.nod
  have:=hn.2
  omega
theorem bq_lt {a n k:Int} (h:a < n) (hk:0 ≤ k):a * k+k ≤ n * k:=by
 have:=Int.mul_le_mul_of_nonneg_right (show a+1 ≤ n by omega) hk
 rw [Int.add_mul] at this
 omega
theorem thr_pl {p:Pl} (hp:p.ok) {t:Int} (h0:0 ≤ t) (h1:t < p.t):p.cntF t = p.cnt t ∧ (∀ i,0 ≤ i → i < p.r → p.retF t i = p.cnt t+1+i) ∧ p.haz p.t ≤ p.cnt t ∧ p.cnt t+1+p.r ≤ p.nod 0 ∧ 1 ≤ p.haz p.t ∧ p.nod 0 < p.sizeF:=by
 have h2:=Pl.haz_in hp (x:=p.t) (by omega) (Int.le_refl _)
 have h3:=bq_lt h1 (show 0 ≤ 1+p.r by unfold Pl.ok at hp;omega)
 have h4:=Int.mul_nonneg h0 (show 0 ≤ 1+p.r by unfold Pl.ok at hp;omega)
 refine ⟨?_,fun i h5 h6 => ?_,?_,?_,h2.1,?_⟩
 ·unfold Pl.cntF
  rw [if_pos ⟨hp,h0,h1⟩]
 ·unfold Pl.retF
  rw [if_pos ⟨hp,⟨h0,h1⟩,h5,h6⟩]
 ·unfold Pl.cnt
  omega
 ·unfold Pl.nod Pl.cnt
  omega
 ·unfold Pl.sizeF
  rw [if_pos hp]
  unfold Pl.nod
  have:=hp.1
  omega
theorem thr_two {p:Pl} (hp:p.ok) {t u:Int} (h:t < u):p.cnt t+1+p.r ≤ p.cnt u:=by
 have h3:=bq_lt h (show 0 ≤ 1+p.r by unfold Pl.ok at hp;omega)
 unfold Pl.cnt
 omega
theorem hz_pl {p:Pl} (hp:p.ok) {i:Nat} (h:(i:Int) < 3 * p.t):1 ≤ hzN p i ∧ (hzN p i:Int) < p.haz p.t:=by
 have hd:=Pl.dom_in hp (Pl.d_in hp).1 (Pl.d_in hp).2
 unfold hzN Pl.haz
 omega
def nst (p:Pl) (M:MS) (n:Int):St:=(ofS (M.wd 0 (sdN p n))).freed p.g
structure Rcl (p:Pl) (M:MS) (fl:List Int) (T:Nat) (n:Int) (M':MS) (fl':List Int) (T':Nat):Prop where
 hl:FL p M' fl' T'
 l':fl' = if (nst p M n).m = 3 then fl else n :: fl
 T':T' ≤ T+1
 st:M'.wd 0 (sdN p n) = (nst p M n).word
 fd:∀ o,0 ≤ o → o < 3 → M'.wd 0 (fdN p n o) = 0#64
 ot:∀ j:Nat,j ≠ 0 → j ≠ nxN p n → j ≠ sdN p n → (∀ o,0 ≤ o → o < 3 → j ≠ fdN p n o) → M'.wd 0 j = M.wd 0 j
theorem FL.of {p:Pl} {M M':MS} {l:List Int} {T:Nat} (h:FL p M l T) (hm:Mg p M') (h0:M'.wd 0 0 = M.wd 0 0) (hn:∀ n,InR p n → M'.wd 0 (nxN p n) = M.wd 0 (nxN p n)):FL p M' l T:=
 ⟨hm,by rw [h0];exact h.hd,by rw [h0];exact h.tg,h.ch.congr fun n hn' => hn n (h.rg n hn'),h.nd,h.rg⟩
theorem runs_ls {p:Pl}:∀ (l:List Acc) {tr:Tr Int} {M M1 M2:MS} {k:Nat} {y:Int},(∀ a ∈ l,∀ M,Mg p M → DoOk M 0 1#64 a.op a.at_) → Mg p M → M1 = l.foldl (fun m a => m.done 0 a.op a.at_ a.a a.b) M → Runs tr M1 k M2 y → Runs (lsT l tr) M (l.length+k) M2 y
 | [],tr,M,M1,M2,k,y,_,_,e,h => by
  subst e
  rw [List.length_nil,Nat.zero_add]
  exact h
 | a :: l,tr,M,M1,M2,k,y,ho,hm,e,h => by
  rw [List.length_cons,show l.length+1+k = (l.length+k)+1 by omega]
  exact Runs.ask (ho a (by simp) M hm) (runs_ls l (fun b hb => ho b (by simp [hb])) (hm.done _ _ _ _ _) e h)
theorem rcl_run {p:Pl} (hp:p.ok) {M:MS} {fl:List Int} {T:Nat} {n:Int} (hL:FL p M fl T) (hn:InR p n) (hnl:n ∉ fl) (hT:T < 8796093022207) (N:Nat) :
  ∃ M' fl' T' k,Runs (rclT p n (N+2)) M k M' (if (nst p M n).m = 3 then -1 else n) ∧ k ≤ 8 ∧ Rcl p M fl T n M' fl' T':=by
 obtain ⟨e1,e2,e3,e4,e5⟩:=node_pl hp hn
 have f0:=e3 0 (by omega) (by omega)
 have f1:=e3 1 (by omega) (by omega)
 have f2:=e3 2 (by omega) (by omega)
 have hn0:=hn.1
 have ew:wipeL p n = [stA (p.fdF n 0) 0#64,stA (p.fdF n 1) 0#64,stA (p.fdF n 2) 0#64]:=by
  unfold wipeL Pl.wdsF
  rw [if_pos ⟨hp,hn.1,hn.2⟩]
  rfl
 obtain ⟨M1,hM1⟩ : ∃ M1,M1 = (wipeL p n).foldl (fun m a => m.done 0 a.op a.at_ a.a a.b) M:=⟨_,rfl⟩
 have hM1':M1 = ((M.done 0 1 (p.fdF n 0) 0#64 0#64).done 0 1 (p.fdF n 1) 0#64 0#64).done 0 1 (p.fdF n 2) 0#64 0#64:=by rw [hM1,ew];rfl
 have g1:Mg p M1:=by rw [hM1'];exact ((hL.mg.done _ _ _ _ _).done _ _ _ _ _).done _ _ _ _ _
 have w1:∀ j,M1.wd 0 j = if j = fdN p n 2 then 0#64 else if j = fdN p n 1 then 0#64 else if j = fdN p n 0 then 0#64 else M.wd 0 j:=fun j => by
  rw [hM1',wd_store,wd_store,wd_store]
  rfl
 have w1o:∀ j:Nat,(∀ o,0 ≤ o → o < 3 → j ≠ fdN p n o) → M1.wd 0 j = M.wd 0 j:=fun j hj => by
  rw [w1,if_neg (hj 2 (by omega) (by omega)),if_neg (hj 1 (by omega) (by omega)),if_neg (hj 0 (by omega) (by omega))]
 have w1f:∀ o,0 ≤ o → o < 3 → M1.wd 0 (fdN p n o) = 0#64:=fun o h0 h3 => by
  rw [w1]
  rcases (show o = 0 ∨ o = 1 ∨ o = 2 by omega) with rfl | rfl | rfl
  ·rw [if_pos rfl,ite_self,ite_self]
  ·rw [if_pos rfl,ite_self]
  ·rw [if_pos rfl]
 have dfd:∀ o,0 ≤ o → o < 3 → sdN p n ≠ fdN p n o ∧ nxN p n ≠ fdN p n o ∧ (0:Nat) ≠ fdN p n o:=fun o h0 h3 => by
  have:=e3 o h0 h3
  unfold sdN nxN fdN
  omega
 have dno:∀ m,InR p m → ∀ o,0 ≤ o → o < 3 → nxN p m ≠ fdN p n o:=fun m hm o h0 h3 => by
  have h1:=e3 o h0 h3
  obtain ⟨_,h2,_,h3,_⟩:=node_pl hp hm
  have:=hm.1
  unfold nxN fdN
  omega
 have dns:∀ m,InR p m → nxN p m ≠ sdN p n:=fun m hm => by
  obtain ⟨_,h2,_,h3,_⟩:=node_pl hp hm
  have:=hm.1
  unfold nxN sdN
  omega
 have dst:sdN p n ≠ 0:=by unfold sdN;omega
 have L1:FL p M1 fl T:=hL.of g1 (w1o 0 fun o h0 h3 => (dfd o h0 h3).2.2) fun m hm => w1o _ (dno m hm)
 have s1:M1.wd 0 (sdN p n) = M.wd 0 (sdN p n):=w1o _ fun o h0 h3 => (dfd o h0 h3).1
 obtain ⟨M2,hM2⟩ : ∃ M2,M2 = M1.done 0 0 (p.stF n) 0#64 0#64:=⟨_,rfl⟩
 have w2:∀ j,M2.wd 0 j = M1.wd 0 j:=fun j => by rw [hM2];exact wd_load _ _ _ _ _
 have g2:Mg p M2:=by rw [hM2];exact g1.done _ _ _ _ _
 obtain ⟨M3,hM3⟩ : ∃ M3,M3 = M2.done 0 1 (p.stF n) (nst p M n).word 0#64:=⟨_,rfl⟩
 have w3:∀ j,M3.wd 0 j = if j = sdN p n then (nst p M n).word else M1.wd 0 j:=fun j => by
  rw [hM3,wd_store]
  show (if j = sdN p n then _ else M2.wd 0 j) = _
  rw [w2]
 have g3:Mg p M3:=by rw [hM3];exact g2.done _ _ _ _ _
 have L3:FL p M3 fl T:=L1.of g3 (by rw [w3,if_neg (Ne.symm dst)]) fun m hm => by rw [w3,if_neg (dns m hm)]
 have r2:Runs (getT (p.stF n)) M1 1 M2 (M.wd 0 (sdN p n)):=by
  have:=Runs.get g1 (at_:=p.stF n) (by omega) (by omega)
  rw [← hM2] at this
  rw [← s1]
  exact this
 have r3:Runs (setT (p.stF n) (nst p M n).word) M2 1 M3 ():=by
  rw [hM3]
  exact Runs.set g2 _ (by omega) (by omega)
 have rW:∀ {k:Nat} {M4:MS} {y:Int},Runs (frd2T p n (nst p M n) (N+2)) M3 k M4 y → Runs (rclT p n (N+2)) M (3+(1+(1+k))) M4 y:=fun {k M4 y} h => by
  have h4:Runs (rcl1T p n (N+2)) M1 (1+(1+k)) M4 y:=by
   unfold rcl1T
   refine Runs.bind r2 ?_
   unfold frdT
   exact Runs.bind r3 h
  have:=runs_ls (p:=p) (wipeL p n) (M:=M) (tr:=rcl1T p n (N+2)) (fun a ha M' hM' => by
   rw [ew] at ha
   simp at ha
   rcases ha with rfl | rfl | rfl
   ·exact hM'.ok (by show 0 ≤ p.fdF n 0;omega) (by show p.fdF n 0 < _;omega) (by show (0:Int) ≤ 1;omega) (by show (1:Int) ≤ 3;omega)
   ·exact hM'.ok (by show 0 ≤ p.fdF n 1;omega) (by show p.fdF n 1 < _;omega) (by show (0:Int) ≤ 1;omega) (by show (1:Int) ≤ 3;omega)
   ·exact hM'.ok (by show 0 ≤ p.fdF n 2;omega) (by show p.fdF n 2 < _;omega) (by show (0:Int) ≤ 1;omega) (by show (1:Int) ≤ 3;omega)) hL.mg hM1 h4
  rw [show (wipeL p n).length = 3 by rw [ew];rfl] at this
  exact this
 have w3o:∀ j:Nat,j ≠ sdN p n → (∀ o,0 ≤ o → o < 3 → j ≠ fdN p n o) → M3.wd 0 j = M.wd 0 j:=fun j h1 h2 => by
  rw [w3,if_neg h1]
  exact w1o j h2
 by_cases hq:(nst p M n).m = 3
 ·rw [if_pos hq]
  refine ⟨M3,fl,T,_,rW (k:=0) (by unfold frd2T;rw [if_pos hq];exact Runs.done _ _),by omega,L3,by rw [if_pos hq],by omega,by rw [w3,if_pos rfl],fun o h0 h3 => ?_,fun j _ _ h3 h4 => w3o j h3 h4⟩
  rw [w3,if_neg (Ne.symm (dfd o h0 h3).1)]
  exact w1f o h0 h3
 ·rw [if_neg hq]
  obtain ⟨M4,r4,L4,_⟩:=push_run hp L3 hT hn hnl N 0
  have r4':=runs_of _ _ _ _ _ _ r4
  have ho:=r4'.only (S:=fun j => j = 0 ∨ j = nxN p n) (only_push hp (.inl rfl) (.inr rfl) _)
  refine ⟨M4,n :: fl,T+1,_,rW (k:=3) (by unfold frd2T;rw [if_neg hq];exact r4'),by omega,L4,by rw [if_neg hq],by omega,?_,fun o h0 h3 => ?_,fun j h1 h2 h3 h4 => ?_⟩
  ·rw [ho _ (by rintro (h | h);exact dst h;exact dns n hn h.symm),w3,if_pos rfl]
  ·have hd:=dfd o h0 h3
   rw [ho _ (by rintro (h | h);exact hd.2.2 h.symm;exact hd.2.1 h.symm),w3,if_neg (Ne.symm hd.1)]
   exact w1f o h0 h3
  ·rw [ho _ (by rintro (h | h);exact h1 h;exact h2 h)]
   exact w3o j h3 h4
structure RTs (p:Pl) (M:MS) (t:Int) (l:List Int):Prop where
 len:(l.length:Int) ≤ p.r
 cn:M.wd 0 (cnN p t) = cntW l.length
 rt:∀ i,i < l.length → M.wd 0 (rtN p t (i:Int)) = nameW (iN l i)
 rg:∀ n ∈ l,InR p n
theorem iN_mem {l:List Int} {i:Nat} (h:i < l.length):iN l i ∈ l:=by
 have:iN l i = l[i]:=by simp [iN,List.getD_eq_getElem?_getD,h]
 rw [this]
 exact List.getElem_mem h
theorem iN_eq {l:List Int} {i:Nat} (h:i < l.length):iN l i = l[i]:=by simp [iN,List.getD_eq_getElem?_getD,h]
theorem RTs.of {p:Pl} {M M':MS} {t:Int} {l:List Int} (hp:p.ok) (h0:0 ≤ t) (h1:t < p.t) (h:RTs p M t l) (hw:∀ j:Nat,p.cnt t ≤ j → (j:Int) < p.cnt t+1+p.r → M'.wd 0 j = M.wd 0 j):RTs p M' t l:=by
 obtain ⟨q1,q2,q3,q4,q5,q6⟩:=thr_pl hp h0 h1
 have hr:1 ≤ p.r:=by unfold Pl.ok at hp;omega
 have hl:=h.len
 refine ⟨h.len,?_,fun i hi => ?_,h.rg⟩
 ·rw [hw _ (by unfold cnN;omega) (by unfold cnN;omega)]
  exact h.cn
 ·have:=q2 (i:Int) (by omega) (by omega)
  rw [hw _ (by unfold rtN;omega) (by unfold rtN;omega)]
  exact h.rt i hi
theorem put_run {p:Pl} (hp:p.ok) {M:MS} (hG:Mg p M) {t:Int} (h0:0 ≤ t) (h1:t < p.t) {l:List Int} (hL:RTs p M t l) {n:Int} (hn:InR p n) :
  if (l.length:Int) = p.r then ∃ M',Runs (putT p t n) M 1 M' (-1) ∧ Mg p M' ∧ ∀ j,M'.wd 0 j = M.wd 0 j
  else ∃ M',Runs (putT p t n) M 3 M' (l.length+1) ∧ Mg p M' ∧ RTs p M' t (l ++ [n]) ∧ ∀ j:Nat,((j:Int) < p.cnt t ∨ p.cnt t+1+p.r ≤ j) → M'.wd 0 j = M.wd 0 j:=by
 obtain ⟨q1,q2,q3,q4,q5,q6⟩:=thr_pl hp h0 h1
 have hr:p.r ≤ 1024:=by unfold Pl.ok at hp;omega
 have hlr:=hL.len
 have hg:=Runs.get hG (at_:=p.cntF t) (by omega) (by omega)
 have hcw:M.wd 0 (p.cntF t).toNat = cntW l.length:=hL.cn
 rw [hcw] at hg
 have hcr:cntR p (cntW l.length) = l.length:=cntR_cntW (by omega) hlr hr
 have g1:=hG.done 0 0 (p.cntF t) 0#64 0#64
 have w1:=wd_load M (p.cntF t) 0#64 0#64
 split
 ·rename_i hq
  refine ⟨_,Runs.bind hg (k2:=0) ?_,g1,w1⟩
  unfold put1T
  rw [hcr,if_pos hq]
  exact Runs.done _ _
 ·rename_i hq
  have eR:=q2 (l.length:Int) (by omega) (by omega)
  have s1:=Runs.set g1 (at_:=p.retF t l.length) (nameW n) (by omega) (by omega)
  have g2:=g1.done 0 1 (p.retF t l.length) (nameW n) 0#64
  have w2:=wd_store (M.done 0 0 (p.cntF t) 0#64 0#64) (p.retF t l.length) (nameW n) 0#64
  have s2:=Runs.set g2 (at_:=p.cntF t) (cntW (l.length+1)) (by omega) (by omega)
  have g3:=g2.done 0 1 (p.cntF t) (cntW (l.length+1)) 0#64
  have w3:=wd_store ((M.done 0 0 (p.cntF t) 0#64 0#64).done 0 1 (p.retF t l.length) (nameW n) 0#64) (p.cntF t) (cntW (l.length+1)) 0#64
  have W:∀ j:Nat,((((M.done 0 0 (p.cntF t) 0#64 0#64).done 0 1 (p.retF t l.length) (nameW n) 0#64).done 0 1 (p.cntF t) (cntW (l.length+1)) 0#64).wd 0 j) = if (j:Int) = p.cnt t then cntW (l.length+1) else if (j:Int) = p.cnt t+1+l.length then nameW n else M.wd 0 j:=fun j => by
   rw [w3,w2,w1]
   by_cases e1:(j:Int) = p.cnt t
   ·rw [if_pos e1,if_pos (by omega)]
   ·rw [if_neg e1,if_neg (by omega)]
    by_cases e2:(j:Int) = p.cnt t+1+l.length
    ·rw [if_pos e2,if_pos (by omega)]
    ·rw [if_neg e2,if_neg (by omega)]
  refine ⟨_,Runs.bind hg (k2:=2) ?_,g3,⟨by simp;omega,?_,fun i hi => ?_,fun m hm => ?_⟩,fun j hj => ?_⟩
  ·unfold put1T
   rw [hcr,if_neg hq]
   refine Runs.bind (k1:=1) (k2:=1) s1 ?_
   unfold put2T
   exact Runs.bind (k1:=1) (k2:=0) s2 (Runs.done _ _)
  ·rw [W,if_pos (by unfold cnN;omega)]
   simp
  ·have hi':i ≤ l.length:=by simp at hi;omega
   have eI:=q2 (i:Int) (by omega) (by omega)
   rw [W,if_neg (by unfold rtN;omega)]
   by_cases e:i = l.length
   ·subst e
    rw [if_pos (by unfold rtN;omega),iN_snoc_eq]
   ·rw [if_neg (by unfold rtN;omega),iN_snoc_lt l n i (by omega)]
    exact hL.rt i (by omega)
  ·rcases List.mem_append.1 hm with hm | hm
   ·exact hL.rg m hm
   ·simp at hm
    subst hm
    exact hn
  ·rw [W,if_neg (by omega),if_neg (by omega)]
def hldB (p:Pl) (hd:Nat → BitVec 64) (n:Int):Bool:=(heldR hd (nameW n) (3 * p.t).toNat 0).1
theorem held_run {p:Pl} (hp:p.ok) {M:MS} (hG:Mg p M) {hd:Nat → BitVec 64} (hh:∀ i:Nat,(i:Int) < 3 * p.t → hzW p M i = hd i) {n:Int} (hn:0 ≤ n) :
  ∃ M' c,Runs (hldT p n (p.t * 3 - 1).toNat 0) M c M' (hldB p hd n) ∧ c ≤ 48 ∧ Mg p M' ∧ ∀ j,M'.wd 0 j = M.wd 0 j:=by
 have ht:=hp.2.1
 obtain ⟨M',b,c,r1,r2,r3⟩:=hld_run hp hn (p.t * 3 - 1).toNat 0 M 0 (by omega) hG
 have e:(p.t * 3 - 1).toNat+1 = (3 * p.t).toNat:=by omega
 have hc:heldR (hzW p M) (nameW n) (3 * p.t).toNat 0 = heldR hd (nameW n) (3 * p.t).toNat 0:=heldR_congr _ _ fun j hj => hh j (by omega)
 rw [e,hc] at r3
 have hb:hldB p hd n = b:=by unfold hldB;rw [r3]
 have hle:=heldR_le (x:=hd) (m:=nameW n) (3 * p.t).toNat 0
 rw [r3] at hle
 simp only at hle
 rw [hb]
 exact ⟨M',c,runs_of _ _ _ _ _ _ r1,by omega,r2⟩
def rmv (l:List Int) (k:Nat):List Int:=(l.set k (iN l (l.length - 1))).take (l.length - 1)
theorem rmv_len (l:List Int) (k:Nat):(rmv l k).length = l.length - 1:=by simp [rmv]
theorem rmv_at {l:List Int} {k i:Nat} (hk:k < l.length) (hi:i < l.length - 1):iN (rmv l k) i = if i = k then iN l (l.length - 1) else iN l i:=by
 rw [iN_eq (by rw [rmv_len];exact hi)]
 unfold rmv
 rw [List.getElem_take,List.getElem_set]
 split
 ·rename_i h;rw [if_pos h.symm]
 ·rename_i h
  rw [if_neg (Ne.symm h)]
  exact (iN_eq (l:=l) (by omega)).symm
theorem rmv_perm {l:List Int} {k:Nat} (hk:k < l.length):l.Perm (iN l k :: rmv l k):=by
 obtain ⟨a,z,rfl⟩ : ∃ a z,l = a ++ [z]:=⟨l.dropLast,l.getLast (by intro h;simp [h] at hk),(List.dropLast_concat_getLast _).symm⟩
 have hz:iN (a ++ [z]) ((a ++ [z]).length - 1) = z:=by
  rw [List.length_append,List.length_cons,List.length_nil,Nat.zero_add,Nat.add_sub_cancel,iN_snoc_eq]
 by_cases e:k = a.length
 ·subst e
  rw [iN_snoc_eq]
  have:rmv (a ++ [z]) a.length = a:=by
   unfold rmv
   simp
  rw [this]
  exact List.perm_append_comm (l₁:=a) (l₂:=[z])
 ·have hka:k < a.length:=by simp at hk;omega
  have h1:rmv (a ++ [z]) k = a.set k z:=by
   unfold rmv
   rw [hz,List.set_append_left _ _ hka]
   simp
  rw [h1,iN_snoc_lt a z k hka,iN_eq hka]
  have h2:a.Perm (a[k] :: (a.take k ++ a.drop (k+1))):=by
   have e2:a.take k ++ a[k] :: a.drop (k+1) = a:=by rw [← List.drop_eq_getElem_cons hka,List.take_append_drop]
   have h:=List.perm_middle (a:=a[k]) (l₁:=a.take k) (l₂:=a.drop (k+1))
   rwa [e2] at h
  have h3:(a.set k z).Perm (z :: (a.take k ++ a.drop (k+1))):=by
   rw [List.set_eq_take_append_cons_drop,if_pos hka]
   exact List.perm_middle
  refine (List.perm_append_comm (l₁:=a) (l₂:=[z])).trans ?_
  refine (List.Perm.cons z h2).trans ?_
  refine (List.Perm.swap _ _ _).trans ?_
  exact List.Perm.cons _ h3.symm
def scanP (H:Int → Bool):Nat → List Int → List Int → List Int × List Int
 | 0,l,out => (l,out)
 | k+1,l,out => if H (iN l k) then scanP H k l out else scanP H k (rmv l k) (out ++ [iN l k])
theorem scanP_len (H:Int → Bool):∀ (k:Nat) (l out:List Int),k ≤ l.length → (scanP H k l out).1.length+(scanP H k l out).2.length = l.length+out.length
 | 0,l,out,_ => rfl
 | k+1,l,out,h => by
  unfold scanP
  split
  ·exact scanP_len H k l out (by omega)
  ·rw [scanP_len H k (rmv l k) (out ++ [iN l k]) (by rw [rmv_len];omega),rmv_len]
   simp
   omega
theorem scanP_perm (H:Int → Bool):∀ (k:Nat) (l out:List Int),k ≤ l.length → ((scanP H k l out).1 ++ (scanP H k l out).2).Perm (l ++ out)
 | 0,l,out,_ => .refl _
 | k+1,l,out,h => by
  unfold scanP
  split
  ·exact scanP_perm H k l out (by omega)
  ·refine (scanP_perm H k (rmv l k) (out ++ [iN l k]) (by rw [rmv_len];omega)).trans ?_
   refine List.Perm.trans ?_ (List.Perm.append_right out (rmv_perm (l:=l) (k:=k) (by omega)).symm)
   rw [← List.append_assoc]
   exact List.perm_append_comm (l₁:=rmv l k ++ out) (l₂:=[iN l k])
theorem scanP_held (H:Int → Bool):∀ (k:Nat) (l out:List Int),k ≤ l.length → (∀ i,k ≤ i → i < l.length → H (iN l i) = true) → ∀ i,i < (scanP H k l out).1.length → H (iN (scanP H k l out).1 i) = true
 | 0,_,_,_,hh => fun i hi => hh i (Nat.zero_le _) hi
 | k+1,l,out,h,hh => by
  unfold scanP
  split
  ·rename_i hy
   exact scanP_held H k l out (by omega) fun i h1 h2 => by
    by_cases e:i = k
    ·rw [e];exact hy
    ·exact hh i (by omega) h2
  ·refine scanP_held H k (rmv l k) (out ++ [iN l k]) (by rw [rmv_len];omega) fun i h1 h2 => ?_
   rw [rmv_len] at h2
   rw [rmv_at (by omega) h2]
   split
   ·exact hh _ (by omega) (by omega)
   ·exact hh i (by omega) (by omega)
theorem scanP_none (H:Int → Bool):∀ (k:Nat) (l out:List Int),k = l.length → (∀ i,i < l.length → H (iN l i) = false) → (scanP H k l out).1 = []
 | 0,l,out,h,_ => List.eq_nil_of_length_eq_zero h.symm
 | k+1,l,out,h,hh => by
  unfold scanP
  rw [if_neg (by rw [hh k (by omega)];simp)]
  refine scanP_none H k (rmv l k) _ (by rw [rmv_len];omega) fun i hi => ?_
  rw [rmv_len] at hi
  rw [rmv_at (by omega) hi]
  split
  ·exact hh _ (by omega)
  ·exact hh i (by omega)
end Go.Proofs.YthjklbonebnekaaGreat

