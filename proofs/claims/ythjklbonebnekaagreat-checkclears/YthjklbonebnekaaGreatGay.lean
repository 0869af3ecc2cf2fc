/-
  A whole Scan, in plain numbers. Conditions: a formed plan; hazards that stay; fewer swaps than a tag can tell.
-/
import Derived.Test.YthjklbonebnekaaGreatGat
import Derived.Test.YthjklbonebnekaaGreatGax
set_option maxRecDepth 8000
set_option maxHeartbeats 4000000
namespace Go.Proofs.YthjklbonebnekaaGreat
open Go Go.RowKit
def pushL (gone:Int → Bool) (fl:List Int):List Int → List Int
 | [] => fl
 | n :: out => pushL gone (if gone n then fl else n :: fl) out
theorem pushL_snoc (gone:Int → Bool):∀ (out fl:List Int) (n:Int),pushL gone fl (out ++ [n]) = if gone n then pushL gone fl out else n :: pushL gone fl out
 | [],fl,n => by
  show pushL gone (if gone n then fl else n :: fl) [] = _
  unfold pushL
  split <;> rfl
 | m :: out,fl,n => pushL_snoc gone out _ n
def goneB (p:Pl) (M:MS) (n:Int):Bool:=decide ((nst p M n).m = 3)
structure ScIn (p:Pl) (t:Int) (M0:MS) (fl0:List Int) (T0:Nat) (hd:Nat → BitVec 64) (M:MS) (l out:List Int) (T:Nat):Prop where
 mg:Mg p M
 rt:RTs p M t l
 fl:FL p M (pushL (goneB p M0) fl0 out) T
 nd:(l ++ out).Nodup
 nf:∀ n ∈ l,n ∉ pushL (goneB p M0) fl0 out
 tt:T ≤ T0+out.length
 st:∀ n,InR p n → n ∉ out → M.wd 0 (sdN p n) = M0.wd 0 (sdN p n)
 dn:∀ n ∈ out,InR p n ∧ M.wd 0 (sdN p n) = (nst p M0 n).word ∧ ∀ o,0 ≤ o → o < 3 → M.wd 0 (fdN p n o) = 0#64
 hz:∀ i:Nat,(i:Int) < 3 * p.t → hzW p M i = hd i
 ot:∀ j:Nat,1 ≤ j → (j:Int) < p.nod 0 → ((j:Int) < p.cnt t ∨ p.cnt t+1+p.r ≤ j) → M.wd 0 j = M0.wd 0 j
 fd:∀ n,InR p n → n ∉ out → ∀ o,0 ≤ o → o < 3 → M.wd 0 (fdN p n o) = M0.wd 0 (fdN p n o)
section
variable {p:Pl} {t:Int} {M0:MS} {fl0:List Int} {T0:Nat} {hd:Nat → BitVec 64}
theorem ScIn.same (hp:p.ok) (h0:0 ≤ t) (h1:t < p.t) {M M':MS} {l out:List Int} {T:Nat} (h:ScIn p t M0 fl0 T0 hd M l out T) (hm:Mg p M') (hs:∀ j,M'.wd 0 j = M.wd 0 j):ScIn p t M0 fl0 T0 hd M' l out T:=
 ⟨hm,h.rt.of hp h0 h1 fun j _ _ => hs j,h.fl.same hm hs,h.nd,h.nf,h.tt,fun n a b => (hs _).trans (h.st n a b),fun n hn => ⟨(h.dn n hn).1,(hs _).trans (h.dn n hn).2.1,fun o a b => (hs _).trans ((h.dn n hn).2.2 o a b)⟩,fun i hi => (hs _).trans (h.hz i hi),fun j a b c => (hs j).trans (h.ot j a b c),fun n a b o c d => (hs _).trans (h.fd n a b o c d)⟩
theorem fill_run (hp:p.ok) (h0:0 ≤ t) (h1:t < p.t) {M:MS} (hG:Mg p M) {l:List Int} (hL:RTs p M t l) {i:Nat} (hi:i < l.length) :
  ∃ M' k,Runs ((fillT p t (i:Int) ((l.length:Int) - 1)).bind fun _ => setT (p.cntF t) (cntW ((l.length:Int) - 1))) M k M' () ∧ k ≤ 3 ∧ Mg p M' ∧ RTs p M' t (rmv l i) ∧ ∀ j:Nat,((j:Int) < p.cnt t ∨ p.cnt t+1+p.r ≤ j) → M'.wd 0 j = M.wd 0 j:=by
 obtain ⟨q1,q2,q3,q4,q5,q6⟩:=thr_pl hp h0 h1
 have hlr:=hL.len
 have eI:=q2 (i:Int) (by omega) (by omega)
 have eL:=q2 ((l.length:Int) - 1) (by omega) (by omega)
 have fin:∀ M1:MS,Mg p M1 → (∀ j:Nat,M1.wd 0 j = if (j:Int) = p.cnt t+1+i then nameW (iN l (l.length - 1)) else M.wd 0 j) →
   RTs p (M1.done 0 1 (p.cntF t) (cntW ((l.length:Int) - 1)) 0#64) t (rmv l i) ∧ ∀ j:Nat,((j:Int) < p.cnt t ∨ p.cnt t+1+p.r ≤ j) → (M1.done 0 1 (p.cntF t) (cntW ((l.length:Int) - 1)) 0#64).wd 0 j = M.wd 0 j:=fun M1 _ w1 => by
  have W:∀ j:Nat,(M1.done 0 1 (p.cntF t) (cntW ((l.length:Int) - 1)) 0#64).wd 0 j = if (j:Int) = p.cnt t then cntW ((l.length:Int) - 1) else if (j:Int) = p.cnt t+1+i then nameW (iN l (l.length - 1)) else M.wd 0 j:=fun j => by
   rw [wd_store,w1]
   by_cases e1:(j:Int) = p.cnt t
   ·rw [if_pos e1,if_pos (by omega)]
   ·rw [if_neg e1,if_neg (by omega)]
  refine ⟨⟨by rw [rmv_len];omega,?_,fun k hk => ?_,fun n hn => ?_⟩,fun j hj => ?_⟩
  ·rw [W,if_pos (by unfold cnN;omega),rmv_len]
   congr 1
   omega
  ·rw [rmv_len] at hk
   have eK:=q2 (k:Int) (by omega) (by omega)
   rw [W,if_neg (by unfold rtN;omega),rmv_at hi hk]
   by_cases e:k = i
   ·rw [if_pos (by unfold rtN;omega),if_pos e]
   ·rw [if_neg (by unfold rtN;omega),if_neg e]
    exact hL.rt k (by omega)
  ·refine hL.rg n ?_
   exact ((rmv_perm hi).symm.subset) (by simp [hn])
  ·rw [W,if_neg (by omega),if_neg (by omega)]
 by_cases hq:(i:Int) = (l.length:Int) - 1
 ·have hf:fillT p t (i:Int) ((l.length:Int) - 1) = .done ():=by unfold fillT;rw [if_pos hq]
  rw [hf]
  have w1:∀ j:Nat,M.wd 0 j = if (j:Int) = p.cnt t+1+i then nameW (iN l (l.length - 1)) else M.wd 0 j:=fun j => by
   split
   ·rename_i e
    have h:=hL.rt i hi
    rw [show rtN p t (i:Int) = j by unfold rtN;omega] at h
    rw [h,show l.length - 1 = i by omega]
   ·rfl
  obtain ⟨f1,f2⟩:=fin M hG w1
  exact ⟨_,0+1,Runs.bind (Runs.done () M) (Runs.set hG _ (by omega) (by omega)),by omega,hG.done _ _ _ _ _,f1,f2⟩
 ·have hf:fillT p t (i:Int) ((l.length:Int) - 1) = (getT (p.retF t ((l.length:Int) - 1))).bind fun x => setT (p.retF t i) x:=by unfold fillT;rw [if_neg hq]
  rw [hf]
  have r1:=Runs.get hG (at_:=p.retF t ((l.length:Int) - 1)) (by omega) (by omega)
  have hlast:M.wd 0 (p.retF t ((l.length:Int) - 1)).toNat = nameW (iN l (l.length - 1)):=by
   have h:=hL.rt (l.length - 1) (by omega)
   rw [show ((l.length - 1:Nat):Int) = (l.length:Int) - 1 by omega] at h
   exact h
  rw [hlast] at r1
  have g1:=hG.done 0 0 (p.retF t ((l.length:Int) - 1)) 0#64 0#64
  have r2:=Runs.set g1 (at_:=p.retF t i) (nameW (iN l (l.length - 1))) (by omega) (by omega)
  have g2:=g1.done 0 1 (p.retF t i) (nameW (iN l (l.length - 1))) 0#64
  have w2:∀ j:Nat,((M.done 0 0 (p.retF t ((l.length:Int) - 1)) 0#64 0#64).done 0 1 (p.retF t i) (nameW (iN l (l.length - 1))) 0#64).wd 0 j = if (j:Int) = p.cnt t+1+i then nameW (iN l (l.length - 1)) else M.wd 0 j:=fun j => by
   rw [wd_store,wd_load]
   by_cases e1:(j:Int) = p.cnt t+1+i
   ·rw [if_pos e1,if_pos (by omega)]
   ·rw [if_neg e1,if_neg (by omega)]
  obtain ⟨f1,f2⟩:=fin _ g2 w2
  exact ⟨_,(1+1)+1,Runs.bind (Runs.bind r1 r2) (Runs.set g2 _ (by omega) (by omega)),by omega,g2.done _ _ _ _ _,f1,f2⟩
theorem Runs.bind_of {α β γ:Type} {t:Tr α} {f:α → Tr β} {g:β → Tr γ} {M M2:MS} {k:Nat} {y:γ} (h:Runs ((t.bind f).bind g) M k M2 y):Runs (t.bind fun x => (f x).bind g) M k M2 y:=by
 have e:∀ t:Tr α,(t.bind f).bind g = t.bind fun x => (f x).bind g:=fun t => by
  induction t with
  | done r => rfl
  | more => rfl
  | ask a k ih => exact congrArg (Tr.ask a) (funext fun x => ih x)
 rw [← e t]
 exact h
theorem scn_run (hp:p.ok) (h0:0 ≤ t) (h1:t < p.t) (hT:T0 ≤ 2000000) (N:Nat):∀ (k:Nat) (M:MS) (l out:List Int) (T:Nat) (were:Int),ScIn p t M0 fl0 T0 hd M l out T → k ≤ l.length → out.length+l.length ≤ 1024 →
  ∃ M' T' s,Runs (scnT p t (N+2) k were (l.length:Int)) M s M' (were - (((scanP (hldB p hd) k l out).1).length:Int)) ∧ s ≤ 60 * k ∧ ScIn p t M0 fl0 T0 hd M' (scanP (hldB p hd) k l out).1 (scanP (hldB p hd) k l out).2 T'
 | 0,M,l,out,T,were,hS,_,_ => ⟨M,T,0,Runs.done _ _,by omega,hS⟩
 | k+1,M,l,out,T,were,hS,hk,hb => by
  obtain ⟨q1,q2,q3,q4,q5,q6⟩:=thr_pl hp h0 h1
  have hlr:=hS.rt.len
  have eK:=q2 (k:Int) (by omega) (by omega)
  have hkl:k < l.length:=by omega
  obtain ⟨n,hn⟩ : ∃ n,n = iN l k:=⟨_,rfl⟩
  have hnl:n ∈ l:=hn ▸ iN_mem hkl
  have hnr:=hS.rt.rg n hnl
  have r1:=Runs.get hS.mg (at_:=p.retF t (k:Int)) (by omega) (by omega)
  have hw:M.wd 0 (p.retF t (k:Int)).toNat = nameW n:=hn ▸ hS.rt.rt k hkl
  rw [hw] at r1
  have S1:=hS.same hp h0 h1 (hS.mg.done 0 0 (p.retF t (k:Int)) 0#64 0#64) (wd_load M _ _ _)
  obtain ⟨M2,c,r2,hc,g2,w2⟩:=held_run hp S1.mg S1.hz hnr.1
  have S2:=S1.same hp h0 h1 g2 w2
  have hnm:nmdR p (nameW n) = n:=nmdR_nameW hnr.1 hnr.2 hp.1.2
  have hst:stysT p n = hldT p n (p.t * 3 - 1).toNat 0:=by unfold stysT;rw [if_neg (by have:=hnr.1;omega)]
  rw [← hst] at r2
  by_cases hh:hldB p hd n = true
  ·have e:scanP (hldB p hd) (k+1) l out = scanP (hldB p hd) k l out:=by rw [scanP,← hn,if_pos hh]
   rw [e]
   rw [hh] at r2
   obtain ⟨M3,T3,s3,r3,hs3,S3⟩:=scn_run hp h0 h1 hT N k M2 l out T were S2 (by omega) hb
   refine ⟨M3,T3,1+(c+s3),?_,by omega,S3⟩
   unfold scnT
   refine Runs.bind r1 ?_
   unfold sc2T
   rw [hnm]
   refine Runs.bind r2 ?_
   unfold sc3T
   rw [if_pos rfl]
   exact r3
  ·have hh':hldB p hd n = false:=by simpa using hh
   have e:scanP (hldB p hd) (k+1) l out = scanP (hldB p hd) k (rmv l k) (out ++ [n]):=by rw [scanP,← hn,if_neg hh]
   rw [e]
   rw [hh'] at r2
   obtain ⟨M3,k3,r3,hk3,g3,T3,w3⟩:=fill_run hp h0 h1 S2.mg S2.rt hkl
   have w3n:∀ j:Nat,p.nod 0 ≤ j → M3.wd 0 j = M2.wd 0 j:=fun j hj => w3 j (.inr (by omega))
   have L3:FL p M3 (pushL (goneB p M0) fl0 out) T:=S2.fl.of g3 (w3 0 (.inl (by omega))) fun m hm => w3n _ (by obtain ⟨_,f2,_,_,_⟩:=node_pl hp hm;have:=hm.1;unfold nxN;omega)
   have hno:n ∉ out:=fun h => (List.nodup_append.1 hS.nd).2.2 n hnl n h rfl
   have hnst:nst p M3 n = nst p M0 n:=by
    obtain ⟨f1,_,_,_,_⟩:=node_pl hp hnr
    have:=hnr.1
    unfold nst
    rw [w3n _ (by unfold sdN;omega),S2.st n hnr hno]
   have htt:=hS.tt
   obtain ⟨M4,fl4,T4,k4,r4,hk4,R4⟩:=rcl_run hp L3 hnr (hS.nf n hnl) (by omega) N
   have hfl4:=R4.l'
   rw [hnst] at hfl4
   have hpl:fl4 = pushL (goneB p M0) fl0 (out ++ [n]):=by
    rw [hfl4,pushL_snoc]
    unfold goneB
    by_cases hg:(nst p M0 n).m = 3 <;> simp [hg]
   have hT4:=R4.T'
   obtain ⟨e1,e2,e3,e4,e5⟩:=node_pl hp hnr
   have hn0:=hnr.1
   have w4:∀ j:Nat,1 ≤ j → (j:Int) < p.nod 0 → M4.wd 0 j = M3.wd 0 j:=fun j a b => R4.ot j (by omega) (by unfold nxN;omega) (by unfold sdN;omega) fun o oa ob => by have:=e3 o oa ob;unfold fdN;omega
   have hperm:=rmv_perm hkl
   rw [← hn] at hperm
   have S4:ScIn p t M0 fl0 T0 hd M4 (rmv l k) (out ++ [n]) T4:=by
    refine ⟨R4.hl.mg,T3.of hp h0 h1 fun j a b => w4 j (by omega) (by omega),hpl ▸ R4.hl,?_,fun m hm => ?_,by simp;omega,fun m hm hmo => ?_,fun m hm => ?_,fun i hi => ?_,fun j a b d => ?_,fun m hm hmo o oa ob => ?_⟩
    ·refine (List.Perm.nodup_iff ?_).2 hS.nd
     refine List.Perm.trans ?_ (List.Perm.append_right out hperm.symm)
     rw [← List.append_assoc]
     exact List.perm_append_comm (l₁:=rmv l k ++ out) (l₂:=[n])
    ·have hml:m ∈ l:=hperm.symm.subset (by simp [hm])
     rw [pushL_snoc]
     have hmn:m ≠ n:=fun e => by
      have h:=(hperm.nodup_iff).1 (List.nodup_append.1 hS.nd).1
      exact (List.nodup_cons.1 h).1 (e ▸ hm)
     split
     ·exact hS.nf m hml
     ·intro h
      rcases List.mem_cons.1 h with h | h
      ·exact hmn h
      ·exact hS.nf m hml h
    ·have hmo1:m ∉ out:=fun h => hmo (by simp [h])
     have hmn:m ≠ n:=fun e => hmo (by simp [e])
     obtain ⟨f1,_,_,_,_⟩:=node_pl hp hm
     have hm0:=hm.1
     rw [R4.ot _ (by unfold sdN;omega) (by unfold nxN sdN;omega) (by unfold sdN;omega) fun o oa ob => by have:=e3 o oa ob;unfold fdN sdN;omega,w3n _ (by unfold sdN;omega)]
     exact S2.st m hm hmo1
    ·by_cases hmn:m = n
     ·subst hmn
      exact ⟨hnr,by rw [R4.st,hnst],R4.fd⟩
     ·have hmo:m ∈ out:=by
       rcases List.mem_append.1 hm with h | h
       ·exact h
       ·exact absurd (by simpa using h) hmn
      obtain ⟨d1,d2,d3⟩:=S2.dn m hmo
      obtain ⟨f1,_,f3,_,_⟩:=node_pl hp d1
      have hm0:=d1.1
      refine ⟨d1,?_,fun o oa ob => ?_⟩
      ·rw [R4.ot _ (by unfold sdN;omega) (by unfold nxN sdN;omega) (by unfold sdN;omega) fun o oa ob => by have:=e3 o oa ob;unfold fdN sdN;omega,w3n _ (by unfold sdN;omega)]
       exact d2
      ·have fo:=f3 o oa ob
       rw [R4.ot _ (by unfold fdN;omega) (by unfold nxN fdN;omega) (by unfold sdN fdN;omega) fun o' oa' ob' => by have:=e3 o' oa' ob';unfold fdN;omega,w3n _ (by unfold fdN;omega)]
       exact d3 o oa ob
    ·have hz:=hz_pl hp hi
     show M4.wd 0 (hzN p i) = _
     rw [w4 _ hz.1 (by omega),w3 _ (.inl (by omega))]
     exact S2.hz i hi
    ·rw [w4 j a b,w3 j d]
     exact S2.ot j a b d
    ·have hmo1:m ∉ out:=fun h => hmo (by simp [h])
     have hmn:m ≠ n:=fun e => hmo (by simp [e])
     obtain ⟨f1,_,f3,_,_⟩:=node_pl hp hm
     have hm0:=hm.1
     have fo:=f3 o oa ob
     rw [R4.ot _ (by unfold fdN;omega) (by unfold nxN fdN;omega) (by unfold sdN fdN;omega) fun o' oa' ob' => by have:=e3 o' oa' ob';unfold fdN;omega,w3n _ (by unfold fdN;omega)]
     exact S2.fd m hm hmo1 o oa ob
   obtain ⟨M5,T5,s5,r5,hs5,S5⟩:=scn_run hp h0 h1 hT N k M4 (rmv l k) (out ++ [n]) T4 were S4 (by rw [rmv_len];omega) (by rw [rmv_len];simp;omega)
   refine ⟨M5,T5,1+(c+(k3+(k4+s5))),?_,by omega,S5⟩
   unfold scnT
   refine Runs.bind r1 ?_
   unfold sc2T
   rw [hnm]
   refine Runs.bind r2 ?_
   unfold sc3T
   rw [if_neg (by simp)]
   unfold lv1T lv2T
   refine Runs.bind_of ?_
   refine Runs.bind r3 ?_
   unfold lv3T
   refine Runs.bind r4 ?_
   rw [rmv_len] at r5
   rw [show ((l.length - 1:Nat):Int) = (l.length:Int) - 1 by omega] at r5
   exact r5
end
theorem heldR_some {x:Nat → BitVec 64} {m:BitVec 64}:∀ (k i:Nat),(heldR x m k i).1 = true → ∃ j,i ≤ j ∧ j < i+k ∧ x j = m
 | 0,_,h => by simp [heldR] at h
 | k+1,i,h => by
  rw [heldR] at h
  split at h
  ·rename_i hx
   exact ⟨i,Nat.le_refl _,by omega,hx⟩
  ·obtain ⟨j,h1,h2,h3⟩:=heldR_some k (i+1) h
   exact ⟨j,by omega,by omega,h3⟩
theorem held_few {p:Pl} (hp:p.ok) {hd:Nat → BitVec 64} {l:List Int} (hn:l.Nodup) (hr:∀ n ∈ l,InR p n) (hh:∀ n ∈ l,hldB p hd n = true):(l.length:Int) ≤ 3 * p.t:=by
 have ht:=hp.2.1
 have h:=nodup_len l ((List.range (3 * p.t).toNat).map fun j => nodeI (hd j)) hn fun n hnl => by
  obtain ⟨j,_,h2,h3⟩:=heldR_some _ _ (hh n hnl)
  refine List.mem_map.2 ⟨j,List.mem_range.2 (by omega),?_⟩
  have hr':=hr n hnl
  rw [h3,node_name hr'.1 (by have:=hr'.lt hp;omega)]
 simp at h
 omega
theorem scan_more {p:Pl} (hp:p.ok) {hd:Nat → BitVec 64} {l:List Int} (hn:l.Nodup) (hr:∀ n ∈ l,InR p n) (hm:3 * p.t < (l.length:Int)):(scanP (hldB p hd) l.length l []).1.length+1 ≤ l.length:=by
 have h1:=scanP_len (hldB p hd) l.length l [] (Nat.le_refl _)
 simp only [List.length_nil,Nat.add_zero] at h1
 by_cases h0:(scanP (hldB p hd) l.length l []).2 = []
 ·exfalso
  have h2:=scanP_perm (hldB p hd) l.length l [] (Nat.le_refl _)
  rw [h0,List.append_nil,List.append_nil] at h2
  have h3:=scanP_held (hldB p hd) l.length l [] (Nat.le_refl _) fun i a b => by omega
  have h4:=held_few hp (hd:=hd) hn hr fun n hnl => by
   have hm:=h2.symm.subset hnl
   obtain ⟨i,hi,rfl⟩:=List.mem_iff_getElem.1 hm
   rw [← iN_eq hi]
   exact h3 i hi
  omega
 ·have:0 < (scanP (hldB p hd) l.length l []).2.length:=List.length_pos_iff.2 h0
  omega
theorem put_fl {p:Pl} (hp:p.ok) {M M':MS} (hG:Mg p M') {t:Int} (h0:0 ≤ t) (h1:t < p.t) (h:∀ j:Nat,((j:Int) < p.cnt t ∨ p.cnt t+1+p.r ≤ j) → M'.wd 0 j = M.wd 0 j) {l:List Int} {T:Nat} (hF:FL p M l T):FL p M' l T:=by
 obtain ⟨q1,q2,q3,q4,q5,q6⟩:=thr_pl hp h0 h1
 refine hF.of hG (h 0 (.inl (by omega))) fun n hn => h _ (.inr ?_)
 obtain ⟨_,f2,_,_,_⟩:=node_pl hp hn
 have:=hn.1
 unfold nxN
 omega
theorem put_more {p:Pl} (hp:p.ok) {M:MS} (hG:Mg p M) {t:Int} (h0:0 ≤ t) (h1:t < p.t) {l fl:List Int} {T:Nat} (hL:RTs p M t l) (hF:FL p M fl T) {n:Int} (hn:InR p n) (hlt:(l.length:Int) < p.r) :
  ∃ M',Runs (putT p t n) M 3 M' (l.length+1) ∧ Mg p M' ∧ RTs p M' t (l ++ [n]) ∧ FL p M' fl T ∧ ∀ j:Nat,((j:Int) < p.cnt t ∨ p.cnt t+1+p.r ≤ j) → M'.wd 0 j = M.wd 0 j:=by
 have h:=put_run hp hG h0 h1 hL hn
 rw [if_neg (by omega)] at h
 obtain ⟨M',r1,r2,r3,r4⟩:=h
 exact ⟨M',r1,r2,r3,put_fl hp r2 h0 h1 r4 hF,r4⟩
theorem shL {l:List Acc} {t:List (BitVec 64)} {F:Nat → Prop} {v:Value} {w:World} (h:PA l t F v w):∃ (sa:Option Addr) (n c:Nat) (a:Acc) (fn:Value),v = .agg #[.slice sa n c,.int .i64 a.op,.int .i64 a.at_,.int .u64 (U a.a),.int .u64 (U a.b),fn,.pointer none] ∧ (fn = .nilFunc ∨ ∃ g caps,fn = .func (.func g) #[] caps):=by
 obtain ⟨sa,n,c,a,fn,rfl,hfn⟩:=h.shape
 exact ⟨sa,n,c,a,fn,rfl,hfn⟩
def AL (W:World) (l:List Acc) (v:Value) (w:World):Prop:=w.ownsRow W.heap.size 42 4 v l.length (l.flatMap A4) ∧ Ext W w
theorem AL.nil (W:World):AL W [] (.slice none 0 0) W:=⟨⟨rfl,.inl ⟨rfl,rfl⟩⟩,ext_refl W⟩
theorem a4_st (at_:Int):A4 (stA at_ 0#64) = [.int .i64 1,.int .i64 at_,.int .u64 0,.int .u64 0]:=by simp [A4,stA,U_0]
theorem own_extA {w w':World} {base:Nat} {e:TypeId} {size:Nat} {v:Value} {n:Nat} {xs:List Value} (h:w.ownsRow base e size v n xs) (hb:Ext w w'):w'.ownsRow base e size v n xs:=by
 obtain ⟨h1,h2⟩:=h
 refine ⟨h1,?_⟩
 rcases h2 with h2 | ⟨g,cap,cur,hv,hg,hh,r⟩
 ·exact .inl h2
 ·exact .inr ⟨g,cap,cur,hv,hg,by rw [hb.block g (hp_lt hh)];exact hh,r⟩
theorem wpList_acc {W u w:World} {ops:Array Oper} {rest:List Oper} {o:Oper} {a:Act} {Q:Exit → Act → World → Prop} (hgd:o.guard = none) (s y:Operand)
  (ho:o.op = .call { callee:=.builtin .append,args:=#[s,y],argTypes:=#[310,310] }) (v:Value) (l:List Acc) (at_:Int) (hs:a.eval s = v) (hv:AL W l v u)
  (hw:w = u.alloc (.cells #[.int .i64 1,.int .i64 at_,.int .u64 0,.int .u64 0] 42)) (hy:a.eval y = .slice (some ⟨u.heap.size,0,none⟩) 1 1) (hm:l.length ≤ 1000)
  (h:∀ v' w',AL W (l ++ [stA at_ 0#64]) v' w' → wpList Tryz.prog ops Q rest (a.put o.dst v') w'):wpList Tryz.prog ops Q (o :: rest) a w:=by
 subst hw
 obtain ⟨h1,h2⟩:=hv
 obtain ⟨iW,hi,hz0,hz1,hz2⟩:=info_parts Tryz.infoAcc
 have hb:=heap_at u (.cells #[.int .i64 1,.int .i64 at_,.int .u64 0,.int .u64 0] 42) u.heap.size rfl
 have hE:Ext W (u.alloc (.cells #[.int .i64 1,.int .i64 at_,.int .u64 0,.int .u64 0] 42)):=ext_alloc _ h2
 have hO:=own_extA h1 (ext_alloc (.cells #[.int .i64 1,.int .i64 at_,.int .u64 0,.int .u64 0] 42) (ext_refl u))
 have hnews:∀ j x,([.int .i64 1,.int .i64 at_,.int .u64 0,.int .u64 0]:List Value)[j]? = some x → (u.alloc (.cells #[.int .i64 1,.int .i64 at_,.int .u64 0,.int .u64 0] 42)).cell? ((⟨u.heap.size,0,none⟩ : Addr).add j) = some x:=by
  intro j x hj
  rw [add_at',Nat.zero_add]
  refine cell_at hb ?_
  rw [← hj]
  exact (Array.getElem?_toList).symm
 have hones:∀ x ∈ ([.int .i64 1,.int .i64 at_,.int .u64 0,.int .u64 0]:List Value),x.oneCell' = true:=by
  intro x hx
  simp at hx
  rcases hx with rfl | rfl | rfl <;> rfl
 refine wpList_append_own _ hgd s y 310 ho W.heap.size 42 iW _ 4 32 Tryz.underlying310 hi hz0 hz1 hz2 rfl (by decide) v l.length (l.flatMap A4) hs hO ⟨u.heap.size,0,none⟩ 1 1 _ hy rfl hnews hones (by unfold maxLen;omega) (by omega) (by have:=hE.size;omega) ?_
 intro v' w' hv' hg' _
 refine h v' w' ⟨?_,ext_own hE hO hg'⟩
 rw [List.flatMap_append,List.flatMap_cons,List.flatMap_nil,List.append_nil,a4_st,List.length_append]
 exact hv'
def WpRel (W:World) (L:List Int) (v i:Value) (wr:World):Prop:=∃ k:Nat,k ≤ L.length ∧ i = .int .i64 (k:Int) ∧ AL W ((L.take k).map fun at_ => stA at_ 0#64) v wr
theorem wipe_take (L:List Int) (k:Nat) (h:k < L.length):(L.take (k+1)).map (fun at_ => stA at_ 0#64) = (L.take k).map (fun at_ => stA at_ 0#64) ++ [stA (iN L k) 0#64]:=by
 rw [List.take_add_one,List.map_append,List.getElem?_eq_getElem h]
 simp [iN,List.getD_eq_getElem?_getD,h]
theorem wds_len (p:Pl) (n:Int):(p.wdsF n).length ≤ 3:=by
 unfold Pl.wdsF
 split <;> simp
theorem wipe_PA (p:Pl) (n:Int) (w:World):Calls Tryz.prog 263 #[plV p,.int .i64 n] w (RetP (PA (wipeL p n) []) noF w):=by
 have hL:=wds_len p n
 obtain ⟨L,eL⟩ : ∃ L,Hid (p.wdsF n = L):=⟨_,Lib.hid rfl⟩
 unfold wipeL
 rw [eL.out] at hL ⊢
 go_enter Tryz.func263,Tryz.ntmps263
 go_wp2_with (go_at_call 271;refine Hid.out ?_)
 refine Lib.hid ?_
 have ⟨hE,hb0,hb1,hW⟩:=al2 w (.cells #[.int .i64 p.n,.int .i64 p.t,.int .i64 p.r,.int .i64 p.d,.int .i64 p.b,.int .i64 p.g] 23) (.cells #[.slice none 0 0,.int .i64 0,.int .i64 0,.int .u64 0,.int .u64 0,.nilFunc,.pointer none] 303)
 generalize ((w.alloc (.cells #[.int .i64 p.n,.int .i64 p.t,.int .i64 p.r,.int .i64 p.d,.int .i64 p.b,.int .i64 p.g] 23)).alloc (.cells #[.slice none 0 0,.int .i64 0,.int .i64 0,.int .u64 0,.int .u64 0,.nilFunc,.pointer none] 303)) = W at hE hb0 hb1 hW ⊢
 refine (wds_any p n W).mono ?_
 rintro e w1 ⟨v0,rfl,hx,hI⟩
 replace hE:=ext_trans hE hx
 replace hb1:=(hx.block _ (heap_lt hb1)).trans hb1
 clear hx hb0 hW
 rw [eL.out] at hI
 have HI:=Lib.hid hI
 obtain ⟨a0,cap,rfl,hc,hcell⟩:=hI
 clear hcell
 have HE:=Lib.hid hE
 have HB:=Lib.hid hb1
 clear hE hb1
 go_wp2
 go_loopw [5,12] (fun v i wr => WpRel w1 L v i wr) (fun _ i _ => (L.length - intOf i).toNat)
 case atStart => exact ⟨0,Nat.zero_le _,rfl,AL.nil w1⟩
 case round =>
  obtain ⟨k,hk,rfl,hv⟩:=hrel
  have HV:=Lib.hid hv
  have hlA:((L.take k).map fun at_ => stA at_ 0#64).length ≤ 1000:=by simp;omega
  obtain ⟨va,vc,hvs⟩ : ∃ va vc,u5 = .slice va ((L.take k).map fun at_ => stA at_ 0#64).length vc:=by
   rcases hv.1.2 with ⟨rfl,h2⟩ | ⟨g,cap',cur,rfl,_⟩
   ·exact ⟨none,0,by rw [h2]⟩
   ·exact ⟨_,_,rfl⟩
  clear hv
  by_cases hlt:k < L.length
  ·obtain ⟨b,off,rfl,hb,hcells⟩:=(HI.out.ext HV.out.2).at (by omega)
   have c1:=hcells k hlt
   have bl:=cell_lt c1
   clear hcells
   have hlt':(k:Int) < L.length:=by omega
   have HT:=Lib.hid (wipe_take L k hlt)
   have HVS:=Lib.hid hvs
   clear hvs
   go_wp2_with (at_builtin;refine wpList_acc (W:=w1) rfl (.tmp 16) (.tmp 19) rfl _ ((L.take k).map fun at_ => stA at_ 0#64) (iN L k) rfl HV.out rfl rfl hlA ?_;intro v3 w3 hv3;rw [← HT.out] at hv3;have HV3:=Lib.hid hv3;clear hv3)
   exact ⟨⟨k+1,by omega,by go_num,HV3.out⟩,by simp [intOf];omega⟩
  ·obtain rfl:k = L.length:=by omega
   rw [List.take_length] at HV hvs
   rw [List.length_map] at hvs
   subst hvs
   go_wp2_with (go_at_call 272;refine Hid.out ?_)
   refine Lib.hid ?_
   have hb1:=(HV.out.2.block _ (heap_lt HB.out)).trans HB.out
   have hE:=ext_trans HE.out HV.out.2
   have hAs:AsB (fun _ => False) wr _ _:=asB_of_own HV.out.1 (fun _ h => h.elim)
   refine (listP_any _ _ wr hAs (by simp;omega)).mono ?_
   rintro e w' hR
   obtain ⟨v',F',rfl,hX,hp,hbn,hsub,hnF,hbq⟩:=hR.tail (G:=noF) (w.heap.size+1) hE (heap_lt hb1) (fun h => h) (fun _ h => h.elim)
   have hbx:=hbq.trans hb1
   clear hbq hR
   clear hE hb1 hAs HV HI HE HB
   obtain ⟨sa,sn,sc,a2,fn2,rfl,hfn⟩:=shL hp
   have hXX:=put7_ext (b:=w.heap.size+1) (.slice sa sn sc) (.int .i64 a2.op) (.int .i64 a2.at_) (.int .u64 (U a2.a)) (.int .u64 (U a2.b)) (fn2) (.pointer none) hX (by omega)
   have hB:=put7_block (.slice sa sn sc) (.int .i64 a2.op) (.int .i64 a2.at_) (.int .u64 (U a2.a)) (.int .u64 (U a2.b)) (fn2) (.pointer none) hbx
   have hP:=hp.agr (Agr.of_put7 (b:=w.heap.size+1) (.slice sa sn sc) (.int .i64 a2.op) (.int .i64 a2.at_) (.int .u64 (U a2.a)) (.int .u64 (U a2.b)) (fn2) (.pointer none) hnF)
   have hS:(put7 (w.heap.size+1) (.slice sa sn sc) (.int .i64 a2.op) (.int .i64 a2.at_) (.int .u64 (U a2.a)) (.int .u64 (U a2.b)) (fn2) (.pointer none) w').heap.size = w'.heap.size:=put7_size (.slice sa sn sc) (.int .i64 a2.op) (.int .i64 a2.at_) (.int .u64 (U a2.a)) (.int .u64 (U a2.b)) (fn2) (.pointer none)
   obtain ⟨c0,c1,c2,c3,c4,c5,c6,cz,ll⟩:=sev_of hbx
   rw [put7] at hXX hB hP hS
   have HX:=Lib.hid (And.intro hXX (And.intro hB (And.intro hP hS)))
   have HFN:=Lib.hid hfn
   have HBN:=Lib.hid hbn
   have HSUB:=Lib.hid hsub
   clear hXX hB hP hS hX hbx hp hfn hbn hsub hnF
   rcases HFN.out with rfl | ⟨g',caps',rfl⟩
   all_goals
    go_wp2
    clear c0 c1 c2 c3 c4 c5 c6 cz ll
    obtain ⟨hX,hB,hP,hS⟩:=HX.out
    clear HX
    generalize (World.setCell _ (⟨w.heap.size+1,6,none⟩ : Addr) _) = Z at hX hB hP hS ⊢
    obtain ⟨c0,c1,c2,c3,c4,c5,c6,cz,ll⟩:=sev_of hB
    exact bodyPost_ret (by simp only [results,Tryz.results263,go_sem];simp [go_sem,c0,c1,c2,c3,c4,c5,c6]) rfl ⟨_,F',rfl,hX,hP,fun j hj => by rw [hS];exact HBN.out j hj,HSUB.out⟩
end Go.Proofs.YthjklbonebnekaaGreat

