/-
  The law CheckFresh in plain numbers: no handle is granted twice; when none is granted all nodes are gone. Conditions: a formed plan.
-/
import Derived.Test.YthjklbonebnekaaGreatGaa
import Derived.Test.YthjklbonebnekaaGreatGac
import Derived.Test.YthjklbonebnekaaGreatGau
import Derived.Test.YthjklbonebnekaaGreatGbo
import Derived.Test.YthjklbonebnekaaGreatGbv
import Derived.ArgAppend
import Derived.OwnWalk
set_option maxRecDepth 8000
set_option maxHeartbeats 4000000
namespace Go.Proofs.YthjklbonebnekaaGreat
open Go Go.RowKit
structure Fd (p:Pl) (S:S1) (had:List (BitVec 64)) (ex:Int):Prop where
 mem:∀ x ∈ had,∃ h:Hn,h.ok ∧ h.word = x ∧ InR p h.i ∧ (h.g < (S.sf h.i).g ∨ (h.g = (S.sf h.i).g ∧ ((S.sf h.i).m = 2 ∨ (S.sf h.i).m = 3)))
 old:∀ n,InR p n → n ≠ ex → (S.sf n).m ≠ 1 ∧ ((S.sf n).m = 2 ∨ (S.sf n).m = 3 → ∃ h:Hn,h.ok ∧ h.word ∈ had ∧ h.i = n)
theorem hnN_word {h:Hn} (k:h.ok):hnN h.word = h:=by
 have e:=isH_word h k
 rw [← ofH_yes _ e.1]
 exact e.2
section
variable {p:Pl} (hp:p.ok) {S:S1} {had:List (BitVec 64)}
include hp
theorem Fd.scan (h:Fd p S had (-1)) (hB:Bx p S (-1)) (hq:(outL p S.rt).Perm S.rt) (_:∀ n ∈ S.rt,InR p n) (hok:∀ n,InR p n → (S.sf n).ok):Fd p (S.scan p) had (-1):=by
 have ho:∀ n,n ∈ outL p S.rt ↔ n ∈ S.rt:=fun n => hq.mem_iff
 have same:∀ n,n ∉ outL p S.rt → (S.scan p).sf n = S.sf n:=fun n hn => by show freedS p S.sf _ n = _;unfold freedS;rw [if_neg hn]
 have turn:∀ n,n ∈ outL p S.rt → (S.scan p).sf n = (S.sf n).freed p.g:=fun n hn => by show freedS p S.sf _ n = _;unfold freedS;rw [if_pos hn]
 refine ⟨fun x hx => ?_,fun n hn hne => ?_⟩
 ·obtain ⟨k,k1,k2,k3,k4⟩:=h.mem x hx
  refine ⟨k,k1,k2,k3,?_⟩
  by_cases hf:k.i ∈ outL p S.rt
  ·rw [turn _ hf]
   have hm:=hB.r _ ((ho _).1 hf)
   rcases freed_cases hp (hok _ k3) (hB.k _ k3).1 (hB.k _ k3).2 with e | e
   ·rw [e.1]
    dsimp only
    rcases k4 with a | ⟨a,_⟩
    ·exact .inl a
    ·exact .inr ⟨a,.inr rfl⟩
   ·rw [e.1]
    dsimp only
    rcases k4 with a | ⟨a,_⟩
    ·exact .inl (by omega)
    ·exact .inl (by omega)
  ·rw [same _ hf]
   exact k4
 ·obtain ⟨o1,o2⟩:=h.old n hn hne
  by_cases hf:n ∈ outL p S.rt
  ·have hm:=hB.r _ ((ho _).1 hf)
   rw [turn _ hf]
   rcases freed_cases hp (hok _ hn) (hB.k _ hn).1 (hB.k _ hn).2 with e | e
   ·rw [e.1]
    exact ⟨by simp,fun _ => o2 (.inl hm)⟩
   ·rw [e.1]
    exact ⟨by simp,fun h => by simp at h⟩
  ·rw [same _ hf]
   exact ⟨o1,o2⟩
variable {t:Int} (h0:0 ≤ t) (h1:t < p.t) {M:MS} {T:Nat}
include h0 h1
theorem Fd.grant (h:Fd p S had (-1)) (hJ:J1 p t M S T) {M':MS} {T':Nat} (_:J1 p t M' (S.grant p 0).1 T') :
  ((S.grant p 0).2 = ⟨4,0#64⟩ ∧ p.n ≤ (had.length:Int)) ∨ ∃ n g,InR p n ∧ 0 ≤ g ∧ g ≤ p.g ∧ (S.grant p 0).2 = ⟨0,Hn.word ⟨n,g,0⟩⟩ ∧ Hn.ok ⟨n,g,0⟩ ∧ (∀ y ∈ had,y ≠ Hn.word ⟨n,g,0⟩) ∧ (S.grant p 0).1.sf n = ⟨g,1,0⟩ ∧ (∀ o,0 ≤ o → o < 3 → (S.grant p 0).1.fv n o = 0#64) ∧ Fd p (S.grant p 0).1 had n:=by
 obtain ⟨hq1,hq2⟩:=hJ.outs hp h0 h1
 have hin:∀ n ∈ S.rt,InR p n:=fun n hn => (hJ.a.rt t h0 h1).rg n (by rw [upR_same];exact hn)
 have take:∀ (S':S1) (n:Int) (l:List Int),Bx p S' (-1) → Fd p S' had (-1) → S'.fs = n :: l → InR p n → (S'.sf n).ok → Hn.ok ⟨n,(S'.sf n).g,0⟩ ∧ (∀ y ∈ had,y ≠ Hn.word ⟨n,(S'.sf n).g,0⟩) ∧ S'.take.sf n = ⟨(S'.sf n).g,1,0⟩ ∧ (∀ o,0 ≤ o → o < 3 → S'.take.fv n o = 0#64) ∧ Fd p S'.take had n:=by
  intro S' n l hB hF e hn hok
  have et:S'.take = ⟨l,S'.rt,upS S'.sf n (liveF 0 (S'.sf n)),S'.fv⟩:=by unfold S1.take;rw [e]
  have hm0:=(hB.f n (by rw [e];simp)).1
  have hlt:=hn.lt hp
  have hnn:n < p.n:=hn.2
  have hpn:p.n ≤ 1048576:=hp.1.2
  have hgk:Hn.ok ⟨n,(S'.sf n).g,0⟩:=by
   unfold St.ok at hok
   unfold Hn.ok
   have:=hn.1
   dsimp only
   omega
  rw [et]
  refine ⟨hgk,fun y hy ey => ?_,upS_same _ _ _,fun o a b => (hB.f n (by rw [e];simp)).2 o a b,fun x hx => ?_,fun m hm hne => ?_⟩
  ·obtain ⟨k,k1,k2,k3,k4⟩:=hF.mem y hy
   have ek:=hword_inj k1 hgk (k2.trans ey)
   rw [ek] at k4
   dsimp only at k4
   omega
  ·obtain ⟨k,k1,k2,k3,k4⟩:=hF.mem x hx
   refine ⟨k,k1,k2,k3,?_⟩
   dsimp only
   by_cases en:k.i = n
   ·rw [en] at k4 ⊢
    rw [upS_same]
    unfold liveF
    dsimp only
    rcases k4 with a | ⟨a,b⟩
    ·exact .inl a
    ·omega
   ·rw [upS_other en]
    exact k4
  ·dsimp only
   rw [upS_other hne]
   exact hF.old m hm (by have:=hm.1;omega)
 cases e:S.fs with
 | cons n l =>
  have ef:S.full p = S:=by unfold S1.full;rw [e]
  have eg:S.grant p 0 = (S.take,⟨0,Hn.word ⟨n,(S.sf n).g,0⟩⟩):=by unfold S1.grant;rw [ef,e]
  have hn:=hJ.a.fl.rg n (by rw [e];simp)
  obtain ⟨a1,a2,a3,a4,a5⟩:=take S n l hJ.bx h e hn (hJ.a.ok n hn)
  rw [eg]
  exact .inr ⟨n,_,hn,(hJ.a.ok n hn).1,(hJ.k n hn).2,rfl,a1,a2,a3,a4,a5⟩
 | nil =>
  have hB:=hJ.bx.scan hp hq2 hin hJ.a.ok
  have hF:=h.scan hp hJ.bx hq2 hin hJ.a.ok
  have ef:S.full p = S.scan p:=by unfold S1.full;rw [e]
  cases e3:(S.scan p).fs with
  | nil =>
   have eg:S.grant p 0 = (S.scan p,⟨4,0#64⟩):=by
    unfold S1.grant S1.take
    rw [ef,e3]
   rw [eg]
   refine .inl ⟨rfl,?_⟩
   have hall:∀ n,InR p n → n ∈ had.map fun x => (hnN x).i:=fun n hn => by
    have hne:n ≠ -1:=by have:=hn.1;omega
    obtain ⟨o1,o2⟩:=hF.old n hn hne
    have hm:((S.scan p).sf n).m = 2 ∨ ((S.scan p).sf n).m = 3:=by
     rcases hB.c n hn hne with ⟨_,b⟩ | ⟨b,_⟩ | b | b
     ·rw [e3] at b
      simp at b
     ·exact .inl b
     ·exact absurd b o1
     ·exact .inr b
    obtain ⟨k,k1,k2,k3⟩:=o2 hm
    refine List.mem_map.2 ⟨_,k2,?_⟩
    rw [hnN_word k1]
    exact k3
   have hl:=nodup_len (rfr p.n.toNat 0) (had.map fun x => (hnN x).i) (rfr_nodup _ _) fun n hn => hall n (by
    have:=rfr_mem.1 hn
    exact ⟨this.1,by omega⟩)
   rw [rfr_len,List.length_map] at hl
   have:1 ≤ p.n:=hp.1.1
   omega
  | cons n l =>
   have eg:S.grant p 0 = ((S.scan p).take,⟨0,Hn.word ⟨n,((S.scan p).sf n).g,0⟩⟩):=by
    unfold S1.grant
    rw [ef,e3]
   rw [eg]
   have hnq:InR p n ∧ ((S.scan p).sf n).ok:=by
    rcases pushL_out _ _ _ n (show n ∈ pushL (goneS p S.sf) S.fs (outL p S.rt) by have:=e3;unfold S1.scan at this;dsimp only at this;rw [this];simp) with hx | ⟨hx,_⟩
    ·rw [e] at hx
     simp at hx
    ·have hi:=hin n (hq2.mem_iff.1 hx)
     refine ⟨hi,?_⟩
     show (freedS p S.sf _ n).ok
     unfold freedS
     rw [if_pos hx]
     exact freed_ok hp (hJ.a.ok n hi)
   obtain ⟨a1,a2,a3,a4,a5⟩:=take (S.scan p) n l hB hF e3 hnq.1 hnq.2
   exact .inr ⟨n,_,hnq.1,hnq.2.1,(hB.k n hnq.1).2,rfl,a1,a2,a3,a4,a5⟩
theorem Fd.drop {n g:Int} (hk:Hn.ok ⟨n,g,0⟩) (hn:InR p n) (h:Fd p S had n) (hJ:J1 p t M S T) (hb:S.sf n = ⟨g,1,0⟩) :
  Fd p (S.drop p ⟨n,g,0⟩) (had ++ [Hn.word ⟨n,g,0⟩]) (-1) ∧ (S.drop p ⟨n,g,0⟩).sf n ≠ ⟨g,1,0⟩:=by
 have hq:=(hJ.outs hp h0 h1).2
 have hin:∀ n ∈ S.rt,InR p n:=fun n hn => (hJ.a.rt t h0 h1).rg n (by rw [upR_same];exact hn)
 have ho:∀ m,m ∈ outL p S.rt ↔ m ∈ S.rt:=fun m => hq.mem_iff
 have hnr:n ∉ S.rt:=fun hx => by have:=hJ.r _ hx;rw [hb] at this;simp at this
 have hno:n ∉ outL p S.rt:=fun hx => hnr ((ho n).1 hx)
 have key:∀ sf':Int → St,sf' n = ⟨g,2,0⟩ → (∀ m,m ≠ n → sf' m = S.sf m ∨ (m ∈ S.rt ∧ sf' m = (S.sf m).freed p.g)) → ∀ S':S1,S'.sf = sf' → Fd p S' (had ++ [Hn.word ⟨n,g,0⟩]) (-1) ∧ S'.sf n ≠ ⟨g,1,0⟩:=by
  intro sf' e1 e2 S' eS
  refine ⟨⟨fun x hx => ?_,fun m hm _ => ?_⟩,by rw [eS,e1];simp⟩
  ·rcases List.mem_append.1 hx with hx | hx
   ·obtain ⟨k,k1,k2,k3,k4⟩:=h.mem x hx
    refine ⟨k,k1,k2,k3,?_⟩
    rw [eS]
    by_cases en:k.i = n
    ·rw [en] at k4 ⊢
     rw [e1]
     rw [hb] at k4
     dsimp only at k4 ⊢
     omega
    ·rcases e2 _ en with e | ⟨er,e⟩
     ·rw [e]
      exact k4
     ·rw [e]
      have hm:=hJ.r _ er
      rcases freed_cases hp (hJ.a.ok _ k3) (hJ.k _ k3).1 (hJ.k _ k3).2 with q | q
      ·rw [q.1]
       dsimp only
       rcases k4 with a | ⟨a,_⟩
       ·exact .inl a
       ·exact .inr ⟨a,.inr rfl⟩
      ·rw [q.1]
       dsimp only
       rcases k4 with a | ⟨a,_⟩
       ·exact .inl (by omega)
       ·exact .inl (by omega)
   ·obtain rfl:=List.mem_singleton.1 hx
    refine ⟨_,hk,rfl,hn,?_⟩
    rw [eS]
    dsimp only
    rw [e1]
    exact .inr ⟨rfl,.inl rfl⟩
  ·rw [eS]
   by_cases en:m = n
   ·rw [en,e1]
    exact ⟨by simp,fun _ => ⟨_,hk,by simp,rfl⟩⟩
   ·obtain ⟨o1,o2⟩:=h.old m hm en
    have o2':(S.sf m).m = 2 ∨ (S.sf m).m = 3 → ∃ k:Hn,k.ok ∧ k.word ∈ had ++ [Hn.word ⟨n,g,0⟩] ∧ k.i = m:=fun hh => by
     obtain ⟨k,k1,k2,k3⟩:=o2 hh
     exact ⟨k,k1,by simp [k2],k3⟩
    rcases e2 m en with e | ⟨er,e⟩
    ·rw [e]
     exact ⟨o1,o2'⟩
    ·rw [e]
     have hm2:=hJ.r _ er
     rcases freed_cases hp (hJ.a.ok _ hm) (hJ.k _ hm).1 (hJ.k _ hm).2 with q | q
     ·rw [q.1]
      exact ⟨by simp,fun _ => o2' (.inl hm2)⟩
     ·rw [q.1]
      exact ⟨by simp,fun h => by simp at h⟩
 unfold S1.drop S1.put
 by_cases hlt:(S.rt.length:Int) < p.r
 ·rw [if_pos hlt]
  exact key (upS S.sf n ⟨g,2,0⟩) (upS_same _ _ _) (fun m hm => .inl (upS_other hm)) _ rfl
 ·rw [if_neg hlt]
  refine key (freedS p (upS S.sf n ⟨g,2,0⟩) (outL p S.rt)) ?_ (fun m hm => ?_) _ rfl
  ·unfold freedS
   rw [if_neg hno,upS_same]
  ·unfold freedS
   by_cases hf:m ∈ outL p S.rt
   ·rw [if_pos hf,upS_other hm]
    exact .inr ⟨(ho m).1 hf,rfl⟩
   ·rw [if_neg hf,upS_other hm]
    exact .inl rfl
end
section
variable {p:Pl} (hp:p.ok) {t:Int} (h0:0 ≤ t) (h1:t < p.t) {M:MS} {S:S1} {T:Nat} {n g:Int} {x:BitVec 64}
include hp h0 h1
theorem J1.read1 (h:J1 p t M S T) (hk:Hn.ok ⟨n,g,0⟩) (hx:Hn.word ⟨n,g,0⟩ = x) (hn:InR p n) (hb:S.sf n = ⟨g,1,0⟩) {f:Int} (f0:0 ≤ f) (f1:f ≤ 2):∃ M',Runs (lookT ⟨p,0,t⟩ x f getT) M 5 M' ⟨0,S.fv n f⟩ ∧ J1 p t M' S T:=by
 have hs:Se.ok ⟨p,0,t⟩:=⟨hp,by show (0:Int) ≤ 0;omega,by show (0:Int) ≤ 63;omega,h0,by show t ≤ p.t - 1;omega⟩
 have hg:0 ≤ g ∧ g ≤ 1073741823:=by unfold Hn.ok at hk;dsimp only at hk;omega
 obtain ⟨M',r,a⟩:=look_goodR hp h.a h0 h1 (hn:=⟨n,g,0⟩) hn hg hb rfl (d:=getT (p.fdF n f)) fun M hd' hN => get_D hp hN hn f0 (by omega)
 rw [lookT_good hs hx hk rfl hn.2 f0 f1]
 exact ⟨M',r,a,h.f,h.r,h.k,h.c⟩
theorem J1.write1 (h:J1 p t M S T) (hk:Hn.ok ⟨n,g,0⟩) (hx:Hn.word ⟨n,g,0⟩ = x) (hn:InR p n) (hb:S.sf n = ⟨g,1,0⟩) {f:Int} (f0:0 ≤ f) (f1:f ≤ 2) (v:BitVec 64):∃ M',Runs (lookT ⟨p,0,t⟩ x f fun q => wrtT q v) M 5 M' ⟨0,0#64⟩ ∧ J1 p t M' ⟨S.fs,S.rt,S.sf,upF2 S.fv n f v⟩ T:=by
 have hs:Se.ok ⟨p,0,t⟩:=⟨hp,by show (0:Int) ≤ 0;omega,by show (0:Int) ≤ 63;omega,h0,by show t ≤ p.t - 1;omega⟩
 have hg:0 ≤ g ∧ g ≤ 1073741823:=by unfold Hn.ok at hk;dsimp only at hk;omega
 obtain ⟨M',r,a⟩:=look_goodR hp h.a h0 h1 (hn:=⟨n,g,0⟩) hn hg hb rfl (d:=wrtT (p.fdF n f) v) fun M hd' hN => wrt_D hp hN hn f0 (by omega) v
 rw [lookT_good hs hx hk rfl hn.2 f0 f1]
 refine ⟨M',r,h.field a fun m hm o _ _ => upF2_other fun e => ?_⟩
 have:=(h.f m hm).1
 rw [e.1,hb] at this
 simp at this
theorem J1.bad1 (h:J1 p t M S T) (hk:Hn.ok ⟨n,g,0⟩) (hx:Hn.word ⟨n,g,0⟩ = x) (hn:InR p n) (hb:S.sf n ≠ ⟨g,1,0⟩) {f:Int} (f0:0 ≤ f) (f1:f ≤ 2):∃ M',Runs (lookT ⟨p,0,t⟩ x f getT) M 1 M' ⟨3,0#64⟩ ∧ J1 p t M' S T:=by
 have hs:Se.ok ⟨p,0,t⟩:=⟨hp,by show (0:Int) ≤ 0;omega,by show (0:Int) ≤ 63;omega,h0,by show t ≤ p.t - 1;omega⟩
 have hg:0 ≤ g ∧ g ≤ 1073741823:=by unfold Hn.ok at hk;dsimp only at hk;omega
 obtain ⟨M',r,a,_⟩:=look_badR hp h.a (hn:=⟨n,g,0⟩) hn hg hb (hldgT p t ⟨n,g,0⟩ (tchT p t (getT (p.fdF n f))))
 rw [lookT_good hs hx hk rfl hn.2 f0 f1]
 exact ⟨M',r,a,h.f,h.r,h.k,h.c⟩
theorem J1.drop1 (h:J1 p t M S T) (hT:T ≤ 1900000) (hk:Hn.ok ⟨n,g,0⟩) (hx:Hn.word ⟨n,g,0⟩ = x) (hn:InR p n) (hb:S.sf n = ⟨g,1,0⟩):∃ M' k T',Runs (dropT ⟨p,0,t⟩ x 2) M k M' ⟨0,0#64⟩ ∧ k ≤ 70000 ∧ T' ≤ T+1100 ∧ J1 p t M' (S.drop p ⟨n,g,0⟩) T':=by
 have hs:Se.ok ⟨p,0,t⟩:=⟨hp,by show (0:Int) ≤ 0;omega,by show (0:Int) ≤ 63;omega,h0,by show t ≤ p.t - 1;omega⟩
 have hg:0 ≤ g ∧ g ≤ 1073741823:=by unfold Hn.ok at hk;dsimp only at hk;omega
 obtain ⟨M',k,T',r,a1,a2,a3⟩:=h.drop_run hp h0 h1 hT (hn:=⟨n,g,0⟩) hn hg hb
 have hm:isMine x 0 p.n:=by rw [← hx];exact (isMine_word _ hk _ _).2 ⟨rfl,hn.2⟩
 have e:dropT ⟨p,0,t⟩ x 2 = drpT p t ⟨n,g,0⟩ 2:=by
  unfold dropT
  rw [if_pos hs,if_pos hm,← hx,hnN_word hk]
 rw [e]
 exact ⟨M',k,T',r,a1,a2,a3⟩
theorem J1.new1 (h:J1 p t M S T) (hT:T ≤ 1900000):∃ M' k T',Runs (cnewT ⟨p,0,t⟩ 2) M k M' (S.grant p 0).2 ∧ k ≤ 70000 ∧ T' ≤ T+1100 ∧ J1 p t M' (S.grant p 0).1 T':=by
 have hs:Se.ok ⟨p,0,t⟩:=⟨hp,by show (0:Int) ≤ 0;omega,by show (0:Int) ≤ 63;omega,h0,by show t ≤ p.t - 1;omega⟩
 have e:cnewT ⟨p,0,t⟩ 2 = cnwT p t 0 2:=by unfold cnewT;rw [if_pos hs]
 rw [e]
 exact h.grant_run hp h0 h1 hT 0
end
def UR (base:Nat) (v:Value) (l:List (BitVec 64)) (w:World):Prop:=
 (v = .slice none 0 0 ∧ l = []) ∨ ∃ g off cap cur,v = .slice (some ⟨g,off,none⟩) l.length cap ∧ base ≤ g ∧ w.heap[g]? = some (.cells cur 40 (0,0)) ∧ l.length ≤ cap ∧ off+cap ≤ cur.size ∧ ∀ i,i < l.length → cur[off+i]? = some (.int .u64 (U (uN l i)))
theorem UR.nil (base:Nat) (w:World):UR base (.slice none 0 0) [] w:=.inl ⟨rfl,rfl⟩
theorem UR.slice {base:Nat} {v:Value} {l:List (BitVec 64)} {w:World} (h:UR base v l w):∃ a cap,v = .slice a l.length cap:=by
 rcases h with ⟨rfl,rfl⟩ | ⟨g,off,cap,cur,rfl,_⟩
 ·exact ⟨none,0,rfl⟩
 ·exact ⟨_,cap,rfl⟩
theorem UR.is {base:Nat} {v:Value} {l:List (BitVec 64)} {w:World} (h:UR base v l w):Us w v l:=by
 rcases h with ⟨rfl,rfl⟩ | ⟨g,off,cap,cur,rfl,hb,hh,hc,hs,hr⟩
 ·exact ⟨none,0,rfl,Nat.le_refl _,fun h => absurd h (Nat.not_lt_zero _)⟩
 ·exact ⟨_,cap,rfl,hc,fun _ => ⟨g,off,rfl,hp_lt hh,fun i hi => cell_at hh (hr i hi)⟩⟩
theorem UR.keep {base:Nat} {v:Value} {l:List (BitVec 64)} {w w':World} (h:UR base v l w) (hk:∀ g,v.ownBlock = some g → w'.heap[g]? = w.heap[g]?):UR base v l w':=by
 rcases h with ⟨rfl,rfl⟩ | ⟨g,off,cap,cur,rfl,hb,hh,hr⟩
 ·exact .inl ⟨rfl,rfl⟩
 ·exact .inr ⟨g,off,cap,cur,rfl,hb,(hk g rfl).trans hh,hr⟩
theorem UR.own {base:Nat} {v:Value} {l:List (BitVec 64)} {w:World} (h:UR base v l w) {g:Nat} (hg:v.ownBlock = some g):base ≤ g ∧ ∃ cur,w.heap[g]? = some (.cells cur 40 (0,0)):=by
 rcases h with ⟨rfl,rfl⟩ | ⟨g',off,cap,cur,rfl,hb,hh,hr⟩
 ·cases hg
 ·cases hg
  exact ⟨hb,cur,hh⟩
theorem UR.ext {base:Nat} {v:Value} {l:List (BitVec 64)} {w w':World} (h:UR base v l w) (hx:Ext w w'):UR base v l w':=
 h.keep fun g hg => by obtain ⟨_,cur,hh⟩:=h.own hg;exact hx.block g (hp_lt hh)
theorem UR.fr {base lo hi:Nat} {v:Value} {l:List (BitVec 64)} {w w':World} (h:UR base v l w) (hx:Fr lo hi w w') (hb:hi ≤ base):UR base v l w':=
 h.keep fun g hg => by obtain ⟨h1,cur,hh⟩:=h.own hg;exact hx.block g (hp_lt hh) (.inr (by omega))
theorem UR.mono {base base':Nat} {v:Value} {l:List (BitVec 64)} {w:World} (h:UR base v l w) (hb:base' ≤ base):UR base' v l w:=by
 rcases h with ⟨rfl,rfl⟩ | ⟨g,off,cap,cur,rfl,h1,hh,hr⟩
 ·exact .inl ⟨rfl,rfl⟩
 ·exact .inr ⟨g,off,cap,cur,rfl,by omega,hh,hr⟩
theorem ur_of_own {base:Nat} {v:Value} {l:List (BitVec 64)} {w:World} (h:w.ownsRow base 40 1 v l.length (l.map fun x => Value.int .u64 (U x))):UR base v l w:=by
 rcases h.2 with ⟨rfl,h2⟩ | ⟨g,cap,cur,rfl,hg,hh,hc,hm,hs,ht⟩
 ·exact .inl ⟨rfl,List.eq_nil_of_length_eq_zero h2⟩
 ·refine .inr ⟨g,0,cap,cur,rfl,hg,hh,hc,by omega,fun i hi => ?_⟩
  have h3:(cur.toList.take (l.length * 1))[i]? = (l.map fun x => Value.int .u64 (U x))[i]?:=by rw [ht]
  rw [List.getElem?_take,if_pos (by omega),Array.getElem?_toList,List.getElem?_map,List.getElem?_eq_getElem hi] at h3
  rw [Nat.zero_add,h3]
  simp [uN,List.getD_eq_getElem?_getD,hi]
theorem uN_snoc_lt (l:List (BitVec 64)) (y:BitVec 64) (i:Nat) (h:i < l.length):uN (l ++ [y]) i = uN l i:=by
 simp [uN,List.getD_eq_getElem?_getD,List.getElem?_append_left h]
theorem uN_snoc_eq (l:List (BitVec 64)) (y:BitVec 64):uN (l ++ [y]) l.length = y:=by
 simp [uN,List.getD_eq_getElem?_getD]
theorem Tryz.infoU64q:(Tryz.prog.info? 40).map (fun i => (i.zero,i.size,i.bytes)) = some (some (.int .u64 0),1,8):=by kernel_rfl
theorem wpList_urow {w:World} {ops:Array Oper} {rest:List Oper} {o:Oper} {a:Act} {Q:Exit → Act → World → Prop} (hgd:o.guard = none) (s x:Operand)
  (ho:o.op = .call { callee:=.builtin .append,args:=#[s,x],argTypes:=#[87,87] }) (base:Nat) (v:Value) (l:List (BitVec 64)) (hs:a.eval s = v) (hI:UR base v l w)
  (ad:Addr) (y:BitVec 64) (hx:a.eval x = .slice (some ad) 1 1) (hc:w.cell? ad = some (.int .u64 (U y))) (hl:l.length ≤ 2000000) (hb:base ≤ w.heap.size)
  (h:∀ v' w',UR base v' (l ++ [y]) w' → w.grownBy w' v.ownBlock → (v'.ownBlock = v.ownBlock ∨ ∃ g,v'.ownBlock = some g ∧ w.heap.size ≤ g) → wpList Tryz.prog ops Q rest (a.put o.dst v') w'):wpList Tryz.prog ops Q (o :: rest) a w:=by
 obtain ⟨iU,hiU,hy0,hy1,hy2⟩ : ∃ i,Tryz.prog.info? 40 = some i ∧ i.zero = some (.int .u64 0) ∧ i.size = 1 ∧ i.bytes = 8:=by
  have h:=Tryz.infoU64q
  cases hi:Tryz.prog.info? 40 with
  | none => rw [hi] at h;cases h
  | some i =>
   rw [hi] at h
   simp at h
   exact ⟨i,rfl,h.1,h.2.1,h.2.2⟩
 have hnews:∀ j u,([.int .u64 (U y)]:List Value)[j]? = some u → w.cell? (ad.add j) = some u:=by
  intro j u hj
  match j,hj with
  | 0,hj =>
   simp at hj
   subst hj
   have:=spot_none' hc
   rw [this,add_at']
   rw [this] at hc
   exact hc
 have h1:∀ u ∈ ([.int .u64 (U y)]:List Value),u.oneCell' = true:=by
  intro u hu
  simp at hu
  subst hu
  rfl
 have hmap:(l.map fun x => Value.int .u64 (U x)) ++ [.int .u64 (U y)] = (l ++ [y]).map fun x => Value.int .u64 (U x):=by simp
 rcases hI with ⟨rfl,rfl⟩ | ⟨g,off,cap,cur,rfl,hbg,hh,hlc,hoc,hr⟩
 ·refine wpList_append_grows w hgd s x 87 ho 40 iU (.int .u64 0) 1 8 Tryz.underlying87 hiU hy0 hy1 hy2 rfl (by decide) none 0 0 [] hs (fun _ => ⟨rfl,rfl⟩) rfl (fun b hb => by cases hb) ad 1 1 [.int .u64 (U y)] hx rfl hnews h1 (by omega) (by unfold maxLen;omega) (by omega) ?_
  intro v' w' hown hg
  refine h v' w' ((ur_of_own (l:=[y]) hown).mono hb) hg ?_
  cases ho':v'.ownBlock with
  | none => exact .inl rfl
  | some g => exact .inr ⟨g,rfl,(hown.lt g ho').1⟩
 ·have holds:∀ j u,(l.map fun x => Value.int .u64 (U x))[j]? = some u → w.cell? ⟨g,off+j,none⟩ = some u:=by
   intro j u hj
   have hj':j < l.length:=by
    have:=(List.getElem?_eq_some_iff.1 hj).1
    simpa using this
   rw [List.getElem?_map,List.getElem?_eq_getElem hj'] at hj
   simp at hj
   refine cell_at hh ((hr j hj').trans ?_)
   rw [← hj]
   simp [uN,List.getD_eq_getElem?_getD,hj']
  refine wpList_append_arg w hgd s x 87 ho 40 iU (.int .u64 0) 1 8 Tryz.underlying87 hiU hy0 hy1 hy2 rfl (by decide) g off l.length cap _ hs (by simp) holds ad 1 1 [.int .u64 (U y)] hx rfl hnews h1 ?_ (by unfold maxLen;omega) (by omega) ?_ ?_
  ·intro hroom j hj
   have hlt:off+l.length * 1+j < cur.size:=by simp at hj;omega
   refine ⟨?_,free_at hh⟩
   rw [cell_at hh (Array.getElem?_eq_getElem hlt)]
   rfl
  ·intro hroom
   have e:w.setCells g (off+l.length * 1) [.int .u64 (U y)] = w.setCell ⟨g,off+l.length,none⟩ (.int .u64 (U y)):=by simp [World.setCells]
   rw [e]
   have hh':=set_same (o:=off+l.length) (.int .u64 (U y)) hh
   refine h _ _ (.inr ⟨g,off,cap,_,?_,hbg,hh',?_,?_,fun i hi => ?_⟩) ⟨rfl,rfl,rfl,by rw [set_size];exact Nat.le_refl _,fun k _ hk => set_other _ (fun e => hk (by rw [e];rfl))⟩ (.inl rfl)
   ·simp
   ·simp;omega
   ·simpa using hoc
   ·simp only [List.length_append,List.length_cons,List.length_nil] at hi
    by_cases hi':i < l.length
    ·rw [uN_snoc_lt l y i hi',Array.getElem?_setIfInBounds_ne (by omega)]
     exact hr i hi'
    ·obtain rfl:i = l.length:=by omega
     rw [uN_snoc_eq,Array.getElem?_setIfInBounds_self_of_lt (by omega)]
  ·intro hfull v' w' hown hg
   refine h v' w' ((ur_of_own (l:=l ++ [y]) (by rw [← hmap];simpa using hown)).mono hb) ⟨hg.os,hg.tape,hg.output,hg.size,fun k hk _ => hg.block k hk (by simp)⟩ ?_
   cases ho':v'.ownBlock with
   | none =>
    exfalso
    rcases hown.2 with ⟨_,h2⟩ | ⟨g',cap',cur',e',_⟩
    ·omega
    ·rw [e'] at ho'
     cases ho'
   | some g' => exact .inr ⟨g',rfl,(hown.lt g' ho').1⟩
theorem UR.some {base:Nat} {v:Value} {l:List (BitVec 64)} {w:World} (h:UR base v l w) (hl:0 < l.length):∃ g off cap,v = .slice (some ⟨g,off,none⟩) l.length cap ∧ g < w.heap.size ∧ base ≤ g ∧ l.length ≤ cap ∧ ∀ i,i < l.length → w.cell? ⟨g,off+i,none⟩ = some (.int .u64 (U (uN l i))):=by
 rcases h with ⟨rfl,rfl⟩ | ⟨g,off,cap,cur,rfl,hb,hh,hc,hs,hr⟩
 ·exact absurd hl (Nat.not_lt_zero _)
 ·exact ⟨g,off,cap,rfl,hp_lt hh,hb,hc,fun i hi => cell_at hh (hr i hi)⟩
theorem grownU_ext {w0 w w':World} {v:Value} {base:Nat} {l:List (BitVec 64)} (h:Ext w0 w) (hI:UR base v l w) (hg:w.grownBy w' v.ownBlock) (hb:w0.heap.size ≤ base):Ext w0 w':=
 ⟨hg.os.trans h.os,hg.tape.trans h.tape,hg.output.trans h.output,Nat.le_trans h.size hg.size,fun k hk => (hg.block k (Nat.lt_of_lt_of_le hk h.size) (fun e => by have:=(hI.own e.symm).1;omega)).trans (h.block k hk)⟩
theorem grownU_at {w w':World} {v:Value} {base k:Nat} {l:List (BitVec 64)} (hI:UR base v l w) (hg:w.grownBy w' v.ownBlock) (hk:k < w.heap.size) (hb:k < base):w'.heap[k]? = w.heap[k]?:=
 hg.block k hk (fun e => by have:=(hI.own e.symm).1;omega)
structure CFs (p:Pl) (lo hi:Nat) (L:Lay) (w0:World) (base:Nat) (vh:Value) (had:List (BitVec 64)) (bs:List (Nat × Obj)) (M:MS) (wr:World):Prop where
 b:CBs p lo hi L w0 bs M wr
 u:UR base vh had wr
 hb:hi ≤ base
 h0:w0.heap.size ≤ base
 sz:base ≤ wr.heap.size
 nb:∀ x ∈ bs,∀ g,vh.ownBlock = some g → x.1 ≠ g
section
variable {p:Pl} {lo hi:Nat} {L:Lay} {w0:World} {base:Nat} {vh:Value} {had:List (BitVec 64)} {bs:List (Nat × Obj)} {M M':MS} {wr wr':World}
theorem CFs.m (h:CFs p lo hi L w0 base vh had bs M wr):MemIn lo hi L M wr:=h.b.m
theorem CFs.mg (h:CFs p lo hi L w0 base vh had bs M wr):Mg p M:=h.b.mg
theorem CFs.ex (h:CFs p lo hi L w0 base vh had bs M wr):Ext w0 wr:=h.b.ex
theorem CFs.at (h:CFs p lo hi L w0 base vh had bs M wr) {b:Nat} {o:Obj} (hb:(b,o) ∈ bs):wr.heap[b]? = some o:=h.b.at hb
theorem CFs.ext (h:CFs p lo hi L w0 base vh had bs M wr) (hx:Ext wr wr'):CFs p lo hi L w0 base vh had bs M wr':=⟨h.b.ext hx,h.u.ext hx,h.hb,h.h0,Nat.le_trans h.sz hx.size,h.nb⟩
theorem CFs.ran (h:CFs p lo hi L w0 base vh had bs M wr) (hm:MemIn lo hi L M' wr') (hf:Fr lo hi wr wr') (hG:Mg p M') (h1:w0.heap.size ≤ lo):CFs p lo hi L w0 base vh had bs M' wr':=⟨h.b.ran hm hf hG h1,h.u.fr hf h.hb,h.hb,h.h0,Nat.le_trans h.sz hf.size,h.nb⟩
theorem CFs.new (h:CFs p lo hi L w0 base vh had bs M wr) (o:Obj):CFs p lo hi L w0 base vh had ((wr.heap.size,o) :: bs) M (wr.alloc o):=by
 refine ⟨h.b.new o,h.u.ext (ext_alloc o (ext_refl wr)),h.hb,h.h0,Nat.le_trans h.sz (ext_alloc o (ext_refl wr)).size,fun x hx g hg => ?_⟩
 rcases List.mem_cons.1 hx with rfl | hx
 ·obtain ⟨_,cur,hh⟩:=h.u.own hg
  have:=hp_lt hh
  show wr.heap.size ≠ g
  omega
 ·exact h.nb x hx g hg
theorem CFs.sub (h:CFs p lo hi L w0 base vh had bs M wr) {cs:List (Nat × Obj)} (hs:∀ x ∈ cs,x ∈ bs):CFs p lo hi L w0 base vh had cs M wr:=⟨h.b.sub hs,h.u,h.hb,h.h0,h.sz,fun x hx => h.nb x (hs x hx)⟩
theorem CFs.grow (h:CFs p lo hi L w0 base vh had bs M wr) {v':Value} {had':List (BitVec 64)} (hv:UR base v' had' wr') (hg:wr.grownBy wr' vh.ownBlock) (hn:v'.ownBlock = vh.ownBlock ∨ ∃ g,v'.ownBlock = some g ∧ wr.heap.size ≤ g):CFs p lo hi L w0 base v' had' bs M wr':=by
 have hlh:=h.b.m.top
 have hh:=h.hb
 refine ⟨⟨h.b.m.keep hg.size fun k _ hk => grownU_at h.u hg (by omega) (by omega),h.b.mg,grownU_ext h.b.ex h.u hg h.h0,fun x hx => ⟨(h.b.bx x hx).1,?_⟩⟩,hv,h.hb,h.h0,Nat.le_trans h.sz hg.size,fun x hx g hgb => ?_⟩
 ·exact (hg.block _ (heap_lt (h.b.bx x hx).2) fun e => h.nb x hx x.1 e.symm rfl).trans (h.b.bx x hx).2
 ·rcases hn with e | ⟨g',e,hle⟩
  ·exact h.nb x hx g (e ▸ hgb)
  ·rw [e] at hgb
   cases hgb
   have:=heap_lt (h.b.bx x hx).2
   omega
theorem CFs.begin (h:CBs p lo hi L w0 bs M wr):CFs p lo hi L w0 wr.heap.size (.slice none 0 0) [] bs M wr:=⟨h,UR.nil _ _,h.m.top,h.ex.size,Nat.le_refl _,fun _ _ g hg => by cases hg⟩
end
end Go.Proofs.YthjklbonebnekaaGreat

