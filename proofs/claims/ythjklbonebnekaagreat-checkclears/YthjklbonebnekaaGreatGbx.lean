/-
  One thread that works with nodes alone, in plain numbers: what each operation comes to, and what stands behind it. Conditions: a formed seat; fewer swaps than a tag can tell.
-/
import Derived.Test.YthjklbonebnekaaGreatGbw
set_option maxRecDepth 8000
set_option maxHeartbeats 4000000
namespace Go.Proofs.YthjklbonebnekaaGreat
open Go Go.RowKit
theorem upR_upR (rs:Int → List Int) (t:Int) (l m:List Int):upR (upR rs t l) t m = upR rs t m:=by
 funext u
 unfold upR
 split <;> rfl
structure S1 where
 fs:List Int
 rt:List Int
 sf:Int → St
 fv:Int → Int → BitVec 64
def outL (p:Pl) (rt:List Int):List Int:=(scanP (hldB p fun _ => 0#64) rt.length rt []).2
def S1.scan (p:Pl) (S:S1):S1:=⟨pushL (goneS p S.sf) S.fs (outL p S.rt),[],freedS p S.sf (outL p S.rt),wipeF S.fv (outL p S.rt)⟩
def S1.full (p:Pl) (S:S1):S1:=match S.fs with
 | [] => S.scan p
 | _ :: _ => S
def S1.take (S:S1):S1:=match S.fs with
 | [] => S
 | n :: l => ⟨l,S.rt,upS S.sf n (liveF 0 (S.sf n)),S.fv⟩
def S1.grant (p:Pl) (tn:Int) (S:S1):S1 × Rz:=((S.full p).take,match (S.full p).fs with
 | [] => ⟨4,0#64⟩
 | n :: _ => ⟨0,Hn.word ⟨n,((S.full p).sf n).g,tn⟩⟩)
def S1.put (p:Pl) (n:Int) (S:S1):S1:=if (S.rt.length:Int) < p.r then ⟨S.fs,S.rt ++ [n],S.sf,S.fv⟩ else ⟨(S.scan p).fs,[n],(S.scan p).sf,(S.scan p).fv⟩
def S1.drop (p:Pl) (h:Hn) (S:S1):S1:=S1.put p h.i ⟨S.fs,S.rt,upS S.sf h.i ⟨h.g,2,0⟩,S.fv⟩
def S1.good (p:Pl) (tn:Int) (x:BitVec 64) (S:S1):Bool:=decide (isMine x tn p.n ∧ S.sf (hnN x).i = ⟨(hnN x).g,1,0⟩)
def S1.op (p:Pl) (tn:Int) (code fd:Int) (h a b:BitVec 64) (S:S1):S1 × Rz:=
 if code = 1 then S.grant p tn
 else if code = 2 then (if S.good p tn h then (S.drop p (hnN h),⟨0,0#64⟩) else (S,⟨3,0#64⟩))
 else if ¬ (0 ≤ fd ∧ fd ≤ 2) then (S,⟨1,0#64⟩)
 else if S.good p tn h then
  (if code = 3 then (S,⟨0,S.fv (hnN h).i fd⟩)
  else if code = 4 then (⟨S.fs,S.rt,S.sf,upF2 S.fv (hnN h).i fd a⟩,⟨0,0#64⟩)
  else if S.fv (hnN h).i fd = a then (⟨S.fs,S.rt,S.sf,upF2 S.fv (hnN h).i fd b⟩,⟨0,1#64⟩) else (S,⟨0,0#64⟩))
 else (S,⟨3,0#64⟩)
structure J1 (p:Pl) (t:Int) (M:MS) (S:S1) (T:Nat):Prop where
 a:NIn p M S.fs T (upR (fun _ => []) t S.rt) S.sf (fun _ => 0#64) S.fv (fun _ => 0#64)
 f:∀ n ∈ S.fs,(S.sf n).m = 0 ∧ ∀ o,0 ≤ o → o < 3 → S.fv n o = 0#64
 r:∀ n ∈ S.rt,(S.sf n).m = 2
 k:∀ n,InR p n → (S.sf n).k = 0 ∧ (S.sf n).g ≤ p.g
 c:∀ n,InR p n → ((S.sf n).m = 0 ∧ n ∈ S.fs) ∨ ((S.sf n).m = 2 ∧ n ∈ S.rt) ∨ (S.sf n).m = 1 ∨ (S.sf n).m = 3
theorem pushL_in (g:Int → Bool):∀ (out fl:List Int) (n:Int),n ∈ fl ∨ (n ∈ out ∧ g n = false) → n ∈ pushL g fl out:=by
 intro out
 induction out with
 | nil =>
  intro fl n h
  rcases h with h | h
  ·exact h
  ·simp at h
 | cons m out ih =>
  intro fl n h
  refine ih _ n ?_
  rcases h with h | ⟨h,hg⟩
  ·left
   by_cases hm:g m = true
   ·rw [if_pos hm];exact h
   ·rw [if_neg hm];exact List.mem_cons_of_mem _ h
  ·rcases List.mem_cons.1 h with rfl | h
   ·left
    rw [if_neg (by rw [hg];simp)]
    exact List.mem_cons_self ..
   ·exact .inr ⟨h,hg⟩
theorem pushL_out (g:Int → Bool):∀ (out fl:List Int) (n:Int),n ∈ pushL g fl out → n ∈ fl ∨ (n ∈ out ∧ g n = false):=by
 intro out
 induction out with
 | nil => intro fl n h;exact .inl h
 | cons m out ih =>
  intro fl n h
  rcases ih _ n h with h2 | ⟨h2,hg⟩
  ·by_cases hm:g m = true
   ·rw [if_pos hm] at h2
    exact .inl h2
   ·rw [if_neg hm] at h2
    rcases List.mem_cons.1 h2 with rfl | h2
    ·exact .inr ⟨List.mem_cons_self ..,by simpa using hm⟩
    ·exact .inl h2
  ·exact .inr ⟨List.mem_cons_of_mem _ h2,hg⟩
section
variable {p:Pl} (hp:p.ok) {t:Int} (h0:0 ≤ t) (h1:t < p.t) {M:MS} {S:S1} {T:Nat}
include hp h0 h1
omit h0 h1 in
theorem hld_zero {n:Int} (hn:InR p n):hldB p (fun _ => 0#64) n = false:=by
 have hlt:=hn.lt hp
 have:=hn.1
 unfold hldB
 rw [Bool.eq_false_iff]
 intro h
 obtain ⟨j,_,_,e⟩:=heldR_some _ _ h
 exact nameW_ne0 hn.1 (by omega) e.symm
theorem J1.outs (h:J1 p t M S T):scanP (hldB p fun _ => 0#64) S.rt.length S.rt [] = ([],outL p S.rt) ∧ (outL p S.rt).Perm S.rt:=by
 have hr:=(h.a.rt t h0 h1).rg
 rw [upR_same] at hr
 have h1:(scanP (hldB p fun _ => 0#64) S.rt.length S.rt []).1 = []:=scanP_none _ _ _ _ rfl fun i hi => hld_zero hp (hr _ (iN_mem hi))
 have hperm:=scanP_perm (hldB p fun _ => 0#64) S.rt.length S.rt [] (Nat.le_refl _)
 rw [h1,List.nil_append,List.append_nil] at hperm
 exact ⟨Prod.ext h1 rfl,hperm⟩
theorem J1.len (h:J1 p t M S T):(S.rt.length:Int) ≤ p.r ∧ S.rt.length ≤ 1024:=by
 have hl:=(h.a.rt t h0 h1).len
 rw [upR_same] at hl
 unfold Pl.ok at hp
 omega
omit h0 h1 in
theorem freed_cases {s:St} (hok:s.ok) (_hk:s.k = 0) (hg:s.g ≤ p.g):(s.freed p.g = ⟨s.g,3,0⟩ ∧ p.g = s.g) ∨ (s.freed p.g = ⟨s.g+1,0,0⟩ ∧ s.g < p.g):=by
 have hg2:p.g ≤ 1073741823:=by unfold Pl.ok at hp;omega
 unfold St.ok at hok
 unfold St.freed
 by_cases h:p.g ≤ s.g
 ·rw [if_pos h]
  exact .inl ⟨rfl,by omega⟩
 ·rw [if_neg h]
  have e:wrap64 (s.g+1) = s.g+1:=by unfold wrap64;omega
  rw [e]
  exact .inr ⟨rfl,by omega⟩
end
structure Bx (p:Pl) (S:S1) (ex:Int):Prop where
 f:∀ n ∈ S.fs,(S.sf n).m = 0 ∧ ∀ o,0 ≤ o → o < 3 → S.fv n o = 0#64
 r:∀ n ∈ S.rt,(S.sf n).m = 2
 k:∀ n,InR p n → (S.sf n).k = 0 ∧ (S.sf n).g ≤ p.g
 c:∀ n,InR p n → n ≠ ex → ((S.sf n).m = 0 ∧ n ∈ S.fs) ∨ ((S.sf n).m = 2 ∧ n ∈ S.rt) ∨ (S.sf n).m = 1 ∨ (S.sf n).m = 3
 e:InR p ex → (S.sf ex).m = 2 ∧ ex ∉ S.fs ∧ ex ∉ S.rt
theorem J1.bx {p:Pl} {t:Int} {M:MS} {S:S1} {T:Nat} (h:J1 p t M S T):Bx p S (-1):=⟨h.f,h.r,h.k,fun n a _ => h.c n a,fun h => by have:=h.1;omega⟩
section
variable {p:Pl} (hp:p.ok) {S:S1} {ex:Int}
include hp
theorem Bx.scan (h:Bx p S ex) (hq:(outL p S.rt).Perm S.rt) (hin:∀ n ∈ S.rt,InR p n) (hok:∀ n,InR p n → (S.sf n).ok):Bx p (S.scan p) ex:=by
 have ho:∀ n,n ∈ outL p S.rt ↔ n ∈ S.rt:=fun n => hq.mem_iff
 have hno:∀ n,(S.sf n).m ≠ 2 → n ∉ outL p S.rt:=fun n hm hx => hm (h.r n ((ho n).1 hx))
 have same:∀ n,n ∉ outL p S.rt → (S.scan p).sf n = S.sf n:=fun n hn => by show freedS p S.sf _ n = _;unfold freedS;rw [if_neg hn]
 have turn:∀ n,n ∈ outL p S.rt → (S.scan p).sf n = (S.sf n).freed p.g:=fun n hn => by show freedS p S.sf _ n = _;unfold freedS;rw [if_pos hn]
 have gone:∀ n,goneS p S.sf n = decide (((S.sf n).freed p.g).m = 3):=fun n => rfl
 refine ⟨fun n hn => ?_,fun n hn => by simp [S1.scan] at hn,fun n hn => ?_,fun n hn hne => ?_,fun hx => ?_⟩
 ·rcases pushL_out _ _ _ _ hn with hf | ⟨hf,hg⟩
  ·have hm:=(h.f n hf).1
   have hout:=hno n (by omega)
   refine ⟨by rw [same n hout];exact hm,fun o a b => ?_⟩
   show wipeF S.fv _ n o = _
   unfold wipeF
   rw [if_neg hout]
   exact (h.f n hf).2 o a b
  ·have hi:=hin n ((ho n).1 hf)
   refine ⟨?_,fun o _ _ => ?_⟩
   ·rw [turn n hf]
    rw [gone] at hg
    rcases freed_cases hp (hok n hi) (h.k n hi).1 (h.k n hi).2 with e | e
    ·rw [e.1] at hg
     simp at hg
    ·rw [e.1]
   ·show wipeF S.fv _ n o = _
    unfold wipeF
    rw [if_pos hf]
 ·by_cases hf:n ∈ outL p S.rt
  ·rw [turn n hf]
   rcases freed_cases hp (hok n hn) (h.k n hn).1 (h.k n hn).2 with e | e
   ·rw [e.1]
    exact ⟨rfl,(h.k n hn).2⟩
   ·rw [e.1]
    exact ⟨rfl,by show (S.sf n).g+1 ≤ p.g;omega⟩
  ·rw [same n hf]
   exact h.k n hn
 ·rcases h.c n hn hne with ⟨hm,hf⟩ | ⟨hm,hf⟩ | hm | hm
  ·rw [same n (hno n (by omega))]
   exact .inl ⟨hm,pushL_in _ _ _ _ (.inl hf)⟩
  ·have hf':=(ho n).2 hf
   rw [turn n hf']
   rcases freed_cases hp (hok n hn) (h.k n hn).1 (h.k n hn).2 with e | e
   ·rw [e.1]
    exact .inr (.inr (.inr rfl))
   ·refine .inl ⟨by rw [e.1],pushL_in _ _ _ _ (.inr ⟨hf',?_⟩)⟩
    rw [gone,e.1]
    rfl
  ·rw [same n (hno n (by omega))]
   exact .inr (.inr (.inl hm))
  ·rw [same n (hno n (by omega))]
   exact .inr (.inr (.inr hm))
 ·obtain ⟨e1,e2,e3⟩:=h.e hx
  have hout:ex ∉ outL p S.rt:=fun h => e3 ((ho ex).1 h)
  refine ⟨by rw [same ex hout];exact e1,fun hh => ?_,by simp [S1.scan]⟩
  rcases pushL_out _ _ _ _ hh with hf | ⟨hf,_⟩
  ·exact e2 hf
  ·exact hout hf
end
section
variable {p:Pl} (hp:p.ok) {t:Int} (h0:0 ≤ t) (h1:t < p.t) {M:MS} {S:S1} {T:Nat}
include hp h0 h1
theorem J1.grant_run (h:J1 p t M S T) (hT:T ≤ 1900000) (tn:Int):∃ M' k T',Runs (cnwT p t tn 2) M k M' (S.grant p tn).2 ∧ k ≤ 70000 ∧ T' ≤ T+1100 ∧ J1 p t M' (S.grant p tn).1 T':=by
 have hl:=h.len hp h0 h1
 obtain ⟨hq1,hq2⟩:=h.outs hp h0 h1
 have hrs:(upR (fun _ => []) t S.rt) t = S.rt:=upR_same _ _ _
 have hin:∀ n ∈ S.rt,InR p n:=fun n hn => (h.a.rt t h0 h1).rg n (by rw [hrs];exact hn)
 have take:∀ (S':S1) (M':MS) (T':Nat) (n:Int) (l:List Int),Bx p S' (-1) → S'.fs = n :: l → (∀ m ∈ n :: l,InR p m) → (n :: l).Nodup → NIn p M' l T' (upR (fun _ => []) t S'.rt) (upS S'.sf n (liveF 0 (S'.sf n))) (fun _ => 0#64) S'.fv (fun _ => 0#64) → (∀ m ∈ S'.rt,m ≠ n) → J1 p t M' S'.take T':=by
  intro S' M' T' n l hB e hin hnd hN hrn
  have et:S'.take = ⟨l,S'.rt,upS S'.sf n (liveF 0 (S'.sf n)),S'.fv⟩:=by unfold S1.take;rw [e]
  have hnl:n ∉ l:=(List.nodup_cons.1 hnd).1
  rw [et]
  refine ⟨hN,fun m hm => ?_,fun m hm => ?_,fun m hm => ?_,fun m hm => ?_⟩
  ·have hne:m ≠ n:=fun e => hnl (e ▸ hm)
   dsimp only
   rw [upS_other hne]
   exact hB.f m (by rw [e];exact List.mem_cons_of_mem _ hm)
  ·dsimp only
   rw [upS_other (hrn m hm)]
   exact hB.r m hm
  ·dsimp only
   by_cases hne:m = n
   ·subst hne
    rw [upS_same]
    exact ⟨rfl,(hB.k m hm).2⟩
   ·rw [upS_other hne]
    exact hB.k m hm
  ·dsimp only
   by_cases hne:m = n
   ·subst hne
    rw [upS_same]
    exact .inr (.inr (.inl rfl))
   ·rw [upS_other hne]
    rcases hB.c m hm (by have:=hm.1;omega) with ⟨a,b⟩ | b | b | b
    ·rw [e] at b
     rcases List.mem_cons.1 b with b | b
     ·exact absurd b hne
     ·exact .inl ⟨a,b⟩
    ·exact .inr (.inl b)
    ·exact .inr (.inr (.inl b))
    ·exact .inr (.inr (.inr b))
 cases e:S.fs with
 | cons n l =>
  have ha:=h.a
  rw [e] at ha
  obtain ⟨M1,r1,a1⟩:=newN_take hp ha (by omega) (kd:=0) (by omega) t 0
  have ef:S.full p = S:=by unfold S1.full;rw [e]
  have eg:S.grant p tn = (S.take,⟨0,Hn.word ⟨n,(S.sf n).g,tn⟩⟩):=by unfold S1.grant;rw [ef,e]
  have r2:=cnw_run (tn:=tn) r1
  rw [if_pos rfl] at r2
  rw [eg]
  refine ⟨M1,5,T+1,r2,by omega,by omega,take S M1 (T+1) n l h.bx e ha.fl.rg ha.fl.nd a1 fun m hm hmn => ?_⟩
  have h2:=h.r m hm
  have h3:=(h.f n (by rw [e];simp)).1
  rw [hmn] at h2
  omega
 | nil =>
  have ha:=h.a
  rw [e] at ha
  have hB:=h.bx.scan hp hq2 hin h.a.ok
  have ef:S.full p = S.scan p:=by unfold S1.full;rw [e]
  have e2:pushL (goneS p S.sf) [] (outL p S.rt) = (S.scan p).fs:=by show _ = pushL (goneS p S.sf) S.fs (outL p S.rt);rw [e]
  have e1:scanP (hldB p fun _ => 0#64) ((upR (fun _ => []) t S.rt) t).length ((upR (fun _ => []) t S.rt) t) [] = ([],outL p S.rt):=by rw [hrs];exact hq1
  cases e3:(S.scan p).fs with
  | nil =>
   obtain ⟨M1,T1,s,g,r1,hs,hT1,b1⟩:=newN_scan hp h0 h1 ha (by omega) (kd:=0) (by omega) e1 (e2.trans e3)
   rw [hrs] at hs hT1
   obtain ⟨rfl,a1⟩:=b1
   rw [upR_upR] at a1
   have eg:S.grant p tn = (S.scan p,⟨4,0#64⟩):=by
    unfold S1.grant S1.take
    rw [ef,e3]
   rw [eg]
   have r2:=cnw_run (tn:=tn) r1
   rw [if_neg (by decide)] at r2
   refine ⟨M1,s,T1,r2,by omega,by omega,?_,hB.f,hB.r,hB.k,fun m hm => hB.c m hm (by have:=hm.1;omega)⟩
   rw [e3]
   exact a1
  | cons n l =>
   obtain ⟨M1,T1,s,g,r1,hs,hT1,b1⟩:=newN_scan hp h0 h1 ha (by omega) (kd:=0) (by omega) e1 (e2.trans e3)
   rw [hrs] at hs hT1
   obtain ⟨rfl,a1⟩:=b1
   rw [upR_upR] at a1
   have eg:S.grant p tn = ((S.scan p).take,⟨0,Hn.word ⟨n,((S.scan p).sf n).g,tn⟩⟩):=by
    unfold S1.grant
    rw [ef,e3]
   rw [eg]
   have r2:=cnw_run (tn:=tn) r1
   rw [if_pos rfl] at r2
   have hnd:(n :: l).Nodup ∧ ∀ m ∈ n :: l,InR p m:=by
    obtain ⟨M2,T2,s2,_,_,_,a2⟩:=ha.scan hp h0 h1 (by omega) e1
    rw [e2,e3] at a2
    exact ⟨a2.fl.nd,a2.fl.rg⟩
   exact ⟨M1,s,T1,r2,by omega,by omega,take (S.scan p) M1 T1 n l hB e3 hnd.2 hnd.1 a1 fun m hm => by simp [S1.scan] at hm⟩
theorem J1.drop_run (h:J1 p t M S T) (hT:T ≤ 1900000) {hn:Hn} (hi:InR p hn.i) (hg:0 ≤ hn.g ∧ hn.g ≤ 1073741823) (hb:S.sf hn.i = ⟨hn.g,1,0⟩):∃ M' k T',Runs (drpT p t hn 2) M k M' ⟨0,0#64⟩ ∧ k ≤ 70000 ∧ T' ≤ T+1100 ∧ J1 p t M' (S.drop p hn) T':=by
 have hl:=h.len hp h0 h1
 obtain ⟨hq1,hq2⟩:=h.outs hp h0 h1
 have hrs:(upR (fun _ => []) t S.rt) t = S.rt:=upR_same _ _ _
 have hin:∀ n ∈ S.rt,InR p n:=fun n hn => (h.a.rt t h0 h1).rg n (by rw [hrs];exact hn)
 have hm1:(S.sf hn.i).m = 1:=by rw [hb]
 have hnf:hn.i ∉ S.fs:=fun hx => by have:=(h.f _ hx).1;omega
 have hnr1:hn.i ∉ S.rt:=fun hx => by have:=h.r _ hx;omega
 have hnr:∀ u,0 ≤ u → u < p.t → hn.i ∉ (upR (fun _ => []) t S.rt) u:=fun u _ _ => by
  by_cases e:u = t
  ·subst e
   rw [upR_same]
   exact hnr1
  ·rw [upR_other e]
   simp
 have hgp:hn.g ≤ p.g:=by have:=(h.k _ hi).2;rw [hb] at this;exact this
 have hB:Bx p ⟨S.fs,S.rt,upS S.sf hn.i ⟨hn.g,2,0⟩,S.fv⟩ hn.i:=by
  refine ⟨fun m hm => ?_,fun m hm => ?_,fun m hm => ?_,fun m hm hne => ?_,fun _ => ?_⟩
  ·dsimp only at hm ⊢
   rw [upS_other fun e => hnf (by rw [e] at hm;exact hm)]
   exact h.f m hm
  ·dsimp only at hm ⊢
   rw [upS_other fun e => hnr1 (by rw [e] at hm;exact hm)]
   exact h.r m hm
  ·dsimp only
   by_cases e:m = hn.i
   ·rw [e,upS_same]
    exact ⟨rfl,hgp⟩
   ·rw [upS_other e]
    exact h.k m hm
  ·dsimp only
   rw [upS_other hne]
   exact h.c m hm
  ·dsimp only
   rw [upS_same]
   exact ⟨rfl,hnf,hnr1⟩
 have hok2:∀ n,InR p n → (upS S.sf hn.i ⟨hn.g,2,0⟩ n).ok:=fun n hnn => by
  by_cases e:n = hn.i
  ·rw [e,upS_same]
   unfold St.ok
   simp only
   omega
  ·rw [upS_other e]
   exact h.a.ok n hnn
 have fin:∀ (S':S1) (M':MS) (T':Nat),Bx p S' hn.i → NIn p M' S'.fs T' (upR (fun _ => []) t (S'.rt ++ [hn.i])) S'.sf (fun _ => 0#64) S'.fv (fun _ => 0#64) → J1 p t M' ⟨S'.fs,S'.rt ++ [hn.i],S'.sf,S'.fv⟩ T':=by
  intro S' M' T' hB' hN
  refine ⟨hN,hB'.f,fun m hm => ?_,hB'.k,fun m hm => ?_⟩
  ·rcases List.mem_append.1 hm with hm | hm
   ·exact hB'.r m hm
   ·obtain rfl:=List.mem_singleton.1 hm
    exact (hB'.e hi).1
  ·by_cases e:m = hn.i
   ·subst e
    exact .inr (.inl ⟨(hB'.e hi).1,by simp⟩)
   ·rcases hB'.c m hm e with b | ⟨a,b⟩ | b | b
    ·exact .inl b
    ·exact .inr (.inl ⟨a,by simp [b]⟩)
    ·exact .inr (.inr (.inl b))
    ·exact .inr (.inr (.inr b))
 by_cases hlt:(S.rt.length:Int) < p.r
 ·obtain ⟨M1,r1,a1⟩:=drop_room hp h0 h1 h.a hi hg hb hnf hnr (by rw [hrs];exact hlt) 2
  rw [hrs,upR_upR] at a1
  have ed:S.drop p hn = ⟨S.fs,S.rt ++ [hn.i],upS S.sf hn.i ⟨hn.g,2,0⟩,S.fv⟩:=by unfold S1.drop S1.put;rw [if_pos hlt]
  rw [ed]
  exact ⟨M1,5,T,r1,by omega,by omega,fin ⟨S.fs,S.rt,upS S.sf hn.i ⟨hn.g,2,0⟩,S.fv⟩ M1 T hB a1⟩
 ·have e1:scanP (hldB p fun _ => 0#64) ((upR (fun _ => []) t S.rt) t).length ((upR (fun _ => []) t S.rt) t) [] = ([],outL p S.rt):=by rw [hrs];exact hq1
  obtain ⟨M1,T1,s,r1,hs,hT1,a1⟩:=drop_full hp h0 h1 h.a (by omega) hi hg hb hnf hnr (by rw [hrs];omega) e1
  rw [hrs] at hs hT1
  rw [upR_upR] at a1
  have ed:S.drop p hn = ⟨(S1.scan p ⟨S.fs,S.rt,upS S.sf hn.i ⟨hn.g,2,0⟩,S.fv⟩).fs,[hn.i],(S1.scan p ⟨S.fs,S.rt,upS S.sf hn.i ⟨hn.g,2,0⟩,S.fv⟩).sf,(S1.scan p ⟨S.fs,S.rt,upS S.sf hn.i ⟨hn.g,2,0⟩,S.fv⟩).fv⟩:=by unfold S1.drop S1.put;rw [if_neg hlt]
  rw [ed]
  refine ⟨M1,s,T1,r1,by omega,by omega,?_⟩
  have hB2:=hB.scan hp hq2 hin hok2
  exact fin (S1.scan p ⟨S.fs,S.rt,upS S.sf hn.i ⟨hn.g,2,0⟩,S.fv⟩) M1 T1 hB2 a1
omit hp h0 h1 in
theorem J1.field (h:J1 p t M S T) {M':MS} {fv':Int → Int → BitVec 64} (hN:NIn p M' S.fs T (upR (fun _ => []) t S.rt) S.sf (fun _ => 0#64) fv' (fun _ => 0#64)) (hf:∀ n ∈ S.fs,∀ o,0 ≤ o → o < 3 → fv' n o = S.fv n o):J1 p t M' ⟨S.fs,S.rt,S.sf,fv'⟩ T:=
 ⟨hN,fun n hn => ⟨(h.f n hn).1,fun o a b => (hf n hn o a b).trans ((h.f n hn).2 o a b)⟩,h.r,h.k,h.c⟩
theorem J1.op_run (h:J1 p t M S T) (hT:T ≤ 1900000) {tn:Int} (ht:0 ≤ tn ∧ tn ≤ 63) (code fd:Int) (x a b:BitVec 64):∃ M' k T',Runs (madeT ⟨p,tn,t⟩ code fd x a b) M k M' (S.op p tn code fd x a b).2 ∧ k ≤ 70000 ∧ T' ≤ T+1100 ∧ J1 p t M' (S.op p tn code fd x a b).1 T' ∧ ((S.op p tn code fd x a b).2.e = 3 → ∀ j,M'.wd 0 j = M.wd 0 j):=by
 have hs:Se.ok ⟨p,tn,t⟩:=⟨hp,ht.1,ht.2,h0,by show t ≤ p.t - 1;omega⟩
 have bad:∀ S',S' = S → ∃ M' k T',Runs badT M k M' ⟨3,0#64⟩ ∧ k ≤ 70000 ∧ T' ≤ T+1100 ∧ J1 p t M' S' T' ∧ ∀ j,M'.wd 0 j = M.wd 0 j:=fun S' e => ⟨M,0,T,Runs.done _ _,by omega,by omega,e ▸ h,fun _ => rfl⟩
 have hnk:=hnN_ok x
 have hgd:isMine x tn p.n → InR p (hnN x).i ∧ 0 ≤ (hnN x).g ∧ (hnN x).g ≤ 1073741823:=fun hm => by
  unfold Hn.ok at hnk
  exact ⟨⟨hnk.1,hm.2.2⟩,hnk.2.2.1,hnk.2.2.2.1⟩
 have good_t:∀ {hm:isMine x tn p.n},S.sf (hnN x).i = ⟨(hnN x).g,1,0⟩ → S.good p tn x = true:=fun {hm} e => decide_eq_true ⟨hm,e⟩
 have good_f:¬ (isMine x tn p.n ∧ S.sf (hnN x).i = ⟨(hnN x).g,1,0⟩) → S.good p tn x = false:=fun e => decide_eq_false e
 unfold madeT S1.op
 by_cases c1:code = 1
 ·rw [if_pos c1,if_pos c1]
  obtain ⟨M',k,T',r,hk,hT',j⟩:=h.grant_run hp h0 h1 hT tn
  refine ⟨M',k,T',?_,hk,hT',j,fun e => ?_⟩
  ·unfold cnewT
   rw [if_pos hs]
   exact r
  ·exfalso
   unfold S1.grant at e
   dsimp only at e
   split at e <;> simp at e
 rw [if_neg c1,if_neg c1]
 by_cases c2:code = 2
 ·rw [if_pos c2,if_pos c2]
  unfold dropT
  rw [if_pos hs]
  by_cases hm:isMine x tn p.n
  ·rw [if_pos hm]
   obtain ⟨hi,hg0⟩:=hgd hm
   by_cases hb:S.sf (hnN x).i = ⟨(hnN x).g,1,0⟩
   ·rw [if_pos (good_t (hm:=hm) hb)]
    obtain ⟨M',k,T',r,hk,hT',j⟩:=h.drop_run hp h0 h1 hT hi hg0 hb
    exact ⟨M',k,T',r,hk,hT',j,fun e => by simp at e⟩
   ·rw [good_f fun h => hb h.2,if_neg (by simp)]
    obtain ⟨M',r,a',w'⟩:=look_badR hp h.a hi hg0 hb (gbT p t (hnN x) 2)
    exact ⟨M',1,T,r,by omega,by omega,⟨a',h.f,h.r,h.k,h.c⟩,fun _ => w'⟩
  ·rw [if_neg hm,good_f fun h => hm h.1,if_neg (by simp)]
   obtain ⟨M',k,T',r,hk,hT',j,w⟩:=bad S rfl
   exact ⟨M',k,T',r,hk,hT',j,fun _ => w⟩
 rw [if_neg c2,if_neg c2]
 have look:∀ (d:Int → Tr (BitVec 64)) (y:BitVec 64) (S':S1),(0 ≤ fd ∧ fd ≤ 2 → isMine x tn p.n → S.sf (hnN x).i = ⟨(hnN x).g,1,0⟩ → S'.fs = S.fs ∧ S'.rt = S.rt ∧ S'.sf = S.sf ∧ (∀ n ∈ S.fs,∀ o,0 ≤ o → o < 3 → S'.fv n o = S.fv n o) ∧ ∀ M hd',NIn p M S.fs T (upR (fun _ => []) t S.rt) S.sf hd' S.fv (fun _ => 0#64) → ∃ M',Runs (d (p.fdF (hnN x).i fd)) M 1 M' y ∧ NIn p M' S.fs T (upR (fun _ => []) t S.rt) S.sf hd' S'.fv (fun _ => 0#64)) →
   ∃ M' k T',Runs (lookT ⟨p,tn,t⟩ x fd d) M k M' (if ¬ (0 ≤ fd ∧ fd ≤ 2) then ⟨1,0#64⟩ else if S.good p tn x then ⟨0,y⟩ else ⟨3,0#64⟩) ∧ k ≤ 70000 ∧ T' ≤ T+1100 ∧ J1 p t M' (if ¬ (0 ≤ fd ∧ fd ≤ 2) then S else if S.good p tn x then S' else S) T' ∧ ((if ¬ (0 ≤ fd ∧ fd ≤ 2) then (⟨1,0#64⟩ : Rz) else if S.good p tn x then ⟨0,y⟩ else ⟨3,0#64⟩).e = 3 → ∀ j,M'.wd 0 j = M.wd 0 j):=by
  intro d y S' hd
  unfold lookT
  by_cases hf:0 ≤ fd ∧ fd ≤ 2
  ·have n1:¬ ¬ (0 ≤ fd ∧ fd ≤ 2):=fun h => h hf
   rw [if_neg n1,if_neg n1,if_pos ⟨hs,hf.1,hf.2⟩]
   by_cases hm:isMine x tn p.n
   ·rw [if_pos hm]
    obtain ⟨hi,hg0⟩:=hgd hm
    by_cases hb:S.sf (hnN x).i = ⟨(hnN x).g,1,0⟩
    ·rw [if_pos (good_t (hm:=hm) hb),if_pos (good_t (hm:=hm) hb)]
     obtain ⟨e1,e2,e3,e4,hD⟩:=hd hf hm hb
     obtain ⟨M',r,a'⟩:=look_goodR hp h.a h0 h1 hi hg0 hb rfl hD
     have j:=h.field a' e4
     refine ⟨M',5,T,r,by omega,by omega,?_,fun e => by simp at e⟩
     have eS:S' = ⟨S.fs,S.rt,S.sf,S'.fv⟩:=by cases S';dsimp only at e1 e2 e3 ⊢;rw [e1,e2,e3]
     rw [eS]
     exact j
    ·rw [good_f fun h => hb h.2,if_neg (by simp),if_neg (by simp)]
     obtain ⟨M',r,a',w'⟩:=look_badR hp h.a hi hg0 hb (hldgT p t (hnN x) (tchT p t (d (p.fdF (hnN x).i fd))))
     exact ⟨M',1,T,r,by omega,by omega,⟨a',h.f,h.r,h.k,h.c⟩,fun _ => w'⟩
   ·rw [if_neg hm,good_f fun h => hm h.1,if_neg (by simp),if_neg (by simp)]
    obtain ⟨M',k,T',r,hk,hT',j,w⟩:=bad S rfl
    exact ⟨M',k,T',r,hk,hT',j,fun _ => w⟩
  ·rw [if_pos hf,if_pos hf,if_neg fun h => hf h.2]
   exact ⟨M,0,T,Runs.done _ _,by omega,by omega,h,fun _ _ => rfl⟩
 have hfree:S.sf (hnN x).i = ⟨(hnN x).g,1,0⟩ → ∀ (v:BitVec 64) (n:Int),n ∈ S.fs → ∀ o,upF2 S.fv (hnN x).i fd v n o = S.fv n o:=fun hb v n hn o => upF2_other fun e => by
  have:=(h.f n hn).1
  rw [e.1,hb] at this
  simp at this
 by_cases c3:code = 3
 ·rw [if_pos c3]
  obtain ⟨M',k,T',r,hk,hT',j,w⟩:=look getT (S.fv (hnN x).i fd) S fun hf hm hb => ⟨rfl,rfl,rfl,fun _ _ _ _ _ => rfl,fun M hd' hN => get_D hp hN (hgd hm).1 hf.1 (by omega)⟩
  refine ⟨M',k,T',?_,hk,hT',?_,?_⟩
  ·split at r <;> rename_i hf
   ·rw [if_pos hf];exact r
   ·rw [if_neg hf]
    split at r <;> rename_i hq
    ·rw [if_pos hq,if_pos c3];exact r
    ·rw [if_neg hq];exact r
  ·split at j <;> rename_i hf
   ·rw [if_pos hf];exact j
   ·rw [if_neg hf]
    split at j <;> rename_i hq
    ·rw [if_pos hq,if_pos c3];exact j
    ·rw [if_neg hq];exact j
  ·split at w <;> rename_i hf
   ·rw [if_pos hf];exact w
   ·rw [if_neg hf]
    split at w <;> rename_i hq
    ·rw [if_pos hq,if_pos c3];exact w
    ·rw [if_neg hq];exact w
 rw [if_neg c3]
 by_cases c4:code = 4
 ·rw [if_pos c4]
  obtain ⟨M',k,T',r,hk,hT',j,w⟩:=look (fun q => wrtT q a) 0#64 ⟨S.fs,S.rt,S.sf,upF2 S.fv (hnN x).i fd a⟩ fun hf hm hb => ⟨rfl,rfl,rfl,fun n hn o _ _ => hfree hb a n hn o,fun M hd' hN => wrt_D hp hN (hgd hm).1 hf.1 (by omega) a⟩
  refine ⟨M',k,T',?_,hk,hT',?_,?_⟩
  ·split at r <;> rename_i hf
   ·rw [if_pos hf];exact r
   ·rw [if_neg hf]
    split at r <;> rename_i hq
    ·rw [if_pos hq,if_neg c3,if_pos c4];exact r
    ·rw [if_neg hq];exact r
  ·split at j <;> rename_i hf
   ·rw [if_pos hf];exact j
   ·rw [if_neg hf]
    split at j <;> rename_i hq
    ·rw [if_pos hq,if_neg c3,if_pos c4];exact j
    ·rw [if_neg hq];exact j
  ·split at w <;> rename_i hf
   ·rw [if_pos hf];exact w
   ·rw [if_neg hf]
    split at w <;> rename_i hq
    ·rw [if_pos hq,if_neg c3,if_pos c4];exact w
    ·rw [if_neg hq];exact w
 rw [if_neg c4]
 by_cases hv:S.fv (hnN x).i fd = a
 ·obtain ⟨M',k,T',r,hk,hT',j,w⟩:=look (fun q => swpT q a b) 1#64 ⟨S.fs,S.rt,S.sf,upF2 S.fv (hnN x).i fd b⟩ fun hf hm hb => ⟨rfl,rfl,rfl,fun n hn o _ _ => hfree hb b n hn o,fun M hd' hN => by
   have:=swp_D hp hN (hgd hm).1 hf.1 (by omega) a b
   rw [if_pos hv,if_pos hv] at this
   exact this⟩
  refine ⟨M',k,T',?_,hk,hT',?_,?_⟩
  ·split at r <;> rename_i hf
   ·rw [if_pos hf];exact r
   ·rw [if_neg hf]
    split at r <;> rename_i hq
    ·rw [if_pos hq,if_neg c3,if_neg c4,if_pos hv];exact r
    ·rw [if_neg hq];exact r
  ·split at j <;> rename_i hf
   ·rw [if_pos hf];exact j
   ·rw [if_neg hf]
    split at j <;> rename_i hq
    ·rw [if_pos hq,if_neg c3,if_neg c4,if_pos hv];exact j
    ·rw [if_neg hq];exact j
  ·split at w <;> rename_i hf
   ·rw [if_pos hf];exact w
   ·rw [if_neg hf]
    split at w <;> rename_i hq
    ·rw [if_pos hq,if_neg c3,if_neg c4,if_pos hv];exact w
    ·rw [if_neg hq];exact w
 ·obtain ⟨M',k,T',r,hk,hT',j,w⟩:=look (fun q => swpT q a b) 0#64 S fun hf hm hb => ⟨rfl,rfl,rfl,fun _ _ _ _ _ => rfl,fun M hd' hN => by
   have:=swp_D hp hN (hgd hm).1 hf.1 (by omega) a b
   rw [if_neg hv,if_neg hv] at this
   exact this⟩
  refine ⟨M',k,T',?_,hk,hT',?_,?_⟩
  ·split at r <;> rename_i hf
   ·rw [if_pos hf];exact r
   ·rw [if_neg hf]
    split at r <;> rename_i hq
    ·rw [if_pos hq,if_neg c3,if_neg c4,if_neg hv];exact r
    ·rw [if_neg hq];exact r
  ·split at j <;> rename_i hf
   ·rw [if_pos hf];exact j
   ·rw [if_neg hf]
    split at j <;> rename_i hq
    ·rw [if_pos hq,if_neg c3,if_neg c4,if_neg hv];exact j
    ·rw [if_neg hq];exact j
  ·split at w <;> rename_i hf
   ·rw [if_pos hf];exact w
   ·rw [if_neg hf]
    split at w <;> rename_i hq
    ·rw [if_pos hq,if_neg c3,if_neg c4,if_neg hv];exact w
    ·rw [if_neg hq];exact w
end
theorem rfr_in:∀ (k:Nat) (j n:Int),j ≤ n → n < j+k → n ∈ rfr k j
 | 0,j,n,h0,h1 => by omega
 | k+1,j,n,h0,h1 => by
  unfold rfr
  by_cases e:n = j
  ·rw [e]
   exact List.mem_cons_self ..
  ·exact List.mem_cons_of_mem _ (rfr_in k (j+1) n (by omega) (by omega))
def S1.zero (n:Nat):S1:=⟨rfr n 0,[],fun _ => ⟨0,0,0⟩,fun _ _ => 0#64⟩
theorem J1.fresh {p:Pl} (hp:p.ok) {M:MS} (hF:FL p M (rfr p.n.toNat 0) 0) (hz:Zer p M) (t:Int):J1 p t M (S1.zero p.n.toNat) 0:=by
 have hN:=NIn.fresh hp hF hz
 have e:(fun _ => []) = upR (fun _ => ([]:List Int)) t []:=by
  funext u
  unfold upR
  split <;> rfl
 rw [e] at hN
 have hg:0 ≤ p.g:=by unfold Pl.ok at hp;omega
 exact ⟨hN,fun _ _ => ⟨rfl,fun _ _ _ => rfl⟩,fun n hn => by simp [S1.zero] at hn,fun _ _ => ⟨rfl,hg⟩,fun n hn => .inl ⟨rfl,rfr_in _ _ _ hn.1 (by have:=hn.2;have:=hn.1;omega)⟩⟩
end Go.Proofs.YthjklbonebnekaaGreat

