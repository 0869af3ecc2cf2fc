/-
  Awake, few and Made of layer 13's laws. Conditions: those of each theorem.
-/
import Derived.Test.YthjklbonebnekaaGreatGar
import Derived.Test.YthjklbonebnekaaGreatGbo
import Derived.Test.YthjklbonebnekaaGreatGbs
import Derived.Test.YthjklbonebnekaaGreatGbu
set_option maxRecDepth 8000
set_option maxHeartbeats 4000000
namespace Go.Proofs.YthjklbonebnekaaGreat
open Go Go.RowKit
abbrev s2s:Se:=⟨p2s,0,0⟩
theorem s2ok:s2s.ok:=by
 unfold Se.ok
 exact ⟨p2ok,by decide,by decide,by decide,by decide⟩
theorem r13wake_any (w:World):Calls Tryz.prog 33 #[] w (Ret (.bool true) w):=by
 have HL:=Lib.hid (fun W:World => laidZ_any p2s p2ok W)
 have HS:=Lib.hid (fun W:World => cnew_PT s2s 2 W)
 go_enter Tryz.func33,Tryz.ntmps33
 go_wp2_with (first
  | (go_at_call 42;refine (small_any _).mono ?_;rintro e w' hr;obtain ⟨rfl,sA,rfl⟩:=hr.over;clear hr)
  | (go_at_call 14;refine Hid.out ?_))
 refine Lib.hid ?_
 refine (HL.out _).mono ?_
 rintro e w1 ⟨lo,hi,L,M,rfl,hM,hF,hx,hlo⟩
 have hE:Ext w w1:=by
  refine ext_trans ?_ hx
  repeat (first | exact ext_refl _ | apply ext_over)
 have hlo1:w.heap.size ≤ lo:=Nat.le_trans (by first | exact Nat.le_refl _ | exact over_size _ _) hlo
 have hhi:=hM.top
 have HI:=Lib.hid (CBs.of hM hF.1.mg hE)
 have hA:=NIn.fresh p2ok hF.1 hF.2
 have ef:rfr (Pl.n p2s).toNat 0 = [0,1]:=rfl
 rw [ef] at hA
 obtain ⟨M1,r1,a1⟩:=newN_take p2ok hA (by omega) (kd:=0) (by omega) 0 0
 have r2:=cnw_run (tn:=0) r1
 rw [if_pos rfl] at r2
 have eT:cnewT s2s 2 = cnwT p2s 0 0 2:=by unfold cnewT;rw [if_pos s2ok]
 rw [eT] at HS
 obtain ⟨z,hz⟩ : ∃ z,Hn.word ⟨0,0,0⟩ = z:=⟨_,rfl⟩
 have hzp:0 < U z:=by rw [← hz];exact hn_pos _ (by unfold Hn.ok;decide)
 have r3:Runs (cnwT p2s 0 0 2) M 5 M1 ⟨0,z⟩:=by rw [← hz];exact r2
 have HR1:=Lib.hid r3
 have HG1:=Lib.hid a1.fl.mg
 have hzd:decide (0 < U z) = true:=decide_eq_true hzp
 clear hM hF hx hlo HL hA r1 a1 r2 r3 hz hE eT hzp
 go_wp2_with (go_at_call 42;refine (small_any _).mono ?_;rintro e w2 ⟨rfl,hx⟩;refine Hid.out ?_)
 refine Lib.hid ?_
 replace HI:=Lib.hid (HI.out.ext hx)
 clear hx
 go_wp2_with (go_at_call 48;refine (HS.out _).mono ?_;rintro e w3 ⟨v1,F1,rfl,hx2,hp1,hbn1,hsub1⟩;refine Hid.out ?_)
 refine Lib.hid ?_
 have HOF1:=Lib.hid (fun j (hj:F1 j) => (hsub1 j hj).elim (fun h => h.elim) fun h => (.inr (Nat.le_trans HI.out.m.top h):j < lo ∨ hi ≤ j))
 have HI2:=Lib.hid (HI.out.ext hx2)
 have HP1:=Lib.hid hp1
 have HBN1:=Lib.hid hbn1
 clear hx2 hp1 hbn1 hsub1
 go_wp2_with (go_at_call 18;refine (cap_int HI2.out.m 0 1#64 (by omega) (by rw [HI2.out.mg.n];omega) (Lib.hid HI2.out.mg.e)).mono ?_;rintro e w4 ⟨rfl,hx3⟩;refine Hid.out ?_)
 refine Lib.hid ?_
 have HI3:=Lib.hid (HI2.out.ext hx3)
 replace HP1:=Lib.hid (HP1.out.agr (Agr.of_ext hx3 HBN1.out))
 replace HBN1:=Lib.hid (HBN1.out.ext hx3.size)
 clear hx3
 go_wp2_with (go_at_call 37;refine (runR_any HR1.out 99 (by omega) (by omega) F1 v1 w4 HP1.out HBN1.out HOF1.out HI3.out.m).mono ?_;rintro e w5 ⟨rfl,hm4,hf4⟩;refine Hid.out ?_)
 refine Lib.hid ?_
 have HI4:=Lib.hid (HI3.out.ran hm4 hf4 HG1.out hlo1)
 clear hm4 hf4 HP1 HBN1 HOF1 HI HI2 HI3 HR1 HS HG1
 go_wp2
 go_ret
 exact Ret.mk (ext_trans HI4.out.ex (by repeat (first | exact ext_refl _ | apply ext_alloc)))
theorem r13few_any (p:Pl) (w:World) (r:Bool) (hr:Hid (r = true ↔ (p.few ∧ p.ok))):Calls Tryz.prog 34 #[plV p] w (Ret (.bool r) w):=by
 by_cases hf:p.few
 ·have HF:=Lib.hid hf
  by_cases hp:p.ok
  ·obtain rfl:r = true:=hr.out.2 ⟨hf,hp⟩
   have HP:=Lib.hid hp
   clear hf hp hr
   go_enter Tryz.func34,Tryz.ntmps34
   go_wp2_with (first
    | (go_at_call 41;refine (few_any p _ true (hid_yes HF.out)).mono ?_;rintro e w' hr;obtain ⟨rfl,s1,rfl⟩:=hr.over;clear hr)
    | (go_at_call 46;refine (rformed_any p _ true (hid_yes HP.out)).mono ?_;rintro e w' hr;obtain ⟨rfl,s2,rfl⟩:=hr.over;clear hr))
   go_ret
   exact Ret.bool (by first | rfl | simp) (by repeat (first | exact ext_refl _ | apply ext_over | apply ext_alloc))
  ·obtain rfl:r = false:=Bool.eq_false_iff.2 fun h => hp (hr.out.1 h).2
   have HP:=Lib.hid hp
   clear hf hp hr
   go_enter Tryz.func34,Tryz.ntmps34
   go_wp2_with (first
    | (go_at_call 41;refine (few_any p _ true (hid_yes HF.out)).mono ?_;rintro e w' hr;obtain ⟨rfl,s1,rfl⟩:=hr.over;clear hr)
    | (go_at_call 46;refine (rformed_any p _ false (hid_no HP.out)).mono ?_;rintro e w' hr;obtain ⟨rfl,s2,rfl⟩:=hr.over;clear hr))
   go_ret
   exact Ret.bool (by first | rfl | simp) (by repeat (first | exact ext_refl _ | apply ext_over | apply ext_alloc))
 ·obtain rfl:r = false:=Bool.eq_false_iff.2 fun h => hf (hr.out.1 h).1
  have HF:=Lib.hid hf
  clear hf hr
  go_enter Tryz.func34,Tryz.ntmps34
  go_wp2_with (go_at_call 41;refine (few_any p _ false (hid_no HF.out)).mono ?_;rintro e w' hr;obtain ⟨rfl,s1,rfl⟩:=hr.over;clear hr)
  go_ret
  exact Ret.bool (by first | rfl | simp) (by repeat (first | exact ext_refl _ | apply ext_over | apply ext_alloc))
theorem upR_upR (rs:Int → List Int) (t:Int) (l m:List Int):upR (upR rs t l) t m = upR rs t m:=by
 funext u
 unfold upR
 split <;> rfl
structure S1 where
 fs:List Int
 rt:List Int
 sf:Int → St
 fv:Int → Int → BitVec 64
def outL (p:Pl) (rt:List Int):List Int:=(scanP (hldB p fun _ => 0#64) rt.length rt []).2
def S1.scan (p:Pl) (S:S1):S1:=⟨pushL (goneS p S.sf) S.fs (outL p S.rt),[],freedS p S.sf (outL p S.rt),wipeF S.fv (outL p S.rt)⟩
def S1.full (p:Pl) (S:S1):S1:=match S.fs with
 | [] => S.scan p
 | _ :: _ => S
def S1.take (S:S1):S1:=match S.fs with
 | [] => S
 | n :: l => ⟨l,S.rt,upS S.sf n (liveF 0 (S.sf n)),S.fv⟩
def S1.grant (p:Pl) (tn:Int) (S:S1):S1 × Rz:=((S.full p).take,match (S.full p).fs with
 | [] => ⟨4,0#64⟩
 | n :: _ => ⟨0,Hn.word ⟨n,((S.full p).sf n).g,tn⟩⟩)
def S1.put (p:Pl) (n:Int) (S:S1):S1:=if (S.rt.length:Int) < p.r then ⟨S.fs,S.rt ++ [n],S.sf,S.fv⟩ else ⟨(S.scan p).fs,[n],(S.scan p).sf,(S.scan p).fv⟩
def S1.drop (p:Pl) (h:Hn) (S:S1):S1:=S1.put p h.i ⟨S.fs,S.rt,upS S.sf h.i ⟨h.g,2,0⟩,S.fv⟩
structure J1 (p:Pl) (t:Int) (M:MS) (S:S1) (T:Nat):Prop where
 a:NIn p M S.fs T (upR (fun _ => []) t S.rt) S.sf (fun _ => 0#64) S.fv (fun _ => 0#64)
 f:∀ n ∈ S.fs,(S.sf n).m = 0 ∧ ∀ o,0 ≤ o → o < 3 → S.fv n o = 0#64
 r:∀ n ∈ S.rt,(S.sf n).m = 2
 k:∀ n,InR p n → (S.sf n).k = 0 ∧ (S.sf n).g ≤ p.g
 c:∀ n,InR p n → ((S.sf n).m = 0 ∧ n ∈ S.fs) ∨ ((S.sf n).m = 2 ∧ n ∈ S.rt) ∨ (S.sf n).m = 1 ∨ (S.sf n).m = 3
theorem pushL_in (g:Int → Bool):∀ (out fl:List Int) (n:Int),n ∈ fl ∨ (n ∈ out ∧ g n = false) → n ∈ pushL g fl out:=by
 intro out
 induction out with
 | nil =>
  intro fl n h
  rcases h with h | h
  ·exact h
  ·simp at h
 | cons m out ih =>
  intro fl n h
  refine ih _ n ?_
  rcases h with h | ⟨h,hg⟩
  ·left
   by_cases hm:g m = true
   ·rw [if_pos hm];exact h
   ·rw [if_neg hm];exact List.mem_cons_of_mem _ h
  ·rcases List.mem_cons.1 h with rfl | h
   ·left
    rw [if_neg (by rw [hg];simp)]
    exact List.mem_cons_self ..
   ·exact .inr ⟨h,hg⟩
theorem pushL_out (g:Int → Bool):∀ (out fl:List Int) (n:Int),n ∈ pushL g fl out → n ∈ fl ∨ (n ∈ out ∧ g n = false):=by
 intro out
 induction out with
 | nil => intro fl n h;exact .inl h
 | cons m out ih =>
  intro fl n h
  rcases ih _ n h with h2 | ⟨h2,hg⟩
  ·by_cases hm:g m = true
   ·rw [if_pos hm] at h2
    exact .inl h2
   ·rw [if_neg hm] at h2
    rcases List.mem_cons.1 h2 with rfl | h2
    ·exact .inr ⟨List.mem_cons_self ..,by simpa using hm⟩
    ·exact .inl h2
  ·exact .inr ⟨List.mem_cons_of_mem _ h2,hg⟩
section
variable {p:Pl} (hp:p.ok) {t:Int} (h0:0 ≤ t) (h1:t < p.t) {M:MS} {S:S1} {T:Nat}
include hp h0 h1
omit h0 h1 in
theorem hld_zero {n:Int} (hn:InR p n):hldB p (fun _ => 0#64) n = false:=by
 have hlt:=hn.lt hp
 have:=hn.1
 unfold hldB
 rw [Bool.eq_false_iff]
 intro h
 obtain ⟨j,_,_,e⟩:=heldR_some _ _ h
 exact nameW_ne0 hn.1 (by omega) e.symm
theorem J1.outs (h:J1 p t M S T):scanP (hldB p fun _ => 0#64) S.rt.length S.rt [] = ([],outL p S.rt) ∧ (outL p S.rt).Perm S.rt:=by
 have hr:=(h.a.rt t h0 h1).rg
 rw [upR_same] at hr
 have h1:(scanP (hldB p fun _ => 0#64) S.rt.length S.rt []).1 = []:=scanP_none _ _ _ _ rfl fun i hi => hld_zero hp (hr _ (iN_mem hi))
 have hperm:=scanP_perm (hldB p fun _ => 0#64) S.rt.length S.rt [] (Nat.le_refl _)
 rw [h1,List.nil_append,List.append_nil] at hperm
 exact ⟨Prod.ext h1 rfl,hperm⟩
theorem J1.len (h:J1 p t M S T):(S.rt.length:Int) ≤ p.r ∧ S.rt.length ≤ 1024:=by
 have hl:=(h.a.rt t h0 h1).len
 rw [upR_same] at hl
 unfold Pl.ok at hp
 omega
omit h0 h1 in
theorem freed_cases {s:St} (hok:s.ok) (_hk:s.k = 0) (hg:s.g ≤ p.g):(s.freed p.g = ⟨s.g,3,0⟩ ∧ p.g = s.g) ∨ (s.freed p.g = ⟨s.g+1,0,0⟩ ∧ s.g < p.g):=by
 have hg2:p.g ≤ 1073741823:=by unfold Pl.ok at hp;omega
 unfold St.ok at hok
 unfold St.freed
 by_cases h:p.g ≤ s.g
 ·rw [if_pos h]
  exact .inl ⟨rfl,by omega⟩
 ·rw [if_neg h]
  have e:wrap64 (s.g+1) = s.g+1:=by unfold wrap64;omega
  rw [e]
  exact .inr ⟨rfl,by omega⟩
end
structure Bx (p:Pl) (S:S1) (ex:Int):Prop where
 f:∀ n ∈ S.fs,(S.sf n).m = 0 ∧ ∀ o,0 ≤ o → o < 3 → S.fv n o = 0#64
 r:∀ n ∈ S.rt,(S.sf n).m = 2
 k:∀ n,InR p n → (S.sf n).k = 0 ∧ (S.sf n).g ≤ p.g
 c:∀ n,InR p n → n ≠ ex → ((S.sf n).m = 0 ∧ n ∈ S.fs) ∨ ((S.sf n).m = 2 ∧ n ∈ S.rt) ∨ (S.sf n).m = 1 ∨ (S.sf n).m = 3
 e:InR p ex → (S.sf ex).m = 2 ∧ ex ∉ S.fs ∧ ex ∉ S.rt
theorem J1.bx {p:Pl} {t:Int} {M:MS} {S:S1} {T:Nat} (h:J1 p t M S T):Bx p S (-1):=⟨h.f,h.r,h.k,fun n a _ => h.c n a,fun h => by have:=h.1;omega⟩
section
variable {p:Pl} (hp:p.ok) {S:S1} {ex:Int}
include hp
theorem Bx.scan (h:Bx p S ex) (hq:(outL p S.rt).Perm S.rt) (hin:∀ n ∈ S.rt,InR p n) (hok:∀ n,InR p n → (S.sf n).ok):Bx p (S.scan p) ex:=by
 have ho:∀ n,n ∈ outL p S.rt ↔ n ∈ S.rt:=fun n => hq.mem_iff
 have hno:∀ n,(S.sf n).m ≠ 2 → n ∉ outL p S.rt:=fun n hm hx => hm (h.r n ((ho n).1 hx))
 have same:∀ n,n ∉ outL p S.rt → (S.scan p).sf n = S.sf n:=fun n hn => by show freedS p S.sf _ n = _;unfold freedS;rw [if_neg hn]
 have turn:∀ n,n ∈ outL p S.rt → (S.scan p).sf n = (S.sf n).freed p.g:=fun n hn => by show freedS p S.sf _ n = _;unfold freedS;rw [if_pos hn]
 have gone:∀ n,goneS p S.sf n = decide (((S.sf n).freed p.g).m = 3):=fun n => rfl
 refine ⟨fun n hn => ?_,fun n hn => by simp [S1.scan] at hn,fun n hn => ?_,fun n hn hne => ?_,fun hx => ?_⟩
 ·rcases pushL_out _ _ _ _ hn with hf | ⟨hf,hg⟩
  ·have hm:=(h.f n hf).1
   have hout:=hno n (by omega)
   refine ⟨by rw [same n hout];exact hm,fun o a b => ?_⟩
   show wipeF S.fv _ n o = _
   unfold wipeF
   rw [if_neg hout]
   exact (h.f n hf).2 o a b
  ·have hi:=hin n ((ho n).1 hf)
   refine ⟨?_,fun o _ _ => ?_⟩
   ·rw [turn n hf]
    rw [gone] at hg
    rcases freed_cases hp (hok n hi) (h.k n hi).1 (h.k n hi).2 with e | e
    ·rw [e.1] at hg
     simp at hg
    ·rw [e.1]
   ·show wipeF S.fv _ n o = _
    unfold wipeF
    rw [if_pos hf]
 ·by_cases hf:n ∈ outL p S.rt
  ·rw [turn n hf]
   rcases freed_cases hp (hok n hn) (h.k n hn).1 (h.k n hn).2 with e | e
   ·rw [e.1]
    exact ⟨rfl,(h.k n hn).2⟩
   ·rw [e.1]
    exact ⟨rfl,by show (S.sf n).g+1 ≤ p.g;omega⟩
  ·rw [same n hf]
   exact h.k n hn
 ·rcases h.c n hn hne with ⟨hm,hf⟩ | ⟨hm,hf⟩ | hm | hm
  ·rw [same n (hno n (by omega))]
   exact .inl ⟨hm,pushL_in _ _ _ _ (.inl hf)⟩
  ·have hf':=(ho n).2 hf
   rw [turn n hf']
   rcases freed_cases hp (hok n hn) (h.k n hn).1 (h.k n hn).2 with e | e
   ·rw [e.1]
    exact .inr (.inr (.inr rfl))
   ·refine .inl ⟨by rw [e.1],pushL_in _ _ _ _ (.inr ⟨hf',?_⟩)⟩
    rw [gone,e.1]
    rfl
  ·rw [same n (hno n (by omega))]
   exact .inr (.inr (.inl hm))
  ·rw [same n (hno n (by omega))]
   exact .inr (.inr (.inr hm))
 ·obtain ⟨e1,e2,e3⟩:=h.e hx
  have hout:ex ∉ outL p S.rt:=fun h => e3 ((ho ex).1 h)
  refine ⟨by rw [same ex hout];exact e1,fun hh => ?_,by simp [S1.scan]⟩
  rcases pushL_out _ _ _ _ hh with hf | ⟨hf,_⟩
  ·exact e2 hf
  ·exact hout hf
end
section
variable {p:Pl} (hp:p.ok) {t:Int} (h0:0 ≤ t) (h1:t < p.t) {M:MS} {S:S1} {T:Nat}
include hp h0 h1
theorem J1.grant_run (h:J1 p t M S T) (hT:T ≤ 1900000) (tn:Int):∃ M' k T',Runs (cnwT p t tn 2) M k M' (S.grant p tn).2 ∧ k ≤ 70000 ∧ T' ≤ T+1100 ∧ J1 p t M' (S.grant p tn).1 T':=by
 have hl:=h.len hp h0 h1
 obtain ⟨hq1,hq2⟩:=h.outs hp h0 h1
 have hrs:(upR (fun _ => []) t S.rt) t = S.rt:=upR_same _ _ _
 have hin:∀ n ∈ S.rt,InR p n:=fun n hn => (h.a.rt t h0 h1).rg n (by rw [hrs];exact hn)
 have take:∀ (S':S1) (M':MS) (T':Nat) (n:Int) (l:List Int),Bx p S' (-1) → S'.fs = n :: l → (∀ m ∈ n :: l,InR p m) → (n :: l).Nodup → NIn p M' l T' (upR (fun _ => []) t S'.rt) (upS S'.sf n (liveF 0 (S'.sf n))) (fun _ => 0#64) S'.fv (fun _ => 0#64) → (∀ m ∈ S'.rt,m ≠ n) → J1 p t M' S'.take T':=by
  intro S' M' T' n l hB e hin hnd hN hrn
  have et:S'.take = ⟨l,S'.rt,upS S'.sf n (liveF 0 (S'.sf n)),S'.fv⟩:=by unfold S1.take;rw [e]
  have hnl:n ∉ l:=(List.nodup_cons.1 hnd).1
  rw [et]
  refine ⟨hN,fun m hm => ?_,fun m hm => ?_,fun m hm => ?_,fun m hm => ?_⟩
  ·have hne:m ≠ n:=fun e => hnl (e ▸ hm)
   dsimp only
   rw [upS_other hne]
   exact hB.f m (by rw [e];exact List.mem_cons_of_mem _ hm)
  ·dsimp only
   rw [upS_other (hrn m hm)]
   exact hB.r m hm
  ·dsimp only
   by_cases hne:m = n
   ·subst hne
    rw [upS_same]
    exact ⟨rfl,(hB.k m hm).2⟩
   ·rw [upS_other hne]
    exact hB.k m hm
  ·dsimp only
   by_cases hne:m = n
   ·subst hne
    rw [upS_same]
    exact .inr (.inr (.inl rfl))
   ·rw [upS_other hne]
    rcases hB.c m hm (by have:=hm.1;omega) with ⟨a,b⟩ | b | b | b
    ·rw [e] at b
     rcases List.mem_cons.1 b with b | b
     ·exact absurd b hne
     ·exact .inl ⟨a,b⟩
    ·exact .inr (.inl b)
    ·exact .inr (.inr (.inl b))
    ·exact .inr (.inr (.inr b))
 cases e:S.fs with
 | cons n l =>
  have ha:=h.a
  rw [e] at ha
  obtain ⟨M1,r1,a1⟩:=newN_take hp ha (by omega) (kd:=0) (by omega) t 0
  have ef:S.full p = S:=by unfold S1.full;rw [e]
  have eg:S.grant p tn = (S.take,⟨0,Hn.word ⟨n,(S.sf n).g,tn⟩⟩):=by unfold S1.grant;rw [ef,e]
  have r2:=cnw_run (tn:=tn) r1
  rw [if_pos rfl] at r2
  rw [eg]
  refine ⟨M1,5,T+1,r2,by omega,by omega,take S M1 (T+1) n l h.bx e ha.fl.rg ha.fl.nd a1 fun m hm hmn => ?_⟩
  have h2:=h.r m hm
  have h3:=(h.f n (by rw [e];simp)).1
  rw [hmn] at h2
  omega
 | nil =>
  have ha:=h.a
  rw [e] at ha
  have hB:=h.bx.scan hp hq2 hin h.a.ok
  have ef:S.full p = S.scan p:=by unfold S1.full;rw [e]
  have e2:pushL (goneS p S.sf) [] (outL p S.rt) = (S.scan p).fs:=by show _ = pushL (goneS p S.sf) S.fs (outL p S.rt);rw [e]
  have e1:scanP (hldB p fun _ => 0#64) ((upR (fun _ => []) t S.rt) t).length ((upR (fun _ => []) t S.rt) t) [] = ([],outL p S.rt):=by rw [hrs];exact hq1
  cases e3:(S.scan p).fs with
  | nil =>
   obtain ⟨M1,T1,s,g,r1,hs,hT1,b1⟩:=newN_scan hp h0 h1 ha (by omega) (kd:=0) (by omega) e1 (e2.trans e3)
   rw [hrs] at hs hT1
   obtain ⟨rfl,a1⟩:=b1
   rw [upR_upR] at a1
   have eg:S.grant p tn = (S.scan p,⟨4,0#64⟩):=by
    unfold S1.grant S1.take
    rw [ef,e3]
   rw [eg]
   have r2:=cnw_run (tn:=tn) r1
   rw [if_neg (by decide)] at r2
   refine ⟨M1,s,T1,r2,by omega,by omega,?_,hB.f,hB.r,hB.k,fun m hm => hB.c m hm (by have:=hm.1;omega)⟩
   rw [e3]
   exact a1
  | cons n l =>
   obtain ⟨M1,T1,s,g,r1,hs,hT1,b1⟩:=newN_scan hp h0 h1 ha (by omega) (kd:=0) (by omega) e1 (e2.trans e3)
   rw [hrs] at hs hT1
   obtain ⟨rfl,a1⟩:=b1
   rw [upR_upR] at a1
   have eg:S.grant p tn = ((S.scan p).take,⟨0,Hn.word ⟨n,((S.scan p).sf n).g,tn⟩⟩):=by
    unfold S1.grant
    rw [ef,e3]
   rw [eg]
   have r2:=cnw_run (tn:=tn) r1
   rw [if_pos rfl] at r2
   have hnd:(n :: l).Nodup ∧ ∀ m ∈ n :: l,InR p m:=by
    obtain ⟨M2,T2,s2,_,_,_,a2⟩:=ha.scan hp h0 h1 (by omega) e1
    rw [e2,e3] at a2
    exact ⟨a2.fl.nd,a2.fl.rg⟩
   exact ⟨M1,s,T1,r2,by omega,by omega,take (S.scan p) M1 T1 n l hB e3 hnd.2 hnd.1 a1 fun m hm => by simp [S1.scan] at hm⟩
theorem J1.drop_run (h:J1 p t M S T) (hT:T ≤ 1900000) {hn:Hn} (hi:InR p hn.i) (hg:0 ≤ hn.g ∧ hn.g ≤ 1073741823) (hb:S.sf hn.i = ⟨hn.g,1,0⟩):∃ M' k T',Runs (drpT p t hn 2) M k M' ⟨0,0#64⟩ ∧ k ≤ 70000 ∧ T' ≤ T+1100 ∧ J1 p t M' (S.drop p hn) T':=by
 have hl:=h.len hp h0 h1
 obtain ⟨hq1,hq2⟩:=h.outs hp h0 h1
 have hrs:(upR (fun _ => []) t S.rt) t = S.rt:=upR_same _ _ _
 have hin:∀ n ∈ S.rt,InR p n:=fun n hn => (h.a.rt t h0 h1).rg n (by rw [hrs];exact hn)
 have hm1:(S.sf hn.i).m = 1:=by rw [hb]
 have hnf:hn.i ∉ S.fs:=fun hx => by have:=(h.f _ hx).1;omega
 have hnr1:hn.i ∉ S.rt:=fun hx => by have:=h.r _ hx;omega
 have hnr:∀ u,0 ≤ u → u < p.t → hn.i ∉ (upR (fun _ => []) t S.rt) u:=fun u _ _ => by
  by_cases e:u = t
  ·subst e
   rw [upR_same]
   exact hnr1
  ·rw [upR_other e]
   simp
 have hgp:hn.g ≤ p.g:=by have:=(h.k _ hi).2;rw [hb] at this;exact this
 have hB:Bx p ⟨S.fs,S.rt,upS S.sf hn.i ⟨hn.g,2,0⟩,S.fv⟩ hn.i:=by
  refine ⟨fun m hm => ?_,fun m hm => ?_,fun m hm => ?_,fun m hm hne => ?_,fun _ => ?_⟩
  ·dsimp only at hm ⊢
   rw [upS_other fun e => hnf (by rw [e] at hm;exact hm)]
   exact h.f m hm
  ·dsimp only at hm ⊢
   rw [upS_other fun e => hnr1 (by rw [e] at hm;exact hm)]
   exact h.r m hm
  ·dsimp only
   by_cases e:m = hn.i
   ·rw [e,upS_same]
    exact ⟨rfl,hgp⟩
   ·rw [upS_other e]
    exact h.k m hm
  ·dsimp only
   rw [upS_other hne]
   exact h.c m hm
  ·dsimp only
   rw [upS_same]
   exact ⟨rfl,hnf,hnr1⟩
 have hok2:∀ n,InR p n → (upS S.sf hn.i ⟨hn.g,2,0⟩ n).ok:=fun n hnn => by
  by_cases e:n = hn.i
  ·rw [e,upS_same]
   unfold St.ok
   simp only
   omega
  ·rw [upS_other e]
   exact h.a.ok n hnn
 have fin:∀ (S':S1) (M':MS) (T':Nat),Bx p S' hn.i → NIn p M' S'.fs T' (upR (fun _ => []) t (S'.rt ++ [hn.i])) S'.sf (fun _ => 0#64) S'.fv (fun _ => 0#64) → J1 p t M' ⟨S'.fs,S'.rt ++ [hn.i],S'.sf,S'.fv⟩ T':=by
  intro S' M' T' hB' hN
  refine ⟨hN,hB'.f,fun m hm => ?_,hB'.k,fun m hm => ?_⟩
  ·rcases List.mem_append.1 hm with hm | hm
   ·exact hB'.r m hm
   ·obtain rfl:=List.mem_singleton.1 hm
    exact (hB'.e hi).1
  ·by_cases e:m = hn.i
   ·subst e
    exact .inr (.inl ⟨(hB'.e hi).1,by simp⟩)
   ·rcases hB'.c m hm e with b | ⟨a,b⟩ | b | b
    ·exact .inl b
    ·exact .inr (.inl ⟨a,by simp [b]⟩)
    ·exact .inr (.inr (.inl b))
    ·exact .inr (.inr (.inr b))
 by_cases hlt:(S.rt.length:Int) < p.r
 ·obtain ⟨M1,r1,a1⟩:=drop_room hp h0 h1 h.a hi hg hb hnf hnr (by rw [hrs];exact hlt) 2
  rw [hrs,upR_upR] at a1
  have ed:S.drop p hn = ⟨S.fs,S.rt ++ [hn.i],upS S.sf hn.i ⟨hn.g,2,0⟩,S.fv⟩:=by unfold S1.drop S1.put;rw [if_pos hlt]
  rw [ed]
  exact ⟨M1,5,T,r1,by omega,by omega,fin ⟨S.fs,S.rt,upS S.sf hn.i ⟨hn.g,2,0⟩,S.fv⟩ M1 T hB a1⟩
 ·have e1:scanP (hldB p fun _ => 0#64) ((upR (fun _ => []) t S.rt) t).length ((upR (fun _ => []) t S.rt) t) [] = ([],outL p S.rt):=by rw [hrs];exact hq1
  obtain ⟨M1,T1,s,r1,hs,hT1,a1⟩:=drop_full hp h0 h1 h.a (by omega) hi hg hb hnf hnr (by rw [hrs];omega) e1
  rw [hrs] at hs hT1
  rw [upR_upR] at a1
  have ed:S.drop p hn = ⟨(S1.scan p ⟨S.fs,S.rt,upS S.sf hn.i ⟨hn.g,2,0⟩,S.fv⟩).fs,[hn.i],(S1.scan p ⟨S.fs,S.rt,upS S.sf hn.i ⟨hn.g,2,0⟩,S.fv⟩).sf,(S1.scan p ⟨S.fs,S.rt,upS S.sf hn.i ⟨hn.g,2,0⟩,S.fv⟩).fv⟩:=by unfold S1.drop S1.put;rw [if_neg hlt]
  rw [ed]
  refine ⟨M1,s,T1,r1,by omega,by omega,?_⟩
  have hB2:=hB.scan hp hq2 hin hok2
  exact fin (S1.scan p ⟨S.fs,S.rt,upS S.sf hn.i ⟨hn.g,2,0⟩,S.fv⟩) M1 T1 hB2 a1
omit hp h0 h1 in
theorem J1.field (h:J1 p t M S T) {M':MS} {fv':Int → Int → BitVec 64} (hN:NIn p M' S.fs T (upR (fun _ => []) t S.rt) S.sf (fun _ => 0#64) fv' (fun _ => 0#64)) (hf:∀ n ∈ S.fs,∀ o,0 ≤ o → o < 3 → fv' n o = S.fv n o):J1 p t M' ⟨S.fs,S.rt,S.sf,fv'⟩ T:=
 ⟨hN,fun n hn => ⟨(h.f n hn).1,fun o a b => (hf n hn o a b).trans ((h.f n hn).2 o a b)⟩,h.r,h.k,h.c⟩
end
theorem rfr_in:∀ (k:Nat) (j n:Int),j ≤ n → n < j+k → n ∈ rfr k j
 | 0,j,n,h0,h1 => by omega
 | k+1,j,n,h0,h1 => by
  unfold rfr
  by_cases e:n = j
  ·rw [e]
   exact List.mem_cons_self ..
  ·exact List.mem_cons_of_mem _ (rfr_in k (j+1) n (by omega) (by omega))
def S1.zero (n:Nat):S1:=⟨rfr n 0,[],fun _ => ⟨0,0,0⟩,fun _ _ => 0#64⟩
theorem J1.fresh {p:Pl} (hp:p.ok) {M:MS} (hF:FL p M (rfr p.n.toNat 0) 0) (hz:Zer p M) (t:Int):J1 p t M (S1.zero p.n.toNat) 0:=by
 have hN:=NIn.fresh hp hF hz
 have e:(fun _ => []) = upR (fun _ => ([]:List Int)) t []:=by
  funext u
  unfold upR
  split <;> rfl
 rw [e] at hN
 have hg:0 ≤ p.g:=by unfold Pl.ok at hp;omega
 exact ⟨hN,fun _ _ => ⟨rfl,fun _ _ _ => rfl⟩,fun n hn => by simp [S1.zero] at hn,fun _ _ => ⟨rfl,hg⟩,fun n hn => .inl ⟨rfl,rfr_in _ _ _ hn.1 (by have:=hn.2;have:=hn.1;omega)⟩⟩
theorem lookT_good {s:Se} (hs:s.ok) {x:BitVec 64} {h:Hn} (hx:h.word = x) (hk:h.ok) (ht:h.t = s.tn) (hi:h.i < s.p.n) {fd:Int} (h0:0 ≤ fd) (h1:fd ≤ 2) (d:Int → Tr (BitVec 64)):lookT s x fd d = lkT s.p s.th h (d (s.p.fdF h.i fd)):=by
 have hm:isMine x s.tn s.p.n:=by rw [← hx];exact (isMine_word h hk _ _).2 ⟨ht.symm,hi⟩
 have e:hnN x = h:=by
  have e:=isH_word h hk
  rw [← hx,← ofH_yes _ e.1]
  exact e.2
 unfold lookT
 rw [if_pos ⟨hs,h0,h1⟩,if_pos hm,e]
end Go.Proofs.YthjklbonebnekaaGreat

