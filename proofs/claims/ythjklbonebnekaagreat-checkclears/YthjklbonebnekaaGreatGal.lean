/-
  The list of free nodes, in plain numbers: what stands in a memory, what each step of a Pop and a Push does to it, and what it leaves to others. Conditions: a formed plan; fewer swaps than a tag can tell.
-/
import Derived.Test.YthjklbonebnekaaGreatGab
import Derived.Test.YthjklbonebnekaaGreatGaf
import Derived.Test.YthjklbonebnekaaGreatGak
set_option maxRecDepth 8000
set_option maxHeartbeats 4000000
namespace Go.Proofs.YthjklbonebnekaaGreat
open Go Go.RowKit
theorem ndW_def (h:BitVec 64):ndW h = getN 0 21 h:=by unfold ndW;rfl
theorem tagW_def (h:BitVec 64):tagW h = getN 21 43 h:=by unfold tagW;rfl
theorem folW_def (h x:BitVec 64):folW h x = putN 21 43 (putN 0 21 h x) (tagW h+1#64):=by unfold folW;rfl
theorem nodeI_def (x:BitVec 64):nodeI x = U x - 1:=by unfold nodeI;rfl
theorem small_and (x:BitVec 64) (b:Int) (hb:Fm 0 b) (h:x.toNat < 2 ^ b.toNat):x &&& mostN b = x:=by
 apply bv_eq
 intro i hi
 rw [BitVec.getLsbD_and,mostN_bit b i (by have:=hb.2.2;omega) (by have:=hb.2.2;omega)]
 by_cases hlt:(i:Int) < b
 ·simp [hlt]
 ·have:x.getLsbD i = false:=by
   rw [BitVec.getLsbD]
   exact Nat.testBit_lt_two_pow (Nat.lt_of_lt_of_le h (Nat.pow_le_pow_right (by omega) (by omega)))
  rw [this]
  simp
theorem nd_fol (h x:BitVec 64) (hx:U x < 2097152):ndW (folW h x) = x:=by
 rw [ndW_def,folW_def]
 have h1:getN 0 21 (putN 21 43 (putN 0 21 h x) (tagW h+1#64)) = getN 0 21 (putN 0 21 h x):=by
  apply bv_eq
  intro i hi
  rw [getN_bit _ _ _ _ fmN,getN_bit _ _ _ _ fmN]
  by_cases hlt:(i:Int) < 21
  ·rw [putN_bit _ _ _ _ _ fmT (by simp;omega)]
   have:¬ (21 ≤ ((((0:Int).toNat+i:Nat)):Int) ∧ ((((0:Int).toNat+i:Nat)):Int) < 21+43):=by simp;omega
   simp only [this,if_false]
  ·simp [hlt]
 rw [h1,get_put 0 21 h x fmN]
 refine small_and x 21 fmN ?_
 rw [U_toNat] at hx
 have e:(2:Nat) ^ (21:Int).toNat = 2097152:=by decide
 omega
theorem tag_fol (h x:BitVec 64) (ht:U (tagW h) < 8796093022207):U (tagW (folW h x)) = U (tagW h)+1:=by
 have e0:tagW (folW h x) = (tagW h+1#64) &&& mostN 43:=by
  rw [tagW_def (folW h x),folW_def,get_put 21 43 _ _ fmT]
 have e1:(tagW h+1#64).toNat = (tagW h).toNat+1:=by
  rw [U_toNat] at ht
  rw [BitVec.toNat_add]
  have:(1#64).toNat = 1:=by decide
  rw [this]
  omega
 rw [e0,small_and _ 43 ⟨by decide,by decide,by decide,by decide⟩ ?_,U_toNat,e1,U_toNat]
 ·simp
 ·rw [e1]
  rw [U_toNat] at ht
  have e:(2:Nat) ^ (43:Int).toNat = 8796093022208:=by decide
  omega
theorem nd_fresh:ndW (putN 0 21 0#64 (nameW 0)) = nameW 0:=by
 rw [ndW_def,get_put 0 21 _ _ fmN]
 refine small_and _ 21 fmN ?_
 have h:=U_nameW (n:=0) (by omega) (by omega)
 rw [U_toNat] at h
 have e:(2:Nat) ^ (21:Int).toNat = 2097152:=by decide
 omega
theorem tag_fresh:U (tagW (putN 0 21 0#64 (nameW 0))) = 0:=by
 have:tagW (putN 0 21 0#64 (nameW 0)) = 0#64:=by
  rw [tagW_def]
  apply bv_eq
  intro i hi
  rw [getN_bit _ _ _ _ fmT]
  by_cases hlt:(i:Int) < 43
  ·rw [putN_bit _ _ _ _ _ fmN (by simp;omega)]
   have:¬ (0 ≤ ((((21:Int).toNat+i:Nat)):Int) ∧ ((((21:Int).toNat+i:Nat)):Int) < 0+21):=by simp;omega
   simp only [this,if_false]
   simp
  ·simp [hlt]
 rw [this,U_0]
theorem nameW_ne0 {n:Int} (h0:0 ≤ n) (h1:n < 4611686018427387904):nameW n ≠ 0#64:=fun e => by
 have:=U_nameW h0 h1
 rw [e,U_0] at this
 omega
theorem node_name {n:Int} (h0:0 ≤ n) (h1:n < 4611686018427387904):nodeI (nameW n) = n:=by
 rw [nodeI_def,U_nameW h0 h1]
 omega
theorem name_inj {n m:Int} (h0:0 ≤ n) (h1:n < 4611686018427387904) (g0:0 ≤ m) (g1:m < 4611686018427387904) (e:nameW n = nameW m):n = m:=by
 rw [← node_name h0 h1,e,node_name g0 g1]
def nxN (p:Pl) (n:Int):Nat:=(p.nxF n).toNat
def InR (p:Pl) (n:Int):Prop:=0 ≤ n ∧ n < p.n
theorem InR.lt {p:Pl} (hp:p.ok) {n:Int} (h:InR p n):n < 2097151:=by
 have:=hp.1
 have:=h.2
 omega
theorem nx_eq {p:Pl} (hp:p.ok) {n:Int} (h:InR p n):p.nxF n = p.cnt p.t+n * 5+1:=by
 unfold Pl.nxF
 rw [if_pos ⟨hp,h.1,h.2⟩]
 rfl
theorem nx_in {p:Pl} (hp:p.ok) {n:Int} (h:InR p n):1 ≤ p.nxF n ∧ p.nxF n < p.sizeF:=by
 have h1:=Pl.cnt_in hp (x:=p.t) (Pl.t_in hp).1 (Int.le_refl _)
 rw [nx_eq hp h]
 unfold Pl.sizeF
 rw [if_pos hp]
 unfold Pl.nod
 have:=h.1
 have:=h.2
 omega
theorem nxN_inj {p:Pl} (hp:p.ok) {n m:Int} (h:InR p n) (g:InR p m) (e:nxN p n = nxN p m):n = m:=by
 have h1:=nx_in hp h
 have h2:=nx_in hp g
 have h3:=nx_eq hp h
 have h4:=nx_eq hp g
 unfold nxN at e
 omega
theorem nxN_pos {p:Pl} (hp:p.ok) {n:Int} (h:InR p n):nxN p n ≠ 0:=by
 have h1:=nx_in hp h
 unfold nxN
 omega
theorem head_zero {p:Pl} (hp:p.ok):p.headF = 0:=by unfold Pl.headF;rw [if_pos hp]
theorem size_pos {p:Pl} (hp:p.ok):1 ≤ p.sizeF ∧ p.sizeF ≤ 5275777:=by
 unfold Pl.sizeF
 rw [if_pos hp]
 have h1:=Pl.nod_in hp (x:=p.n) (by have:=hp.1;omega) (Int.le_refl _)
 omega
structure Mg (p:Pl) (M:MS):Prop where
 n:M.n = 1
 s:M.sz 0 = p.sizeF.toNat
 e:M.ep 0 = 1#64
theorem Mg.done {p:Pl} {M:MS} (h:Mg p M) (r op at_:Int) (a b:BitVec 64):Mg p (M.done r op at_ a b):=⟨h.n,h.s,h.e⟩
theorem Mg.ok {p:Pl} {M:MS} (h:Mg p M) {op at_:Int} (h1:0 ≤ at_) (h2:at_ < p.sizeF) (h3:0 ≤ op) (h4:op ≤ 3):DoOk M 0 1#64 op at_:=by
 refine ⟨⟨by omega,by rw [h.n];omega,?_⟩,h1,?_,h3,h4⟩
 ·exact h.e
 ·show at_ < (M.sz 0:Int)
  rw [h.s]
  omega
theorem wd_done (M:MS) (op at_:Int) (a b:BitVec 64) (j:Nat):(M.done 0 op at_ a b).wd 0 j = if j = at_.toNat then nextW op (M.wd 0 at_.toNat) a b else M.wd 0 j:=by
 show (if (0:Nat) = (0:Int).toNat ∧ j = at_.toNat then _ else _) = _
 by_cases h:j = at_.toNat <;> simp [h]
theorem wd_load (M:MS) (at_:Int) (a b:BitVec 64) (j:Nat):(M.done 0 0 at_ a b).wd 0 j = M.wd 0 j:=by
 rw [wd_done]
 split
 ·rename_i h
  rw [h]
  rfl
 ·rfl
theorem wd_store (M:MS) (at_:Int) (a b:BitVec 64) (j:Nat):(M.done 0 1 at_ a b).wd 0 j = if j = at_.toNat then a else M.wd 0 j:=by
 rw [wd_done]
 rfl
theorem wd_swap (M:MS) (at_:Int) (a b:BitVec 64) (j:Nat):(M.done 0 2 at_ a b).wd 0 j = if j = at_.toNat then (if M.wd 0 at_.toNat = a then b else M.wd 0 at_.toNat) else M.wd 0 j:=by
 rw [wd_done]
 congr 1
 unfold nextW
 by_cases h:M.wd 0 at_.toNat = a <;> simp [h]
def nmL:List Int → BitVec 64
 | [] => 0#64
 | n :: _ => nameW n
def Ch (p:Pl) (M:MS):List Int → Prop
 | [] => True
 | n :: l => M.wd 0 (nxN p n) = nmL l ∧ Ch p M l
theorem Ch.congr {p:Pl} {M M':MS}:∀ {l:List Int},(∀ n ∈ l,M'.wd 0 (nxN p n) = M.wd 0 (nxN p n)) → Ch p M l → Ch p M' l
 | [],_,_ => trivial
 | n :: l,h,hc => ⟨(h n (by simp)).trans hc.1,Ch.congr (fun m hm => h m (by simp [hm])) hc.2⟩
structure FL (p:Pl) (M:MS) (l:List Int) (T:Nat):Prop where
 mg:Mg p M
 hd:ndW (M.wd 0 0) = nmL l
 tg:U (tagW (M.wd 0 0)) = T
 ch:Ch p M l
 nd:l.Nodup
 rg:∀ n ∈ l,InR p n
theorem nmL_lt {p:Pl} (hp:p.ok) {l:List Int} (h:∀ n ∈ l,InR p n):U (nmL l) < 2097152:=by
 cases l with
 | nil => rw [nmL,U_0];omega
 | cons n l =>
  have h1:=h n (by simp)
  have h2:=h1.lt hp
  rw [nmL,U_nameW h1.1 (by omega)]
  omega
inductive PS:Type
 | pl:PS
 | pn (h:BitVec 64):PS
 | ps (h nx:BitVec 64):PS
 | ql (n:Int):PS
 | qs (n:Int) (h:BitVec 64):PS
 | qw (n:Int) (h:BitVec 64):PS
 | dn (r:Int):PS
def trT (p:Pl) (N:Nat):PS → Tr Int
 | .pl => popT p (N+1)
 | .pn h => (getT (p.nxF (nodeI (ndW h)))).bind fun nx => swT p h nx (nodeI (ndW h)) (popT p N)
 | .ps h nx => swT p h nx (nodeI (ndW h)) (popT p N)
 | .ql n => pushT p n (N+1)
 | .qs n h => push1T p n (pushT p n N) h
 | .qw n h => swT p h (nameW n) n (pushT p n N)
 | .dn r => .done r
def StepT (p:Pl) (M:MS) (N:Nat) (s:PS) (M':MS) (N':Nat) (s':PS):Prop:=
 ∃ a f,trT p N s = .ask a f ∧ DoOk M 0 1#64 a.op a.at_ ∧ M' = M.done 0 a.op a.at_ a.a a.b ∧ f (M.wd (0:Int).toNat a.at_.toNat) = trT p N' s'
theorem runT_step {p:Pl} {M M':MS} {N N':Nat} {s s':PS} (h:StepT p M N s M' N' s') (k:Nat):runT 0 1#64 (k+1) (trT p N s) M = (runT 0 1#64 k (trT p N' s') M').map (fun x => (x.1,x.2.1+1,x.2.2)):=by
 obtain ⟨a,f,h1,h2,rfl,h4⟩:=h
 rw [h1,runT,if_pos h2,h4]
def HW (M:MS) (T:Nat) (h:BitVec 64):Prop:=h = M.wd 0 0 ∨ U (tagW h) < T
def Th (p:Pl) (M:MS) (T:Nat):PS → Prop
 | .pl => True
 | .pn h => HW M T h ∧ ∃ n,InR p n ∧ ndW h = nameW n
 | .ps h nx => HW M T h ∧ ∃ n,InR p n ∧ ndW h = nameW n ∧ (h = M.wd 0 0 → nx = M.wd 0 (nxN p n))
 | .ql n => InR p n
 | .qs n h => InR p n ∧ HW M T h
 | .qw n h => InR p n ∧ HW M T h ∧ M.wd 0 (nxN p n) = ndW h
 | .dn _ => True
def PS.node:PS → Option Int
 | .ql n => some n
 | .qs n _ => some n
 | .qw n _ => some n
 | _ => none
structure Eff (p:Pl) (M:MS) (T:Nat) (M':MS) (T':Nat) (w:Option Int):Prop where
 hd:(M'.wd 0 0 = M.wd 0 0 ∧ T' = T) ∨ T' = T+1
 nx:∀ n,InR p n → w ≠ some n → M'.wd 0 (nxN p n) = M.wd 0 (nxN p n)
theorem Th.frame {p:Pl} (hp:p.ok) {M M':MS} {l l':List Int} {T T':Nat} {w:Option Int} {s:PS} (hL:FL p M l T) (hL':FL p M' l' T') (hE:Eff p M T M' T' w) (hw:∀ n,w = some n → n ∉ l ∧ s.node ≠ some n) (h:Th p M T s):Th p M' T' s:=by
 have hHW:∀ x,HW M T x → HW M' T' x:=fun x hx => by
  rcases hE.hd with ⟨h1,h2⟩ | h1
  ·unfold HW;rw [h1,h2];exact hx
  ·refine .inr ?_
   rcases hx with rfl | hx
   ·rw [hL.tg];omega
   ·omega
 have hold:∀ x,HW M T x → x = M'.wd 0 0 → M'.wd 0 0 = M.wd 0 0:=fun x hx e => by
  rcases hE.hd with ⟨h1,_⟩ | h1
  ·exact h1
  ·exfalso
   have h2:=hL'.tg
   rw [← e] at h2
   rcases hx with rfl | hx
   ·have h3:=hL.tg
    omega
   ·omega
 cases s with
 | pl => trivial
 | pn x => exact ⟨hHW x h.1,h.2⟩
 | ps x nx =>
  obtain ⟨h1,n,h2,h3,h4⟩:=h
  refine ⟨hHW x h1,n,h2,h3,fun e => ?_⟩
  have e1:=hold x h1 e
  have e2:=h4 (e.trans e1)
  rw [e2]
  refine (hE.nx n h2 fun hwn => ?_).symm
  have hnl:=(hw n hwn).1
  have h5:=hL.hd
  rw [← e1,← e,h3] at h5
  cases l with
  | nil => exact nameW_ne0 h2.1 (by have:=h2.lt hp;omega) h5
  | cons m l =>
   have hm:=hL.rg m (by simp)
   have:n = m:=name_inj h2.1 (by have:=h2.lt hp;omega) hm.1 (by have:=hm.lt hp;omega) h5
   subst this
   exact hnl (by simp)
 | ql n => exact h
 | qs n x => exact ⟨h.1,hHW x h.2⟩
 | qw n x =>
  refine ⟨h.1,hHW x h.2.1,?_⟩
  rw [← h.2.2]
  exact hE.nx n h.1 fun hwn => (hw n hwn).2 rfl
 | dn r => trivial
theorem Eff.same {p:Pl} {M M':MS} {T:Nat} {w:Option Int} (h:∀ j,M'.wd 0 j = M.wd 0 j):Eff p M T M' T w:=⟨.inl ⟨h 0,rfl⟩,fun _ _ _ => h _⟩
theorem FL.same {p:Pl} {M M':MS} {l:List Int} {T:Nat} (h:FL p M l T) (hm:Mg p M') (hs:∀ j,M'.wd 0 j = M.wd 0 j):FL p M' l T:=
 ⟨hm,by rw [hs];exact h.hd,by rw [hs];exact h.tg,h.ch.congr fun n _ => hs _,h.nd,h.rg⟩
structure Nxt (p:Pl) (M:MS) (l:List Int) (T:Nat) (N:Nat) (s:PS) (M':MS) (l':List Int) (T':Nat) (N':Nat) (s':PS):Prop where
 st:StepT p M N s M' N' s'
 fl:FL p M' l' T'
 th:Th p M' T' s'
 ef:Eff p M T M' T' s.node
 N0:N ≤ N' + 1
 T0:T' ≤ T+1
section
variable {p:Pl} (hp:p.ok) {M:MS} {l:List Int} {T N:Nat} (hL:FL p M l T)
include hp hL
theorem go_pl:∃ M' s',Nxt p M l T N .pl M' l T N s' ∧ (l = [] → s' = .dn (-1)) ∧ (l ≠ [] → s' = .pn (M.wd 0 0)) ∧ (∀ j,M'.wd 0 j = M.wd 0 j):=by
 have hz:=head_zero hp
 have hok:DoOk M 0 1#64 0 p.headF:=by rw [hz];exact hL.mg.ok (by omega) (by have:=size_pos hp;omega) (by omega) (by omega)
 have hw:=wd_load M p.headF 0#64 0#64
 have hm:=hL.mg.done 0 0 p.headF 0#64 0#64
 have hfl:=hL.same hm hw
 have hst:∀ s',pop1T p (popT p N) (M.wd 0 0) = trT p N s' → StepT p M N .pl (M.done 0 0 p.headF 0#64 0#64) N s':=fun s' e => ⟨ldA p.headF,fun x => pop1T p (popT p N) x,rfl,hok,rfl,by
  rw [← e]
  show pop1T p _ (M.wd 0 p.headF.toNat) = _
  rw [hz]
  rfl⟩
 cases l with
 | nil =>
  refine ⟨_,.dn (-1),⟨hst _ ?_,hfl,trivial,Eff.same hw,by omega,by omega⟩,fun _ => rfl,fun h => absurd rfl h,hw⟩
  unfold pop1T
  have h0:ndW (M.wd 0 0) = 0#64:=hL.hd
  rw [if_pos h0]
  rfl
 | cons n l =>
  have hn:=hL.rg n (by simp)
  have h0:ndW (M.wd 0 0) ≠ 0#64:=by rw [hL.hd];exact nameW_ne0 hn.1 (by have:=hn.lt hp;omega)
  refine ⟨_,.pn (M.wd 0 0),⟨hst _ ?_,hfl,⟨.inl (hw 0).symm,n,hn,hL.hd⟩,Eff.same hw,by omega,by omega⟩,fun h => by simp at h,fun _ => rfl,hw⟩
  unfold pop1T
  rw [if_neg h0]
  rfl
theorem go_pn {h:BitVec 64} (ht:Th p M T (.pn h)):∃ M' nx,Nxt p M l T N (.pn h) M' l T N (.ps h nx) ∧ (∀ j,M'.wd 0 j = M.wd 0 j):=by
 obtain ⟨h1,n,h2,h3⟩:=ht
 have e:nodeI (ndW h) = n:=by rw [h3,node_name h2.1 (by have:=h2.lt hp;omega)]
 have hx:=nx_in hp h2
 have hok:DoOk M 0 1#64 0 (p.nxF n):=hL.mg.ok (by omega) hx.2 (by omega) (by omega)
 have hw:=wd_load M (p.nxF n) 0#64 0#64
 refine ⟨M.done 0 0 (p.nxF n) 0#64 0#64,M.wd 0 (nxN p n),⟨⟨ldA (p.nxF n),fun x => swT p h x n (popT p N),?_,hok,rfl,?_⟩,hL.same (hL.mg.done _ _ _ _ _) hw,⟨?_,n,h2,h3,fun _ => (hw _).symm⟩,Eff.same hw,by omega,by omega⟩,hw⟩
 ·show (getT _).bind _ = _
  rw [e]
  rfl
 ·show swT p h _ n _ = swT p h _ (nodeI (ndW h)) _
  rw [e]
  rfl
 ·unfold HW
  rw [hw]
  exact h1
theorem go_ps (hT:T < 8796093022207) {h nx:BitVec 64} (ht:Th p M T (.ps h nx)):∃ M' l' T' N' s',Nxt p M l T (N+1) (.ps h nx) M' l' T' N' s' ∧ ((∃ n,l = n :: l' ∧ s' = .dn n ∧ T' = T+1 ∧ h = M.wd 0 0) ∨ (l' = l ∧ s' = .pl ∧ T' = T ∧ h ≠ M.wd 0 0)):=by
 obtain ⟨h1,n,h2,h3,h4⟩:=ht
 have e:nodeI (ndW h) = n:=by rw [h3,node_name h2.1 (by have:=h2.lt hp;omega)]
 have hz:=head_zero hp
 have hok:DoOk M 0 1#64 2 p.headF:=by rw [hz];exact hL.mg.ok (by omega) (by have:=size_pos hp;omega) (by omega) (by omega)
 have hw:=wd_swap M p.headF h (folW h nx)
 rw [hz] at hw
 have hm:=hL.mg.done 0 2 p.headF h (folW h nx)
 have hst:∀ N' s',sw1T n (popT p (N+1)) (M.wd 0 0 == h) = trT p N' s' → StepT p M (N+1) (.ps h nx) (M.done 0 2 p.headF h (folW h nx)) N' s':=fun N' s' ee => ⟨swA p.headF h (folW h nx),fun z => sw1T (nodeI (ndW h)) (popT p (N+1)) (z == h),rfl,hok,rfl,by
  rw [← ee,e]
  show sw1T n _ (M.wd 0 p.headF.toNat == h) = _
  rw [hz]
  rfl⟩
 by_cases hh:h = M.wd 0 0
 ·have hnx:=h4 hh
  have hc:=hL.hd
  rw [← hh,h3] at hc
  cases l with
  | nil => exact absurd hc (nameW_ne0 h2.1 (by have:=h2.lt hp;omega))
  | cons m l =>
   have hmr:=hL.rg m (by simp)
   have:n = m:=name_inj h2.1 (by have:=h2.lt hp;omega) hmr.1 (by have:=hmr.lt hp;omega) hc
   subst this
   have hcl:=hL.ch.1
   rw [← hnx] at hcl
   have hrg:∀ k ∈ l,InR p k:=fun k hk => hL.rg k (by simp [hk])
   have w0:(M.done 0 2 p.headF h (folW h nx)).wd 0 0 = folW h nx:=by
    rw [hz]
    rw [hw 0]
    simp [hh]
   have wn:∀ k,InR p k → (M.done 0 2 p.headF h (folW h nx)).wd 0 (nxN p k) = M.wd 0 (nxN p k):=fun k hk => by
    rw [hz]
    rw [hw,if_neg (by simpa using nxN_pos hp hk)]
   refine ⟨_,l,T+1,N+1,.dn n,⟨hst _ _ ?_,⟨hm,?_,?_,hL.ch.2.congr fun k hk => wn k (hrg k hk),hL.nd.of_cons,hrg⟩,trivial,⟨.inr rfl,fun k hk _ => wn k hk⟩,by omega,by omega⟩,.inl ⟨n,rfl,rfl,rfl,hh⟩⟩
   ·rw [hh]
    simp [sw1T,trT]
   ·rw [w0,nd_fol _ _ (by rw [hcl];exact nmL_lt hp hrg),hcl]
   ·have:=hL.tg
    rw [← hh] at this
    rw [w0,tag_fol _ _ (by omega),this]
    omega
 ·have hsame:∀ j,(M.done 0 2 p.headF h (folW h nx)).wd 0 j = M.wd 0 j:=fun j => by
   rw [hz,hw]
   split
   ·rename_i hj
    rw [hj,if_neg (fun e => hh e.symm)]
   ·rfl
  refine ⟨_,l,T,N,.pl,⟨hst _ _ ?_,hL.same hm hsame,trivial,Eff.same hsame,by omega,by omega⟩,.inr ⟨rfl,rfl,rfl,hh⟩⟩
  have:(M.wd 0 0 == h) = false:=beq_eq_false_iff_ne.2 fun e => hh e.symm
  rw [this]
  simp [sw1T,trT]
theorem go_ql {n:Int} (hn:InR p n):∃ M' h,Nxt p M l T N (.ql n) M' l T N (.qs n h) ∧ h = M.wd 0 0 ∧ (∀ j,M'.wd 0 j = M.wd 0 j):=by
 have hz:=head_zero hp
 have hok:DoOk M 0 1#64 0 p.headF:=by rw [hz];exact hL.mg.ok (by omega) (by have:=size_pos hp;omega) (by omega) (by omega)
 have hw:=wd_load M p.headF 0#64 0#64
 have hq:p.nxF n ≠ -1:=by have:=nx_in hp hn;omega
 refine ⟨M.done 0 0 p.headF 0#64 0#64,M.wd 0 0,⟨⟨ldA p.headF,fun x => push1T p n (pushT p n N) x,?_,hok,rfl,?_⟩,hL.same (hL.mg.done _ _ _ _ _) hw,⟨hn,.inl (hw 0).symm⟩,Eff.same hw,by omega,by omega⟩,rfl,hw⟩
 ·show pushT p n (N+1) = _
  rw [pushT,if_neg hq]
  rfl
 ·show push1T p n _ (M.wd 0 p.headF.toNat) = _
  rw [hz]
  rfl
theorem go_qs {n:Int} {h:BitVec 64} (ht:Th p M T (.qs n h)) (hnl:n ∉ l):∃ M',Nxt p M l T N (.qs n h) M' l T N (.qw n h) ∧ M'.wd 0 0 = M.wd 0 0:=by
 obtain ⟨hn,h1⟩:=ht
 have hx:=nx_in hp hn
 have hok:DoOk M 0 1#64 1 (p.nxF n):=hL.mg.ok (by omega) hx.2 (by omega) (by omega)
 have hw:=wd_store M (p.nxF n) (ndW h) 0#64
 have h0:(M.done 0 1 (p.nxF n) (ndW h) 0#64).wd 0 0 = M.wd 0 0:=by rw [hw,if_neg (fun e => nxN_pos hp hn e.symm)]
 have hne:∀ k,InR p k → k ≠ n → (M.done 0 1 (p.nxF n) (ndW h) 0#64).wd 0 (nxN p k) = M.wd 0 (nxN p k):=fun k hk hkn => by
  rw [hw]
  exact if_neg fun e => hkn (nxN_inj hp hk hn e)
 refine ⟨M.done 0 1 (p.nxF n) (ndW h) 0#64,⟨⟨stA (p.nxF n) (ndW h),fun _ => swT p h (nameW n) n (pushT p n N),rfl,hok,rfl,rfl⟩,⟨hL.mg.done _ _ _ _ _,by rw [h0];exact hL.hd,by rw [h0];exact hL.tg,hL.ch.congr fun k hk => hne k (hL.rg k hk) (fun e => hnl (e ▸ hk)),hL.nd,hL.rg⟩,⟨hn,?_,?_⟩,⟨.inl ⟨h0,rfl⟩,fun k hk hkn => hne k hk (fun e => hkn (by rw [e];rfl))⟩,by omega,by omega⟩,h0⟩
 ·unfold HW
  rw [h0]
  exact h1
 ·rw [hw]
  exact if_pos rfl
theorem go_qw (hT:T < 8796093022207) {n:Int} {h:BitVec 64} (ht:Th p M T (.qw n h)) (hnl:n ∉ l):∃ M' l' T' N' s',Nxt p M l T (N+1) (.qw n h) M' l' T' N' s' ∧ ((l' = n :: l ∧ s' = .dn n ∧ T' = T+1 ∧ h = M.wd 0 0) ∨ (l' = l ∧ s' = .ql n ∧ T' = T ∧ h ≠ M.wd 0 0)):=by
 obtain ⟨hn,h1,h2⟩:=ht
 have hz:=head_zero hp
 have hok:DoOk M 0 1#64 2 p.headF:=by rw [hz];exact hL.mg.ok (by omega) (by have:=size_pos hp;omega) (by omega) (by omega)
 have hw:=wd_swap M p.headF h (folW h (nameW n))
 rw [hz] at hw
 have hm:=hL.mg.done 0 2 p.headF h (folW h (nameW n))
 have hst:∀ N' s',sw1T n (pushT p n (N+1)) (M.wd 0 0 == h) = trT p N' s' → StepT p M (N+1) (.qw n h) (M.done 0 2 p.headF h (folW h (nameW n))) N' s':=fun N' s' ee => ⟨swA p.headF h (folW h (nameW n)),fun z => sw1T n (pushT p n (N+1)) (z == h),rfl,hok,rfl,by
  rw [← ee]
  show sw1T n _ (M.wd 0 p.headF.toNat == h) = _
  rw [hz]
  rfl⟩
 by_cases hh:h = M.wd 0 0
 ·have w0:(M.done 0 2 p.headF h (folW h (nameW n))).wd 0 0 = folW h (nameW n):=by
   rw [hz]
   rw [hw 0]
   simp [hh]
  have wn:∀ k,InR p k → (M.done 0 2 p.headF h (folW h (nameW n))).wd 0 (nxN p k) = M.wd 0 (nxN p k):=fun k hk => by
   rw [hz]
   rw [hw,if_neg (by simpa using nxN_pos hp hk)]
  refine ⟨_,n :: l,T+1,N+1,.dn n,⟨hst _ _ ?_,⟨hm,?_,?_,⟨?_,hL.ch.congr fun k hk => wn k (hL.rg k hk)⟩,List.nodup_cons.2 ⟨hnl,hL.nd⟩,fun k hk => ?_⟩,trivial,⟨.inr rfl,fun k hk _ => wn k hk⟩,by omega,by omega⟩,.inl ⟨rfl,rfl,rfl,hh⟩⟩
  ·rw [hh]
   simp [sw1T,trT]
  ·rw [w0,nd_fol _ _ (by rw [U_nameW hn.1 (by have:=hn.lt hp;omega)];have:=hn.lt hp;omega)]
   rfl
  ·have:=hL.tg
   rw [← hh] at this
   rw [w0,tag_fol _ _ (by omega),this]
   omega
  ·rw [wn n hn,h2,hh]
   exact hL.hd
  ·rcases List.mem_cons.1 hk with rfl | hk
   ·exact hn
   ·exact hL.rg k hk
 ·have hsame:∀ j,(M.done 0 2 p.headF h (folW h (nameW n))).wd 0 j = M.wd 0 j:=fun j => by
   rw [hz,hw]
   split
   ·rename_i hj
    rw [hj,if_neg (fun e => hh e.symm)]
   ·rfl
  refine ⟨_,l,T,N,.ql n,⟨hst _ _ ?_,hL.same hm hsame,hn,Eff.same hsame,by omega,by omega⟩,.inr ⟨rfl,rfl,rfl,hh⟩⟩
  have:(M.wd 0 0 == h) = false:=beq_eq_false_iff_ne.2 fun e => hh e.symm
  rw [this]
  simp [sw1T,trT]
end
theorem thenDNU (r:Unit) (a:Acc) (f:Unit → Tr (BitVec 64)) (F:Nat → Prop) (fn:Value) (w:World) (hC:CT kN kU f F fn w) (hF:Bnd F w) :
  Calls Tryz.prog 119 #[.agg #[.int .i64 a.op,.int .i64 a.at_,.int .u64 (U a.a),.int .u64 (U a.b),.nilFunc,.pointer none],fn] w (RetP (PT kU (f r)) F w):=by
 obtain ⟨g,caps,rfl,hg,hc⟩:=hC
 have HN:=Lib.hid hc
 unfold Enters at hg
 clear hc
 go_enter Tryz.func119,Tryz.ntmps119
 go_wp2_with (go_at_call 135;refine (overYN a.op a.at_ (U a.a) (U a.b) _).mono ?_;rintro e w1 ⟨rfl,hx⟩;refine Hid.out ?_)
 refine Lib.hid ?_
 have hb2:=(hx.block (w.heap.size+1) (by simp)).trans ((Below.heap_alloc _ _ _ (by simp)).trans (heap_at (w.alloc (.cells #[.int .i64 a.op,.int .i64 a.at_,.int .u64 (U a.a),.int .u64 (U a.b),.nilFunc,.pointer none] 137)) _ _ (by simp)))
 have hb3:=(hx.block (w.heap.size+1+1) (by simp)).trans (heap_at ((w.alloc (.cells #[.int .i64 a.op,.int .i64 a.at_,.int .u64 (U a.a),.int .u64 (U a.b),.nilFunc,.pointer none] 137)).alloc (.cells #[.func (.func g) #[] caps] 211)) _ _ (by simp))
 have hE:Ext w w1:=ext_trans (ext_alloc _ (ext_alloc _ (ext_alloc _ (ext_refl w)))) hx
 have hs1:w.heap.size+1+1 < w1.heap.size:=heap_lt hb3
 have k0:=cell_at (o:=0) hb2 rfl
 have l0:=heap_lt hb2
 have HE:=Lib.hid (ext_alloc (.cells #[] 132) hE)
 have HB3:=Lib.hid ((Below.heap_alloc _ (.cells #[] 132) _ hs1).trans hb3)
 have hsa:(w1.alloc (.cells #[] 132)).heap.size = w1.heap.size+1:=by simp
 have HCX:=Lib.hid (HN.out r (w1.alloc (.cells #[] 132)) (Agr.of_ext HE.out hF))
 simp only [kN] at HCX
 clear hx hb2 hb3 hE HN
 go_wp2_with (refine HCX.out.mono ?_;rintro e2 w2 ⟨v',F',rfl,hx,hp,hbn,hsub⟩;refine Hid.out ?_)
 refine Lib.hid ?_
 have hbx:=(hx.block _ (heap_lt HB3.out)).trans HB3.out
 have hnF:¬ F' (w.heap.size+1+1):=fun h => by
  rcases hsub _ h with h | h
  ·have:=hF _ h;omega
  ·omega
 obtain ⟨y,a2,fn2,rfl,HFN,HX⟩:=tlU hp (ext_trans HE.out hx) hbx hbn (fun j hj => (hsub j hj).imp_right fun h => (by omega:w.heap.size ≤ j)) hnF (by omega)
 obtain ⟨c0,c1,c2,c3,c4,c5,c6,cz,ll⟩:=sev_of hbx
 clear hx hbx hp hbn hsub hnF HCX HE HB3
 rcases HFN.out with rfl | ⟨g',caps',rfl⟩
 all_goals
  go_wp2
  clear c0 c1 c2 c3 c4 c5 c6 cz ll
  obtain ⟨hX,hB,hP⟩:=HX.out
  clear HX
  generalize (World.setCell _ (⟨w.heap.size+1+1,6,none⟩ : Addr) _) = Z at hX hB hP ⊢
  obtain ⟨c0,c1,c2,c3,c4,c5,c6,cz,ll⟩:=sev_of hB
  exact bodyPost_ret (by simp only [results,Tryz.results119,go_sem];simp [go_sem,c0,c1,c2,c3,c4,c5,c6]) rfl ⟨_,F',rfl,hX,hP⟩
theorem thenANU (a:Acc) (g0:FuncId) (caps0:Array Value) (g:FuncId) (caps:Array Value) (w:World) :
  Calls Tryz.prog 119 #[.agg #[.int .i64 a.op,.int .i64 a.at_,.int .u64 (U a.a),.int .u64 (U a.b),.func (.func g0) #[] caps0,.pointer none],.func (.func g) #[] caps] w fun e w' => e = .returned (.agg #[.int .u64 0,.int .i64 a.op,.int .i64 a.at_,.int .u64 (U a.a),.int .u64 (U a.b),.func (.func 191) #[] #[.pointer (some ⟨w.heap.size,0,none⟩),.pointer (some ⟨w.heap.size+1,0,none⟩)],.pointer none]) ∧ Ext w w' ∧ w'.heap[w.heap.size]? = some (.cells #[.int .i64 a.op,.int .i64 a.at_,.int .u64 (U a.a),.int .u64 (U a.b),.func (.func g0) #[] caps0,.pointer none] 137 (0,0)) ∧ w'.heap[w.heap.size+1]? = some (.cells #[.func (.func g) #[] caps] 211 (0,0)):=by
 go_enter Tryz.func119,Tryz.ntmps119
 go_wp2_with (go_at_call 135;refine (ovnN a _ _ _ _).mono ?_;rintro e w1 ⟨rfl,hx⟩;refine Hid.out ?_)
 refine Lib.hid ?_
 have hb1:=(hx.block w.heap.size (by simp;omega)).trans ((Below.heap_alloc _ _ _ (by simp;omega)).trans ((Below.heap_alloc _ _ _ (by simp)).trans (heap_at w (.cells #[.int .i64 a.op,.int .i64 a.at_,.int .u64 (U a.a),.int .u64 (U a.b),.func (.func g0) #[] caps0,.pointer none] 137) _ rfl)))
 have hb2:=(hx.block (w.heap.size+1) (by simp)).trans ((Below.heap_alloc _ _ _ (by simp)).trans (heap_at (w.alloc (.cells #[.int .i64 a.op,.int .i64 a.at_,.int .u64 (U a.a),.int .u64 (U a.b),.func (.func g0) #[] caps0,.pointer none] 137)) _ _ (by simp)))
 have hb3:=(hx.block (w.heap.size+1+1) (by simp)).trans (heap_at ((w.alloc (.cells #[.int .i64 a.op,.int .i64 a.at_,.int .u64 (U a.a),.int .u64 (U a.b),.func (.func g0) #[] caps0,.pointer none] 137)).alloc (.cells #[.func (.func g) #[] caps] 211)) _ _ (by simp))
 have hE:Ext w w1:=ext_trans (ext_alloc _ (ext_alloc _ (ext_alloc _ (ext_refl w)))) hx
 obtain ⟨d0,d1,d2,d3,d4,d5,dz,dl⟩:=six_of hb1
 have hX:=put7_ext (b:=w.heap.size+1+1) (.int .u64 0) (.int .i64 a.op) (.int .i64 a.at_) (.int .u64 (U a.a)) (.int .u64 (U a.b)) (.func (.func 191) #[] #[.pointer (some ⟨w.heap.size,0,none⟩),.pointer (some ⟨w.heap.size+1,0,none⟩)]) (.pointer none) hE (by omega)
 have hB:=put7_block (.int .u64 0) (.int .i64 a.op) (.int .i64 a.at_) (.int .u64 (U a.a)) (.int .u64 (U a.b)) (.func (.func 191) #[] #[.pointer (some ⟨w.heap.size,0,none⟩),.pointer (some ⟨w.heap.size+1,0,none⟩)]) (.pointer none) hb3
 have hA1:=(put7_other (w:=w1) (b:=w.heap.size+1+1) (k:=w.heap.size) (.int .u64 0) (.int .i64 a.op) (.int .i64 a.at_) (.int .u64 (U a.a)) (.int .u64 (U a.b)) (.func (.func 191) #[] #[.pointer (some ⟨w.heap.size,0,none⟩),.pointer (some ⟨w.heap.size+1,0,none⟩)]) (.pointer none) (by omega)).trans hb1
 have hA2:=(put7_other (w:=w1) (b:=w.heap.size+1+1) (k:=w.heap.size+1) (.int .u64 0) (.int .i64 a.op) (.int .i64 a.at_) (.int .u64 (U a.a)) (.int .u64 (U a.b)) (.func (.func 191) #[] #[.pointer (some ⟨w.heap.size,0,none⟩),.pointer (some ⟨w.heap.size+1,0,none⟩)]) (.pointer none) (by omega)).trans hb2
 obtain ⟨c0,c1,c2,c3,c4,c5,c6,cz,ll⟩:=sev_of hb3
 rw [put7] at hX hB hA1 hA2
 have HX:=Lib.hid (And.intro hX (And.intro hB (And.intro hA1 hA2)))
 clear hX hB hA1 hA2 hb1 hb2 hb3 hE hx
 go_wp2
 clear c0 c1 c2 c3 c4 c5 c6 cz ll
 obtain ⟨hX,hB,hA1,hA2⟩:=HX.out
 clear HX
 generalize (World.setCell _ (⟨w.heap.size+1+1,6,none⟩ : Addr) _) = Z at hX hB hA1 hA2 ⊢
 replace hX:=ext_alloc (.cells #[] 132) hX
 replace hB:=(Below.heap_alloc Z (.cells #[] 132) _ (heap_lt hB)).trans hB
 replace hA1:=(Below.heap_alloc Z (.cells #[] 132) _ (heap_lt hA1)).trans hA1
 replace hA2:=(Below.heap_alloc Z (.cells #[] 132) _ (heap_lt hA2)).trans hA2
 generalize Z.alloc (.cells #[] 132) = Y at hX hB hA1 hA2 ⊢
 obtain ⟨c0,c1,c2,c3,c4,c5,c6,cz,ll⟩:=sev_of hB
 exact bodyPost_ret (by simp only [results,Tryz.results119,go_sem];simp [go_sem,c0,c1,c2,c3,c4,c5,c6]) rfl ⟨rfl,hX,hA1,hA2⟩
theorem then1NU {t:Tr (Unit)} {t2:Tr (BitVec 64)} (a:Acc) (g0:FuncId) (caps0:Array Value) (g:FuncId) (caps:Array Value) (F G:Nat → Prop) (x:BitVec 64) (B1 B2:Nat) (w:World) (he:Enters g0) (hF:Bnd F w) (hG:Bnd G w)
  (k1:w.heap[B1]? = some (.cells #[.int .i64 a.op,.int .i64 a.at_,.int .u64 (U a.a),.int .u64 (U a.b),.func (.func g0) #[] caps0,.pointer none] 137 (0,0))) (k2:w.heap[B2]? = some (.cells #[.func (.func g) #[] caps] 211 (0,0)))
  (hN:∀ W,Ext w W → Calls Tryz.prog g0 (#[.int .u64 (U x)] ++ caps0) W (RetP (PT kN t) F W))
  (hT:∀ v F1 W,Ext w W → PT kN t F1 v W → Bnd F1 W → Calls Tryz.prog 119 #[v,.func (.func g) #[] caps] W (RetP (PT kU t2) (fun j => F1 j ∨ G j) W)) :
  Calls Tryz.prog 191 #[.int .u64 (U x),.pointer (some ⟨B1,0,none⟩),.pointer (some ⟨B2,0,none⟩)] w (RetP (PT kU t2) (fun j => F j ∨ G j) w):=by
 have HN:=Lib.hid hN
 have HT:=Lib.hid hT
 unfold Enters at he
 have q1:=cell_at (o:=4) k1 rfl
 have q2:=cell_at (o:=0) k2 rfl
 have l1:=cell_lt q1
 have l2:=cell_lt q2
 clear hN hT k1 k2
 go_enter Tryz.func191,Tryz.ntmps191
 go_wp2
 have m1:=ext_cell (ext_alloc (.cells #[.int .u64 0,.int .i64 0,.int .i64 0,.int .u64 0,.int .u64 0,.nilFunc,.pointer none] 208) (ext_refl w)) q1
 have m2:=ext_cell (ext_alloc (.cells #[.int .u64 0,.int .i64 0,.int .i64 0,.int .u64 0,.int .u64 0,.nilFunc,.pointer none] 208) (ext_refl w)) q2
 have hE:Ext w (w.alloc (.cells #[.int .u64 0,.int .i64 0,.int .i64 0,.int .u64 0,.int .u64 0,.nilFunc,.pointer none] 208)):=ext_alloc _ (ext_refl w)
 have hb:=heap_at w (.cells #[.int .u64 0,.int .i64 0,.int .i64 0,.int .u64 0,.int .u64 0,.nilFunc,.pointer none] 208) w.heap.size rfl
 have hW:(w.alloc (.cells #[.int .u64 0,.int .i64 0,.int .i64 0,.int .u64 0,.int .u64 0,.nilFunc,.pointer none] 208)).heap.size = w.heap.size+1:=by simp
 generalize w.alloc (.cells #[.int .u64 0,.int .i64 0,.int .i64 0,.int .u64 0,.int .u64 0,.nilFunc,.pointer none] 208) = W at m1 m2 hE hb hW ⊢
 have n1:=cell_lt m1
 have n2:=cell_lt m2
 have HE:=Lib.hid hE
 have HB:=Lib.hid hb
 have HW:=Lib.hid hW
 clear hE hb hW
 refine wp_region_mix (fun w' => ∃ s,w' = over W s) [(0,[0,1,2,4]),(1,[3]),(1,[5]),(2,[6])] (by kernel_rfl) (by kernel_rfl) (over_of (ext_drew (ext_refl W))) ?_
 simp only [pieces,pickL,List.map_cons,List.map_nil,List.getD_cons_zero,List.getD_cons_succ]
 refine mix_reads ?_
 repeat (go_big_quiet_step (fail))
 refine wpQuiet_nil (mix_acts ?_)
 have HCX:=Lib.hid (HN.out W.drew (ext_drew HE.out))
 go_wp2_with (refine HCX.out.mono ?_;rintro e w1 ⟨v1,F1,rfl,hx1,hp1,hbn1,hsub1⟩;refine Hid.out ?_)
 refine Lib.hid ?_
 have HX1:=Lib.hid (ext_trans (ext_drew (ext_refl W)) hx1)
 have HT1:=Lib.hid (HT.out v1 F1 w1 (ext_trans HE.out HX1.out) hp1 hbn1)
 have HS1:=Lib.hid hsub1
 clear hx1 hp1 hbn1 hsub1 HCX HN HT
 go_wp2
 refine mixQ_mk (over_of HX1.out) (mix_acts ?_)
 go_wp2_with (go_at_call 119;refine HT1.out.mono ?_;rintro e w2 ⟨v2,F2,rfl,hx2,hp2,hbn2,hsub2⟩;refine Hid.out ?_)
 refine Lib.hid ?_
 have HX2:=Lib.hid (ext_trans HX1.out hx2)
 have hsub:∀ j,F2 j → (F j ∨ G j) ∨ w.heap.size+1 ≤ j:=fun j hj => by
  have h1:=HX1.out.size
  have h2:=HW.out
  rcases hsub2 j hj with (h | h) | h
  ·rcases HS1.out j h with h | h
   ·exact .inl (.inl h)
   ·have h3:W.drew.heap.size = W.heap.size:=rfl
    exact .inr (by omega)
  ·exact .inl (.inr h)
  ·exact .inr (by omega)
 have hnF:¬ F2 w.heap.size:=fun h => by
  rcases hsub _ h with (h | h) | h
  ·have:=hF _ h;omega
  ·have:=hG _ h;omega
  ·omega
 have hbx:=(HX2.out.block _ (heap_lt HB.out)).trans HB.out
 obtain ⟨y,a2,fn2,rfl,HFN,HX⟩:=tlU hp2 (ext_trans HE.out HX2.out) hbx hbn2 (fun j hj => (hsub j hj).imp_right fun h => (by omega:w.heap.size ≤ j)) hnF (Nat.le_refl _)
 have HBX:=Lib.hid hbx
 clear hx2 hp2 hbn2 hsub2 hsub hnF hbx HT1 HS1
 go_wp2
 refine mixQ_mk (over_of HX2.out) (mix_late ?_)
 obtain ⟨c0,c1,c2,c3,c4,c5,c6,cz,ll⟩:=sev_of HBX.out
 clear HBX
 rcases HFN.out with rfl | ⟨g',caps',rfl⟩
 all_goals
  go_wp2
  refine lateQ_mk (fun _ => True) trivial (mix_end ?_)
  clear c0 c1 c2 c3 c4 c5 c6 cz ll
  obtain ⟨hX,hB,hP⟩:=HX.out
  clear HX
  generalize (World.setCell _ (⟨w.heap.size,6,none⟩ : Addr) _) = Z at hX hB hP ⊢
  obtain ⟨c0,c1,c2,c3,c4,c5,c6,cz,ll⟩:=sev_of hB
  go_wp2
  exact bodyPost_ret (by simp only [results,Tryz.results191,go_sem];simp [go_sem,c0,c1,c2,c3,c4,c5,c6]) rfl ⟨_,F2,rfl,hX,hP⟩
theorem thenM_NU (F:Nat → Prop) (v:Value) (g:FuncId) (caps:Array Value) (w:World) (hP:PT kN .more F v w):Calls Tryz.prog 119 #[v,.func (.func g) #[] caps] w (RetP (PT kU .more) noF w):=by
 obtain ⟨a,g0,caps0,rfl,he⟩:=hP
 refine (thenANU a g0 caps0 g caps w).mono ?_
 rintro e w' ⟨rfl,hx,h1,h2⟩
 exact ⟨_,noF,rfl,hx,⟨a,_,_,rfl,enters_of Tryz.func191 (by kernel_rfl) rfl⟩,fun _ h => h.elim,fun _ h => h.elim⟩
theorem then_NU:∀ (t:Tr (Unit)) (f:Unit → Tr (BitVec 64)) (F G:Nat → Prop) (v fn:Value) (w:World),PT kN t F v w → CT kN kU f G fn w → Bnd F w → Bnd G w →
  Calls Tryz.prog 119 #[v,fn] w (RetP (PT kU (t.bind f)) (fun j => F j ∨ G j) w)
 | .done r,f,F,G,v,fn,w,hP,hC,hF,hG => by
  cases hP
  exact (thenDNU r accZ f G fn w hC hG).mono fun e w' h => h.mono fun j hj => .inr hj
 | .more,f,F,G,v,fn,w,hP,hC,hF,hG => by
  obtain ⟨g,caps,rfl,hg,hc⟩:=hC
  exact (thenM_NU F v g caps w hP).mono fun e w' h => h.mono fun j hj => hj.elim
 | .ask a k,f,F,G,v,fn,w,hP,hC,hF,hG => by
  obtain ⟨g0,caps0,rfl,he,hk⟩:=hP
  obtain ⟨g,caps,rfl,hg,hc⟩:=id hC
  refine (thenANU a g0 caps0 g caps w).mono ?_
  rintro e w' ⟨rfl,hx,h1,h2⟩
  have hs1:=heap_lt h1
  have hs2:=heap_lt h2
  refine ⟨_,fun j => (F j ∨ G j) ∨ j = w.heap.size ∨ j = w.heap.size+1,rfl,hx,⟨_,_,rfl,enters_of Tryz.func191 (by kernel_rfl) rfl,fun x u hu => ?_⟩,?_,?_⟩
  ·have hFu:Agr F w u:=(Agr.of_ext hx hF).trans (hu.sub fun j hj => .inl (.inl hj))
   have hGu:Agr G w u:=(Agr.of_ext hx hG).trans (hu.sub fun j hj => .inl (.inr hj))
   have hu1:=(hu w.heap.size (.inr (.inl rfl))).trans h1
   have hu2:=(hu (w.heap.size+1) (.inr (.inr rfl))).trans h2
   have lt_of:∀ j,j < w.heap.size → u.heap[j]? = w.heap[j]? → j < u.heap.size:=fun j hj e => by
    have h0:w.heap[j]? = some w.heap[j]:=Array.getElem?_eq_getElem hj
    exact heap_lt (e.trans h0)
   have bF:Bnd F u:=fun j hj => lt_of j (hF j hj) (hFu j hj)
   have bG:Bnd G u:=fun j hj => lt_of j (hG j hj) (hGu j hj)
   refine (then1NU a g0 caps0 g caps F G x w.heap.size (w.heap.size+1) u he bF bG hu1 hu2 (fun W hW => hk x W (hFu.trans (Agr.of_ext hW bF))) (fun v' F1 W hW hp hb => then_NU (k x) f F1 G v' _ W hp (hC.agr (hGu.trans (Agr.of_ext hW bG))) hb (bG.ext hW.size))).mono ?_
   exact fun e w'' h => h.mono fun j hj => .inl hj
  ·intro j hj
   rcases hj with (hj | hj) | rfl | rfl
   ·exact Nat.lt_of_lt_of_le (hF j hj) hx.size
   ·exact Nat.lt_of_lt_of_le (hG j hj) hx.size
   ·exact hs1
   ·exact hs2
  ·intro j hj
   rcases hj with hj | rfl | rfl
   ·exact .inl hj
   ·exact .inr (Nat.le_refl _)
   ·exact .inr (Nat.le_succ _)
end Go.Proofs.YthjklbonebnekaaGreat

