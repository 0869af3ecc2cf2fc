/-
  What the law's awake comes to; runs of Pop and Push, as calls. Conditions: those of each theorem.
-/
import Derived.Test.YthjklbonebnekaaGreatGac
import Derived.Test.YthjklbonebnekaaGreatGap
import Derived.Test.YthjklbonebnekaaGreatGar
import Derived.Test.YthjklbonebnekaaGreatGav
import Derived.Test.YthjklbonebnekaaGreatGaw
import Derived.Test.YthjklbonebnekaaGreatGax
import Derived.Test.YthjklbonebnekaaGreatGay
import Derived.Test.YthjklbonebnekaaGreatGba
import Derived.Test.YthjklbonebnekaaGreatGbd
import Derived.Deep.Cut
set_option maxRecDepth 8000
set_option maxHeartbeats 4000000
namespace Go.Proofs.YthjklbonebnekaaGreat
open Go Go.RowKit
theorem p2ok:Pl.ok ⟨2,1,4,0,1,1⟩:=by unfold Pl.ok;decide
theorem zer_low {p:Pl} (hp:p.ok) {M:MS} (hz:Zer p M):∀ j:Nat,1 ≤ j → (j:Int) < p.nod 0 → M.wd 0 j = 0#64:=fun j h0 h1 => hz j (by omega) fun m hm => by
 obtain ⟨_,h2,_,_,_⟩:=node_pl hp hm
 have:=hm.1
 unfold nxN
 omega
theorem low_rts {p:Pl} (hp:p.ok) {M:MS} (hz:∀ j:Nat,1 ≤ j → (j:Int) < p.nod 0 → M.wd 0 j = 0#64) {t:Int} (h0:0 ≤ t) (h1:t < p.t):RTs p M t []:=by
 obtain ⟨q1,q2,q3,q4,q5,q6⟩:=thr_pl hp h0 h1
 have hr:1 ≤ p.r:=by unfold Pl.ok at hp;omega
 refine ⟨by simp;omega,?_,fun i hi => by simp at hi,fun n hn => by simp at hn⟩
 rw [hz _ (by unfold cnN;omega) (by unfold cnN;omega)]
 exact nameH_none.symm
theorem low_hz {p:Pl} (hp:p.ok) {M:MS} (hz:∀ j:Nat,1 ≤ j → (j:Int) < p.nod 0 → M.wd 0 j = 0#64) {i:Nat} (h:(i:Int) < 3 * p.t):hzW p M i = 0#64:=by
 have h1:=hz_pl hp h
 obtain ⟨q1,q2,q3,q4,q5,q6⟩:=thr_pl hp (t:=0) (by omega) (by have:=hp.2.1;omega)
 have hr:1 ≤ p.r:=by unfold Pl.ok at hp;omega
 exact hz _ h1.1 (by omega)
def upS (sf:Int → St) (n:Int) (s:St):Int → St:=fun m => if m = n then s else sf m
theorem upS_same (sf:Int → St) (n:Int) (s:St):upS sf n s n = s:=if_pos rfl
theorem upS_other {sf:Int → St} {n m:Int} {s:St} (h:m ≠ n):upS sf n s m = sf m:=if_neg h
structure AIn (p:Pl) (t:Int) (M:MS) (fs rs:List Int) (T:Nat) (sf:Int → St) (hd:Nat → BitVec 64):Prop where
 fl:FL p M fs T
 rt:RTs p M t rs
 nd:(fs ++ rs).Nodup
 st:∀ n,InR p n → M.wd 0 (sdN p n) = (sf n).word
 ok:∀ n,InR p n → (sf n).ok
 hz:∀ i:Nat,(i:Int) < 3 * p.t → hzW p M i = hd i
theorem sd_ne {p:Pl} (hp:p.ok) {n m:Int} (hn:InR p n) (hm:InR p m):sdN p n ≠ 0 ∧ sdN p n ≠ nxN p m ∧ (sdN p n = sdN p m → n = m) ∧ p.nod 0 ≤ sdN p n:=by
 obtain ⟨a1,a2,_,a4,a5⟩:=node_pl hp hn
 obtain ⟨b1,b2,_,b4,b5⟩:=node_pl hp hm
 have:=hn.1
 have:=hm.1
 unfold sdN nxN
 refine ⟨by omega,by omega,fun h => by omega,by omega⟩
theorem low_keep {p:Pl} (hp:p.ok) {t:Int} (h0:0 ≤ t) (h1:t < p.t) {M M':MS} (hl:∀ j:Nat,1 ≤ j → (j:Int) < p.nod 0 → M'.wd 0 j = M.wd 0 j) :
  (∀ {l:List Int},RTs p M t l → RTs p M' t l) ∧ ∀ i:Nat,(i:Int) < 3 * p.t → hzW p M' i = hzW p M i:=by
 obtain ⟨q1,q2,q3,q4,q5,q6⟩:=thr_pl hp h0 h1
 have hr:4 ≤ p.r:=by unfold Pl.ok at hp;omega
 refine ⟨fun h => h.of hp h0 h1 fun j a b => hl j (by omega) (by omega),fun i hi => ?_⟩
 obtain ⟨b1,b2⟩:=hz_pl hp hi
 exact hl _ b1 (by omega)
theorem bec_run {p:Pl} (hp:p.ok) {M:MS} (hG:Mg p M) {n:Int} (hn:InR p n) (f:St → St) {s:St} (hs:ofS (M.wd 0 (sdN p n)) = s) :
  ∃ M',Runs (becT p n f) M 2 M' (f s) ∧ Mg p M' ∧ ∀ j,M'.wd 0 j = if j = sdN p n then (f s).word else M.wd 0 j:=by
 obtain ⟨a1,a2,_,a4,a5⟩:=node_pl hp hn
 have hn0:=hn.1
 have r1:=Runs.get hG (at_:=p.stF n) (by omega) (by omega)
 have g1:=hG.done 0 0 (p.stF n) 0#64 0#64
 have r2:=Runs.set g1 (at_:=p.stF n) (f s).word (by omega) (by omega)
 refine ⟨_,?_,g1.done 0 1 (p.stF n) (f s).word 0#64,fun j => ?_⟩
 ·unfold becT
  refine Runs.bind (k1:=1) (k2:=1) r1 ?_
  unfold bec1T
  have e:M.wd 0 (p.stF n).toNat = M.wd 0 (sdN p n):=rfl
  rw [e,hs]
  exact Runs.bind (k1:=1) (k2:=0) r2 (Runs.done _ _)
 ·rw [wd_store,wd_load]
  rfl
theorem AIn.of_st {p:Pl} {t:Int} {M:MS} {fl rt:List Int} {T:Nat} {sf:Int → St} {hd:Nat → BitVec 64} (h:AIn p t M fl rt T sf hd) {n:Int} (hn:InR p n):ofS (M.wd 0 (sdN p n)) = sf n:=by
 rw [h.st n hn]
 exact (isW_word _ (h.ok n hn)).2
theorem liveF_ok {s:St} (h:s.ok) {kd:Int} (hk:0 ≤ kd ∧ kd ≤ 2):(liveF kd s).ok:=by
 unfold St.ok at h
 unfold liveF St.ok
 simp only
 omega
theorem freed_ok {p:Pl} (hp:p.ok) {s:St} (h:s.ok):(s.freed p.g).ok:=by
 have hg:p.g ≤ 1073741823:=by unfold Pl.ok at hp;omega
 unfold St.ok at h
 unfold St.freed
 split
 ·unfold St.ok
  simp only
  omega
 ·unfold St.ok wrap64
  simp only
  omega
section
variable {p:Pl} {t:Int} (hp:p.ok) (h0:0 ≤ t) (h1:t < p.t)
include hp h0 h1
theorem AIn.bec {M M':MS} {fl rt:List Int} {T:Nat} {sf:Int → St} {hd:Nat → BitVec 64} (h:AIn p t M fl rt T sf hd) {n:Int} (hn:InR p n) {s:St} (hs:s.ok) (hG:Mg p M') (hw:∀ j,M'.wd 0 j = if j = sdN p n then s.word else M.wd 0 j):AIn p t M' fl rt T (upS sf n s) hd:=by
 have hlow:∀ j:Nat,1 ≤ j → (j:Int) < p.nod 0 → M'.wd 0 j = M.wd 0 j:=fun j a b => by
  rw [hw,if_neg]
  have:=(sd_ne hp hn hn).2.2.2
  omega
 obtain ⟨k1,k2⟩:=low_keep hp h0 h1 hlow
 refine ⟨h.fl.of hG ?_ fun m hm => ?_,k1 h.rt,h.nd,fun m hm => ?_,fun m hm => ?_,fun i hi => (k2 i hi).trans (h.hz i hi)⟩
 ·rw [hw,if_neg fun e => (sd_ne hp hn hn).1 e.symm]
 ·rw [hw,if_neg fun e => (sd_ne hp hn hm).2.1 e.symm]
 ·by_cases e:m = n
  ·subst e
   rw [hw,if_pos rfl,upS_same]
  ·rw [hw,if_neg fun e2 => e ((sd_ne hp hm hn).2.2.1 e2),upS_other e]
   exact h.st m hm
 ·by_cases e:m = n
  ·subst e
   rw [upS_same]
   exact hs
  ·rw [upS_other e]
   exact h.ok m hm
def goneS (p:Pl) (sf:Int → St) (n:Int):Bool:=decide (((sf n).freed p.g).m = 3)
def freedS (p:Pl) (sf:Int → St) (out:List Int):Int → St:=fun n => if n ∈ out then (sf n).freed p.g else sf n
omit hp h0 h1 in
theorem pushL_cg {g g':Int → Bool}:∀ (l fl:List Int),(∀ n ∈ l,g n = g' n) → pushL g fl l = pushL g' fl l
 | [],_,_ => rfl
 | n :: l,fl,h => by
  unfold pushL
  rw [h n (List.mem_cons_self ..)]
  exact pushL_cg l _ fun m hm => h m (List.mem_cons_of_mem _ hm)
end
def upR (rs:Int → List Int) (t:Int) (l:List Int):Int → List Int:=fun u => if u = t then l else rs u
theorem upR_same (rs:Int → List Int) (t:Int) (l:List Int):upR rs t l t = l:=if_pos rfl
theorem upR_other {rs:Int → List Int} {t u:Int} {l:List Int} (h:u ≠ t):upR rs t l u = rs u:=if_neg h
def upH (hd:Nat → BitVec 64) (i:Nat) (x:BitVec 64):Nat → BitVec 64:=fun j => if j = i then x else hd j
theorem upH_same (hd:Nat → BitVec 64) (i:Nat) (x:BitVec 64):upH hd i x i = x:=if_pos rfl
theorem upH_other {hd:Nat → BitVec 64} {i j:Nat} {x:BitVec 64} (h:j ≠ i):upH hd i x j = hd j:=if_neg h
theorem upH_back (hd:Nat → BitVec 64) (i:Nat) (x y:BitVec 64) (h:hd i = y):upH (upH hd i x) i y = hd:=by
 funext j
 unfold upH
 split
 ·rename_i e;rw [e,h]
 ·rfl
def upF2 (fv:Int → Int → BitVec 64) (n o:Int) (x:BitVec 64):Int → Int → BitVec 64:=fun m q => if m = n ∧ q = o then x else fv m q
theorem upF2_same (fv:Int → Int → BitVec 64) (n o:Int) (x:BitVec 64):upF2 fv n o x n o = x:=if_pos ⟨rfl,rfl⟩
theorem upF2_other {fv:Int → Int → BitVec 64} {n o m q:Int} {x:BitVec 64} (h:¬ (m = n ∧ q = o)):upF2 fv n o x m q = fv m q:=if_neg h
def wipeF (fv:Int → Int → BitVec 64) (out:List Int):Int → Int → BitVec 64:=fun n o => if n ∈ out then 0#64 else fv n o
structure NIn (p:Pl) (M:MS) (fs:List Int) (T:Nat) (rs:Int → List Int) (sf:Int → St) (hd:Nat → BitVec 64) (fv:Int → Int → BitVec 64) (dw:Nat → BitVec 64):Prop where
 fl:FL p M fs T
 rt:∀ t,0 ≤ t → t < p.t → RTs p M t (rs t)
 nr:∀ t,0 ≤ t → t < p.t → (rs t).Nodup
 nf:∀ t,0 ≤ t → t < p.t → ∀ n ∈ rs t,n ∉ fs
 nn:∀ t u,0 ≤ t → t < p.t → 0 ≤ u → u < p.t → t ≠ u → ∀ n ∈ rs t,n ∉ rs u
 st:∀ n,InR p n → M.wd 0 (sdN p n) = (sf n).word
 ok:∀ n,InR p n → (sf n).ok
 hz:∀ i:Nat,(i:Int) < 3 * p.t → hzW p M i = hd i
 fd:∀ n,InR p n → ∀ o,0 ≤ o → o < 3 → M.wd 0 (fdN p n o) = fv n o
 dm:∀ j:Nat,1 ≤ j → (j:Int) < p.dom p.d → M.wd 0 j = dw j
theorem fd_pl {p:Pl} (hp:p.ok) {n o:Int} (hn:InR p n) (h0:0 ≤ o) (h1:o < 3):(fdN p n o:Int) = p.nod 0+n * 5+2+o ∧ (sdN p n:Int) = p.nod 0+n * 5 ∧ (nxN p n:Int) = p.nod 0+n * 5+1 ∧ 1 ≤ p.nod 0 ∧ p.nod 0+n * 5+5 ≤ p.sizeF:=by
 obtain ⟨a1,a2,a3,a4,a5⟩:=node_pl hp hn
 have a:=a3 o h0 h1
 have:=hn.1
 unfold fdN sdN nxN
 refine ⟨by omega,by omega,by omega,a4,a5⟩
theorem lows {p:Pl} (hp:p.ok):1 ≤ p.dom p.d ∧ p.dom p.d ≤ p.nod 0 ∧ p.haz p.t ≤ p.nod 0:=by
 have ht:0 ≤ p.t - 1:=by unfold Pl.ok at hp;omega
 obtain ⟨q1,q2,q3,q4,q5,q6⟩:=thr_pl hp (t:=p.t - 1) ht (by omega)
 have:=haz_size hp (i:=0) (by omega) (by omega)
 have hr:0 ≤ p.r:=by unfold Pl.ok at hp;omega
 refine ⟨by omega,by omega,by omega⟩
section
variable {p:Pl} (hp:p.ok) {M M':MS} {fs fs':List Int} {T T':Nat} {rs:Int → List Int} {sf:Int → St} {hd:Nat → BitVec 64} {fv:Int → Int → BitVec 64} {dw:Nat → BitVec 64}
omit hp in
theorem NIn.ain (h:NIn p M fs T rs sf hd fv dw) {t:Int} (h0:0 ≤ t) (h1:t < p.t):AIn p t M fs (rs t) T sf hd:=
 ⟨h.fl,h.rt t h0 h1,List.nodup_append.2 ⟨h.fl.nd,h.nr t h0 h1,fun _ ha b hb e => h.nf t h0 h1 b hb (e ▸ ha)⟩,h.st,h.ok,h.hz⟩
include hp
theorem NIn.low (h:NIn p M fs T rs sf hd fv dw) (hl:∀ j:Nat,1 ≤ j → (j:Int) < p.nod 0 → M'.wd 0 j = M.wd 0 j) :
  (∀ t,0 ≤ t → t < p.t → RTs p M' t (rs t)) ∧ (∀ i:Nat,(i:Int) < 3 * p.t → hzW p M' i = hd i) ∧ ∀ j:Nat,1 ≤ j → (j:Int) < p.dom p.d → M'.wd 0 j = dw j:=by
 obtain ⟨b1,b2,b3⟩:=lows hp
 exact ⟨fun t h0 h1 => (low_keep hp h0 h1 hl).1 (h.rt t h0 h1),fun i hi => ((low_keep hp (t:=0) (by omega) (by unfold Pl.ok at hp;omega) hl).2 i hi).trans (h.hz i hi),fun j a b => (hl j a (by omega)).trans (h.dm j a b)⟩
theorem NIn.same (h:NIn p M fs T rs sf hd fv dw) (hG:Mg p M') (hs:∀ j,M'.wd 0 j = M.wd 0 j):NIn p M' fs T rs sf hd fv dw:=by
 obtain ⟨k1,k2,k3⟩:=h.low hp (M':=M') fun j _ _ => hs j
 exact ⟨h.fl.same hG hs,k1,h.nr,h.nf,h.nn,fun n hn => (hs _).trans (h.st n hn),h.ok,k2,fun n hn o a b => (hs _).trans (h.fd n hn o a b),k3⟩
theorem NIn.pop {n:Int} (h:NIn p M (n :: fs) T rs sf hd fv dw) (hT:T < 8796093022207) (N:Nat):∃ M',Runs (popT p (N+2)) M 3 M' n ∧ NIn p M' fs (T+1) rs sf hd fv dw:=by
 obtain ⟨M1,r1,r2,_⟩:=pop_some hp h.fl hT N 0
 have r:=runs_of _ _ _ _ _ _ r1
 have hw:∀ j,j ≠ 0 → M1.wd 0 j = M.wd 0 j:=fun j hj => r.only (S:=fun j => j = 0) (only_pop hp (S:=fun j => j = 0) rfl _) j hj
 obtain ⟨k1,k2,k3⟩:=h.low hp (M':=M1) fun j a _ => hw j (by omega)
 exact ⟨M1,r,r2,k1,h.nr,fun t a b m hm hf => h.nf t a b m hm (List.mem_cons_of_mem _ hf),h.nn,fun m hm => (hw _ (sd_ne hp hm hm).1).trans (h.st m hm),h.ok,k2,fun m hm o a b => (hw _ (by have:=fd_pl hp hm a b;have:=hm.1;omega)).trans (h.fd m hm o a b),k3⟩
theorem NIn.pop0 (h:NIn p M [] T rs sf hd fv dw) (N:Nat):∃ M',Runs (popT p (N+1)) M 1 M' (-1) ∧ NIn p M' [] T rs sf hd fv dw:=by
 obtain ⟨M1,r1,r2,_⟩:=pop_none hp h.fl N 0
 have r:=runs_of _ _ _ _ _ _ r1
 have hw:∀ j,j ≠ 0 → M1.wd 0 j = M.wd 0 j:=fun j hj => r.only (S:=fun j => j = 0) (only_pop hp (S:=fun j => j = 0) rfl _) j hj
 obtain ⟨k1,k2,k3⟩:=h.low hp (M':=M1) fun j a _ => hw j (by omega)
 exact ⟨M1,r,r2,k1,h.nr,h.nf,h.nn,fun m hm => (hw _ (sd_ne hp hm hm).1).trans (h.st m hm),h.ok,k2,fun m hm o a b => (hw _ (by have:=fd_pl hp hm a b;have:=hm.1;omega)).trans (h.fd m hm o a b),k3⟩
theorem NIn.bec (h:NIn p M fs T rs sf hd fv dw) {n:Int} (hn:InR p n) {s:St} (hs:s.ok) (hG:Mg p M') (hw:∀ j,M'.wd 0 j = if j = sdN p n then s.word else M.wd 0 j):NIn p M' fs T rs (upS sf n s) hd fv dw:=by
 have ha:=fun t h0 h1 => AIn.bec hp h0 h1 (h.ain (t:=t) h0 h1) hn hs hG hw
 have hsd:=(sd_ne hp hn hn).2.2.2
 have ht0:(0:Int) < p.t:=by unfold Pl.ok at hp;omega
 have a0:=ha 0 (by omega) ht0
 obtain ⟨b1,b2,b3⟩:=lows hp
 exact ⟨a0.fl,fun t h0 h1 => (ha t h0 h1).rt,h.nr,h.nf,h.nn,a0.st,a0.ok,a0.hz,fun m hm o a b => by
  rw [hw,if_neg fun e => by have f1:=fd_pl hp hm a b;have f2:=fd_pl hp hn (o:=0) (by omega) (by omega);have:=hm.1;have:=hn.1;omega]
  exact h.fd m hm o a b,fun j a b => by
  rw [hw,if_neg (by omega)]
  exact h.dm j a b⟩
theorem NIn.fset (h:NIn p M fs T rs sf hd fv dw) {n o:Int} (hn:InR p n) (h0:0 ≤ o) (h1:o < 3) (x:BitVec 64) (hG:Mg p M') (hw:∀ j,M'.wd 0 j = if j = fdN p n o then x else M.wd 0 j):NIn p M' fs T rs sf hd (upF2 fv n o x) dw:=by
 have hf:=fd_pl hp hn h0 h1
 have hn0:=hn.1
 obtain ⟨k1,k2,k3⟩:=h.low hp (M':=M') fun j a b => by rw [hw,if_neg (by omega)]
 refine ⟨h.fl.of hG (by rw [hw,if_neg (by omega)]) fun m hm => ?_,k1,h.nr,h.nf,h.nn,fun m hm => ?_,h.ok,k2,fun m hm q a b => ?_,k3⟩
 ·have g:=fd_pl hp hm (o:=0) (by omega) (by omega)
  have:=hm.1
  rw [hw,if_neg (by omega)]
 ·have g:=fd_pl hp hm (o:=0) (by omega) (by omega)
  have:=hm.1
  rw [hw,if_neg (by omega)]
  exact h.st m hm
 ·have g:=fd_pl hp hm a b
  have:=hm.1
  rw [hw]
  by_cases e:m = n ∧ q = o
  ·rw [if_pos (by rw [e.1,e.2]),e.1,e.2,upF2_same]
  ·rw [if_neg (by omega),upF2_other e]
   exact h.fd m hm q a b
theorem NIn.hset (h:NIn p M fs T rs sf hd fv dw) {i:Nat} (hi:(i:Int) < 3 * p.t) (x:BitVec 64) (hG:Mg p M') (hw:∀ j,M'.wd 0 j = if j = hzN p i then x else M.wd 0 j):NIn p M' fs T rs sf (upH hd i x) fv dw:=by
 obtain ⟨z1,z2⟩:=hz_pl hp hi
 obtain ⟨b1,b2,b3⟩:=lows hp
 have hne:=hz_ne hp hi
 have hdi:p.dom p.d ≤ (hzN p i:Int):=by unfold hzN;omega
 have hnod:∀ j:Nat,p.nod 0 ≤ (j:Int) → M'.wd 0 j = M.wd 0 j:=fun j hj => by rw [hw,if_neg (by omega)]
 have hcnt:∀ j:Nat,p.haz p.t ≤ (j:Int) → M'.wd 0 j = M.wd 0 j:=fun j hj => by rw [hw,if_neg (by omega)]
 refine ⟨h.fl.of hG (by rw [hw,if_neg (by omega)]) fun m hm => hnod _ ?_,fun t h0 h1 => ?_,h.nr,h.nf,h.nn,fun m hm => (hnod _ ?_).trans (h.st m hm),h.ok,fun j hj => ?_,fun m hm o a b => (hnod _ ?_).trans (h.fd m hm o a b),fun j a b => ?_⟩
 ·have g:=fd_pl hp hm (o:=0) (by omega) (by omega)
  have:=hm.1
  omega
 ·obtain ⟨q1,q2,q3,q4,q5,q6⟩:=thr_pl hp h0 h1
  exact (h.rt t h0 h1).of hp h0 h1 fun j a b => hcnt j (by omega)
 ·have g:=fd_pl hp hm (o:=0) (by omega) (by omega)
  have:=hm.1
  omega
 ·show M'.wd 0 (hzN p j) = _
  rw [hw]
  by_cases e:j = i
  ·rw [if_pos (by rw [e]),e,upH_same]
  ·rw [if_neg fun e2 => e (hz_inj e2),upH_other e]
   exact h.hz j hj
 ·have g:=fd_pl hp hm a b
  have:=hm.1
  omega
 ·rw [hw,if_neg (by omega)]
  exact h.dm j a b
theorem NIn.put (h:NIn p M fs T rs sf hd fv dw) {t:Int} (h0:0 ≤ t) (h1:t < p.t) {n:Int} (hn:InR p n) (hnf:n ∉ fs) (hnr:∀ u,0 ≤ u → u < p.t → n ∉ rs u) (hlt:((rs t).length:Int) < p.r) :
  ∃ M',Runs (putT p t n) M 3 M' ((rs t).length+1) ∧ NIn p M' fs T (upR rs t (rs t ++ [n])) sf hd fv dw:=by
 obtain ⟨q1,q2,q3,q4,q5,q6⟩:=thr_pl hp h0 h1
 obtain ⟨M1,r1,g1,t1,f1,w1⟩:=put_more hp h.fl.mg h0 h1 (h.rt t h0 h1) h.fl hn hlt
 obtain ⟨b1,b2,b3⟩:=lows hp
 have hnod:∀ j:Nat,p.nod 0 ≤ (j:Int) → M1.wd 0 j = M.wd 0 j:=fun j hj => w1 j (.inr (by omega))
 refine ⟨M1,r1,f1,fun u u0 u1 => ?_,fun u u0 u1 => ?_,fun u u0 u1 m hm => ?_,fun u v u0 u1 v0 v1 huv m hm => ?_,fun m hm => (hnod _ ?_).trans (h.st m hm),h.ok,fun i hi => ?_,fun m hm o a b => (hnod _ ?_).trans (h.fd m hm o a b),fun j a b => ?_⟩
 ·by_cases e:u = t
  ·subst e
   rw [upR_same]
   exact t1
  ·rw [upR_other e]
   refine (h.rt u u0 u1).of hp u0 u1 fun j a b => w1 j ?_
   rcases Int.lt_or_gt_of_ne e with e | e
   ·have:=thr_two hp e
    exact .inl (by omega)
   ·have:=thr_two hp e
    exact .inr (by omega)
 ·by_cases e:u = t
  ·subst e
   rw [upR_same]
   exact List.nodup_append.2 ⟨h.nr u u0 u1,by simp,fun a ha b hb e => by simp at hb;subst hb;subst e;exact hnr u u0 u1 ha⟩
  ·rw [upR_other e]
   exact h.nr u u0 u1
 ·by_cases e:u = t
  ·subst e
   rw [upR_same] at hm
   rcases List.mem_append.1 hm with hm | hm
   ·exact h.nf u u0 u1 m hm
   ·obtain rfl:=List.mem_singleton.1 hm
    exact hnf
  ·rw [upR_other e] at hm
   exact h.nf u u0 u1 m hm
 ·by_cases e:u = t
  ·subst e
   rw [upR_same] at hm
   rw [upR_other fun e => huv e.symm]
   rcases List.mem_append.1 hm with hm | hm
   ·exact h.nn u v u0 u1 v0 v1 huv m hm
   ·obtain rfl:=List.mem_singleton.1 hm
    exact hnr v v0 v1
  ·rw [upR_other e] at hm
   by_cases e2:v = t
   ·subst e2
    rw [upR_same]
    intro h9
    rcases List.mem_append.1 h9 with h9 | h9
    ·exact h.nn u v u0 u1 v0 v1 huv m hm h9
    ·obtain rfl:=List.mem_singleton.1 h9
     exact hnr u u0 u1 hm
   ·rw [upR_other e2]
    exact h.nn u v u0 u1 v0 v1 huv m hm
 ·have g:=fd_pl hp hm (o:=0) (by omega) (by omega)
  have:=hm.1
  omega
 ·obtain ⟨c1,c2⟩:=hz_pl hp hi
  exact (w1 (hzN p i) (.inl (by omega))).trans (h.hz i hi)
 ·have g:=fd_pl hp hm a b
  have:=hm.1
  omega
 ·refine (w1 j (.inl ?_)).trans (h.dm j a b)
  have hz:=haz_size hp (i:=3 * p.t - 1) (by omega) (by omega)
  have:=(hz_pl hp (i:=0) (by omega)).2
  unfold hzN at this
  omega
theorem NIn.put0 (h:NIn p M fs T rs sf hd fv dw) {t:Int} (h0:0 ≤ t) (h1:t < p.t) {n:Int} (hn:InR p n) (hlt:((rs t).length:Int) = p.r) :
  ∃ M',Runs (putT p t n) M 1 M' (-1) ∧ NIn p M' fs T rs sf hd fv dw:=by
 have hpr:=put_run hp h.fl.mg h0 h1 (h.rt t h0 h1) hn
 rw [if_pos hlt] at hpr
 obtain ⟨M1,r1,g1,w1⟩:=hpr
 exact ⟨M1,r1,h.same hp g1 w1⟩
theorem NIn.scan (h:NIn p M fs T rs sf hd fv dw) {t:Int} (h0:0 ≤ t) (h1:t < p.t) (hT:T ≤ 2000000) {rt' out:List Int} (e1:scanP (hldB p hd) (rs t).length (rs t) [] = (rt',out)) :
  ∃ M' T' s,Runs (scanT p t 2) M s M' (((rs t).length:Int) - (rt'.length:Int)) ∧ s ≤ 1+60 * (rs t).length ∧ T' ≤ T+(rs t).length ∧
   NIn p M' (pushL (goneS p sf) fs out) T' (upR rs t rt') (freedS p sf out) hd (wipeF fv out) dw:=by
 obtain ⟨q1,q2,q3,q4,q5,q6⟩:=thr_pl hp h0 h1
 have hr:p.r ≤ 1024:=by unfold Pl.ok at hp;omega
 have hA:=h.ain h0 h1
 have hlr:=hA.rt.len
 have hn:(rs t).Nodup:=h.nr t h0 h1
 have hnf:=h.nf t h0 h1
 obtain ⟨M',T',s,r2,hs,S2⟩ : ∃ M' T' s,Runs (scanT p t 2) M s M' (((rs t).length:Int) - ((scanP (hldB p hd) (rs t).length (rs t) []).1.length:Int)) ∧ s ≤ 1+60 * (rs t).length ∧ ScIn p t M fs T hd M' (scanP (hldB p hd) (rs t).length (rs t) []).1 (scanP (hldB p hd) (rs t).length (rs t) []).2 T':=by
  have r1:=Runs.get h.fl.mg (at_:=p.cntF t) (by omega) (by omega)
  have hcw:M.wd 0 (p.cntF t).toNat = cntW (rs t).length:=hA.rt.cn
  rw [hcw] at r1
  have S0:ScIn p t M fs T hd M (rs t) [] T:=⟨h.fl.mg,hA.rt,h.fl,by simpa using hn,hnf,by simp,fun _ _ _ => rfl,fun n hn => by simp at hn,h.hz,fun _ _ _ _ => rfl,fun _ _ _ _ _ _ => rfl⟩
  have S1:=S0.same hp h0 h1 (h.fl.mg.done 0 0 (p.cntF t) 0#64 0#64) (wd_load M _ _ _)
  obtain ⟨M',T',s,r2,hs,S2⟩:=scn_run hp h0 h1 hT 0 (rs t).length _ (rs t) [] T ((rs t).length:Int) S1 (Nat.le_refl _) (by simp;omega)
  refine ⟨M',T',1+s,?_,by omega,S2⟩
  unfold scanT
  refine Runs.bind r1 ?_
  unfold sc1T
  rw [cntR_cntW (by omega) hlr hr]
  exact r2
 have hlen:=scanP_len (hldB p hd) (rs t).length (rs t) [] (Nat.le_refl _)
 have hperm:=scanP_perm (hldB p hd) (rs t).length (rs t) [] (Nat.le_refl _)
 rw [e1] at S2 r2 hlen hperm
 rw [List.append_nil] at hperm
 have hgo:∀ n,InR p n → goneB p M n = goneS p sf n:=fun n hn => by
  unfold goneB goneS nst
  rw [hA.of_st hn]
 have hl2:∀ n ∈ out,InR p n:=fun n hn => (S2.dn n hn).1
 have hpl:pushL (goneB p M) fs out = pushL (goneS p sf) fs out:=pushL_cg out fs fun n hn => hgo n (hl2 n hn)
 have hfl:=S2.fl
 rw [hpl] at hfl
 have hsub:∀ (g:Int → Bool) (out fl:List Int) (n:Int),n ∈ pushL g fl out → n ∈ fl ∨ n ∈ out:=by
  intro g out
  induction out with
  | nil => intro fl n hx;exact .inl hx
  | cons m out ih =>
   intro fl n hx
   rcases ih _ n hx with h2 | h2
   ·by_cases hg:g m = true
    ·rw [if_pos hg] at h2
     exact .inl h2
    ·rw [if_neg hg] at h2
     rcases List.mem_cons.1 h2 with rfl | h2
     ·exact .inr (by simp)
     ·exact .inl h2
   ·exact .inr (by simp [h2])
 have hin:∀ n,n ∈ rt' ∨ n ∈ out → n ∈ rs t:=fun n hx => hperm.mem_iff.1 (List.mem_append.2 hx)
 have hlow:∀ u,0 ≤ u → u < p.t → u ≠ t → RTs p M' u (rs u):=fun u u0 u1 e => by
  refine (h.rt u u0 u1).of hp u0 u1 fun j a b => ?_
  obtain ⟨k1,k2,k3,k4,k5,k6⟩:=thr_pl hp u0 u1
  refine S2.ot j (by omega) (by omega) ?_
  rcases Int.lt_or_gt_of_ne e with e | e
  ·have:=thr_two hp e
   exact .inl (by omega)
  ·have:=thr_two hp e
   exact .inr (by omega)
 refine ⟨M',T',s,r2,hs,?_,hfl,fun u u0 u1 => ?_,fun u u0 u1 => ?_,fun u u0 u1 m hm => ?_,fun u v u0 u1 v0 v1 huv m hm => ?_,fun n hn => ?_,fun n hn => ?_,S2.hz,fun n hn o a b => ?_,fun j a b => ?_⟩
 ·have:=S2.tt
  simp only [List.length_nil,Nat.add_zero] at hlen this
  omega
 ·by_cases e:u = t
  ·subst e
   rw [upR_same]
   exact S2.rt
  ·rw [upR_other e]
   exact hlow u u0 u1 e
 ·by_cases e:u = t
  ·subst e
   rw [upR_same]
   exact (List.nodup_append.1 S2.nd).1
  ·rw [upR_other e]
   exact h.nr u u0 u1
 ·by_cases e:u = t
  ·subst e
   rw [upR_same] at hm
   have:=S2.nf m hm
   rw [hpl] at this
   exact this
  ·rw [upR_other e] at hm
   intro hx
   rcases hsub _ _ _ _ hx with hx | hx
   ·exact h.nf u u0 u1 m hm hx
   ·exact h.nn u t u0 u1 h0 h1 e m hm (hin m (.inr hx))
 ·by_cases e:u = t
  ·subst e
   rw [upR_same] at hm
   rw [upR_other fun e => huv e.symm]
   exact h.nn u v u0 u1 v0 v1 huv m (hin m (.inl hm))
  ·rw [upR_other e] at hm
   by_cases e2:v = t
   ·subst e2
    rw [upR_same]
    exact fun h9 => h.nn u v u0 u1 v0 v1 huv m hm (hin m (.inl h9))
   ·rw [upR_other e2]
    exact h.nn u v u0 u1 v0 v1 huv m hm
 ·unfold freedS
  by_cases hm:n ∈ out
  ·rw [if_pos hm,(S2.dn n hm).2.1]
   unfold nst
   rw [hA.of_st hn]
  ·rw [if_neg hm,S2.st n hn hm]
   exact h.st n hn
 ·unfold freedS
  by_cases hm:n ∈ out
  ·rw [if_pos hm]
   exact freed_ok hp (h.ok n hn)
  ·rw [if_neg hm]
   exact h.ok n hn
 ·unfold wipeF
  by_cases hm:n ∈ out
  ·rw [if_pos hm]
   exact (S2.dn n hm).2.2 o a b
  ·rw [if_neg hm,S2.fd n hn hm o a b]
   exact h.fd n hn o a b
 ·refine (S2.ot j a ?_ (.inl ?_)).trans (h.dm j a b)
  ·have:=(lows hp).2.1
   omega
  ·have:=(hz_pl hp (i:=0) (by omega)).2
   unfold hzN at this
   omega
end
def put8 (b:Nat) (x0 x1 x2 x3 x4 x5 x6 x7:Value) (w:World):World:=
 ((((((((w.setCell ⟨b,0,none⟩ x0).setCell ⟨b,1,none⟩ x1).setCell ⟨b,2,none⟩ x2).setCell ⟨b,3,none⟩ x3).setCell ⟨b,4,none⟩ x4).setCell ⟨b,5,none⟩ x5).setCell ⟨b,6,none⟩ x6).setCell ⟨b,7,none⟩ x7)
theorem put8_ext {u w:World} {b:Nat} (x0 x1 x2 x3 x4 x5 x6 x7:Value) (h:Ext u w) (hb:u.heap.size ≤ b):Ext u (put8 b x0 x1 x2 x3 x4 x5 x6 x7 w):=
 ext_set _ hb (ext_set _ hb (ext_set _ hb (ext_set _ hb (ext_set _ hb (ext_set _ hb (ext_set _ hb (ext_set _ hb (h))))))))
theorem put8_block {w:World} {b:Nat} {c0 c1 c2 c3 c4 c5 c6 c7:Value} {t:TypeId} {f:Nat × Nat} (x0 x1 x2 x3 x4 x5 x6 x7:Value) (h:w.heap[b]? = some (.cells #[c0,c1,c2,c3,c4,c5,c6,c7] t f)) :
  (put8 b x0 x1 x2 x3 x4 x5 x6 x7 w).heap[b]? = some (.cells #[x0,x1,x2,x3,x4,x5,x6,x7] t f):=by
 have h0:=set_same (o:=0) x0 h
 have h1:=set_same (o:=1) x1 h0
 have h2:=set_same (o:=2) x2 h1
 have h3:=set_same (o:=3) x3 h2
 have h4:=set_same (o:=4) x4 h3
 have h5:=set_same (o:=5) x5 h4
 have h6:=set_same (o:=6) x6 h5
 have h7:=set_same (o:=7) x7 h6
 unfold put8
 rw [h7]
 simp only [List.setIfInBounds_toArray,List.set_cons_zero,List.set_cons_succ]
theorem put8_other {w:World} {b k:Nat} (x0 x1 x2 x3 x4 x5 x6 x7:Value) (h:k ≠ b):(put8 b x0 x1 x2 x3 x4 x5 x6 x7 w).heap[k]? = w.heap[k]?:=by
 unfold put8
 rw [set_other _ h,set_other _ h,set_other _ h,set_other _ h,set_other _ h,set_other _ h,set_other _ h,set_other _ h]
theorem put8_size {w:World} {b:Nat} (x0 x1 x2 x3 x4 x5 x6 x7:Value):(put8 b x0 x1 x2 x3 x4 x5 x6 x7 w).heap.size = w.heap.size:=by
 unfold put8
 rw [set_size,set_size,set_size,set_size,set_size,set_size,set_size,set_size]
theorem put8_frNew {lo hi:Nat} {a w:World} {b:Nat} (x0 x1 x2 x3 x4 x5 x6 x7:Value) (h:Fr lo hi a w) (hb:a.heap.size ≤ b):Fr lo hi a (put8 b x0 x1 x2 x3 x4 x5 x6 x7 w):=
 ((((((((h.setNew (p:=⟨b,0,none⟩) x0 hb).setNew (p:=⟨b,1,none⟩) x1 hb).setNew (p:=⟨b,2,none⟩) x2 hb).setNew (p:=⟨b,3,none⟩) x3 hb).setNew (p:=⟨b,4,none⟩) x4 hb).setNew (p:=⟨b,5,none⟩) x5 hb).setNew (p:=⟨b,6,none⟩) x6 hb).setNew (p:=⟨b,7,none⟩) x7 hb)
theorem put8_mem {lo hi:Nat} {L:Lay} {M:MS} {w:World} {b:Nat} (x0 x1 x2 x3 x4 x5 x6 x7:Value) (h:MemIn lo hi L M w) (hb:hi ≤ b):MemIn lo hi L M (put8 b x0 x1 x2 x3 x4 x5 x6 x7 w):=
 ((((((((h.setFar (p:=⟨b,0,none⟩) x0 (.inr hb)).setFar (p:=⟨b,1,none⟩) x1 (.inr hb)).setFar (p:=⟨b,2,none⟩) x2 (.inr hb)).setFar (p:=⟨b,3,none⟩) x3 (.inr hb)).setFar (p:=⟨b,4,none⟩) x4 (.inr hb)).setFar (p:=⟨b,5,none⟩) x5 (.inr hb)).setFar (p:=⟨b,6,none⟩) x6 (.inr hb)).setFar (p:=⟨b,7,none⟩) x7 (.inr hb))
theorem Agr.of_put8 {F:Nat → Prop} {w:World} {b:Nat} (x0 x1 x2 x3 x4 x5 x6 x7:Value) (hn:¬ F b):Agr F w (put8 b x0 x1 x2 x3 x4 x5 x6 x7 w):=fun _ hj => put8_other _ _ _ _ _ _ _ _ fun e => hn (e ▸ hj)
structure Ein (b:Nat) (x0 x1 x2 x3 x4 x5 x6 x7:Value) (w:World):Prop where
 c0:w.cell? ⟨b,0,none⟩ = some x0
 c1:w.cell? ⟨b,1,none⟩ = some x1
 c2:w.cell? ⟨b,2,none⟩ = some x2
 c3:w.cell? ⟨b,3,none⟩ = some x3
 c4:w.cell? ⟨b,4,none⟩ = some x4
 c5:w.cell? ⟨b,5,none⟩ = some x5
 c6:w.cell? ⟨b,6,none⟩ = some x6
 c7:w.cell? ⟨b,7,none⟩ = some x7
 cz:∀ o,w.frozen? ⟨b,o,none⟩ = false
 lt:b < w.heap.size
theorem eit_of {w:World} {b:Nat} {x0 x1 x2 x3 x4 x5 x6 x7:Value} {t:TypeId} (h:w.heap[b]? = some (.cells #[x0,x1,x2,x3,x4,x5,x6,x7] t (0,0))):Ein b x0 x1 x2 x3 x4 x5 x6 x7 w:=
 ⟨cell_at h rfl,cell_at h rfl,cell_at h rfl,cell_at h rfl,cell_at h rfl,cell_at h rfl,cell_at h rfl,cell_at h rfl,fun _ => free_at h,(Array.getElem?_eq_some_iff.1 h).1⟩
def put2 (b:Nat) (x0 x1:Value) (w:World):World:=
 ((w.setCell ⟨b,0,none⟩ x0).setCell ⟨b,1,none⟩ x1)
theorem put2_ext {u w:World} {b:Nat} (x0 x1:Value) (h:Ext u w) (hb:u.heap.size ≤ b):Ext u (put2 b x0 x1 w):=
 ext_set _ hb (ext_set _ hb (h))
theorem put2_block {w:World} {b:Nat} {c0 c1:Value} {t:TypeId} {f:Nat × Nat} (x0 x1:Value) (h:w.heap[b]? = some (.cells #[c0,c1] t f)) :
  (put2 b x0 x1 w).heap[b]? = some (.cells #[x0,x1] t f):=by
 have h0:=set_same (o:=0) x0 h
 have h1:=set_same (o:=1) x1 h0
 unfold put2
 rw [h1]
 simp only [List.setIfInBounds_toArray,List.set_cons_zero,List.set_cons_succ]
theorem put2_size {w:World} {b:Nat} (x0 x1:Value):(put2 b x0 x1 w).heap.size = w.heap.size:=by
 unfold put2
 rw [set_size,set_size]
theorem put2_frNew {lo hi:Nat} {a w:World} {b:Nat} (x0 x1:Value) (h:Fr lo hi a w) (hb:a.heap.size ≤ b):Fr lo hi a (put2 b x0 x1 w):=
 ((h.setNew (p:=⟨b,0,none⟩) x0 hb).setNew (p:=⟨b,1,none⟩) x1 hb)
theorem put2_mem {lo hi:Nat} {L:Lay} {M:MS} {w:World} {b:Nat} (x0 x1:Value) (h:MemIn lo hi L M w) (hb:hi ≤ b):MemIn lo hi L M (put2 b x0 x1 w):=
 ((h.setFar (p:=⟨b,0,none⟩) x0 (.inr hb)).setFar (p:=⟨b,1,none⟩) x1 (.inr hb))
structure Rz where
 e:Int
 v:BitVec 64
abbrev rzV (r:Rz):Value:=.agg #[.int .i64 r.e,.int .u64 (U r.v)]
def vS2 (r:Value) (a:Acc) (fn:Value):Value:=.agg #[at3 0 r,at3 1 r,.int .i64 a.op,.int .i64 a.at_,.int .u64 (U a.a),.int .u64 (U a.b),fn,.pointer none]
def kR:Kd Rz:=⟨vS2,.agg #[.int .i64 0,.int .u64 0],rzV⟩
end Go.Proofs.YthjklbonebnekaaGreat

