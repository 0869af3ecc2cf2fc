/-
  What the law's awake comes to; runs of Pop and Push, as calls. Conditions: those of each theorem.
-/
import Derived.Test.YthjklbonebnekaaGreatGac
import Derived.Test.YthjklbonebnekaaGreatGal
import Derived.Test.YthjklbonebnekaaGreatGan
import Derived.Test.YthjklbonebnekaaGreatGao
import Derived.Test.YthjklbonebnekaaGreatGaq
import Derived.Test.YthjklbonebnekaaGreatGat
import Derived.Test.YthjklbonebnekaaGreatGau
import Derived.Test.YthjklbonebnekaaGreatGax
import Derived.Test.YthjklbonebnekaaGreatGaz
import Derived.Deep.Cut
set_option maxRecDepth 8000
set_option maxHeartbeats 4000000
namespace Go.Proofs.YthjklbonebnekaaGreat
open Go Go.RowKit
theorem p2ok:Pl.ok ⟨2,1,4,0,1,1⟩:=by unfold Pl.ok;decide
theorem zer_low {p:Pl} (hp:p.ok) {M:MS} (hz:Zer p M):∀ j:Nat,1 ≤ j → (j:Int) < p.nod 0 → M.wd 0 j = 0#64:=fun j h0 h1 => hz j (by omega) fun m hm => by
 obtain ⟨_,h2,_,_,_⟩:=node_pl hp hm
 have:=hm.1
 unfold nxN
 omega
theorem low_rts {p:Pl} (hp:p.ok) {M:MS} (hz:∀ j:Nat,1 ≤ j → (j:Int) < p.nod 0 → M.wd 0 j = 0#64) {t:Int} (h0:0 ≤ t) (h1:t < p.t):RTs p M t []:=by
 obtain ⟨q1,q2,q3,q4,q5,q6⟩:=thr_pl hp h0 h1
 have hr:1 ≤ p.r:=by unfold Pl.ok at hp;omega
 refine ⟨by simp;omega,?_,fun i hi => by simp at hi,fun n hn => by simp at hn⟩
 rw [hz _ (by unfold cnN;omega) (by unfold cnN;omega)]
 exact nameH_none.symm
theorem low_hz {p:Pl} (hp:p.ok) {M:MS} (hz:∀ j:Nat,1 ≤ j → (j:Int) < p.nod 0 → M.wd 0 j = 0#64) {i:Nat} (h:(i:Int) < 3 * p.t):hzW p M i = 0#64:=by
 have h1:=hz_pl hp h
 obtain ⟨q1,q2,q3,q4,q5,q6⟩:=thr_pl hp (t:=0) (by omega) (by have:=hp.2.1;omega)
 have hr:1 ≤ p.r:=by unfold Pl.ok at hp;omega
 exact hz _ h1.1 (by omega)
def upS (sf:Int → St) (n:Int) (s:St):Int → St:=fun m => if m = n then s else sf m
theorem upS_same (sf:Int → St) (n:Int) (s:St):upS sf n s n = s:=if_pos rfl
theorem upS_other {sf:Int → St} {n m:Int} {s:St} (h:m ≠ n):upS sf n s m = sf m:=if_neg h
structure AIn (p:Pl) (t:Int) (M:MS) (fs rs:List Int) (T:Nat) (sf:Int → St) (hd:Nat → BitVec 64):Prop where
 fl:FL p M fs T
 rt:RTs p M t rs
 nd:(fs ++ rs).Nodup
 st:∀ n,InR p n → M.wd 0 (sdN p n) = (sf n).word
 ok:∀ n,InR p n → (sf n).ok
 hz:∀ i:Nat,(i:Int) < 3 * p.t → hzW p M i = hd i
theorem sd_ne {p:Pl} (hp:p.ok) {n m:Int} (hn:InR p n) (hm:InR p m):sdN p n ≠ 0 ∧ sdN p n ≠ nxN p m ∧ (sdN p n = sdN p m → n = m) ∧ p.nod 0 ≤ sdN p n:=by
 obtain ⟨a1,a2,_,a4,a5⟩:=node_pl hp hn
 obtain ⟨b1,b2,_,b4,b5⟩:=node_pl hp hm
 have:=hn.1
 have:=hm.1
 unfold sdN nxN
 refine ⟨by omega,by omega,fun h => by omega,by omega⟩
theorem low_keep {p:Pl} (hp:p.ok) {t:Int} (h0:0 ≤ t) (h1:t < p.t) {M M':MS} (hl:∀ j:Nat,1 ≤ j → (j:Int) < p.nod 0 → M'.wd 0 j = M.wd 0 j) :
  (∀ {l:List Int},RTs p M t l → RTs p M' t l) ∧ ∀ i:Nat,(i:Int) < 3 * p.t → hzW p M' i = hzW p M i:=by
 obtain ⟨q1,q2,q3,q4,q5,q6⟩:=thr_pl hp h0 h1
 have hr:4 ≤ p.r:=by unfold Pl.ok at hp;omega
 refine ⟨fun h => h.of hp h0 h1 fun j a b => hl j (by omega) (by omega),fun i hi => ?_⟩
 obtain ⟨b1,b2⟩:=hz_pl hp hi
 exact hl _ b1 (by omega)
theorem bec_run {p:Pl} (hp:p.ok) {M:MS} (hG:Mg p M) {n:Int} (hn:InR p n) (f:St → St) {s:St} (hs:ofS (M.wd 0 (sdN p n)) = s) :
  ∃ M',Runs (becT p n f) M 2 M' (f s) ∧ Mg p M' ∧ ∀ j,M'.wd 0 j = if j = sdN p n then (f s).word else M.wd 0 j:=by
 obtain ⟨a1,a2,_,a4,a5⟩:=node_pl hp hn
 have hn0:=hn.1
 have r1:=Runs.get hG (at_:=p.stF n) (by omega) (by omega)
 have g1:=hG.done 0 0 (p.stF n) 0#64 0#64
 have r2:=Runs.set g1 (at_:=p.stF n) (f s).word (by omega) (by omega)
 refine ⟨_,?_,g1.done 0 1 (p.stF n) (f s).word 0#64,fun j => ?_⟩
 ·unfold becT
  refine Runs.bind (k1:=1) (k2:=1) r1 ?_
  unfold bec1T
  have e:M.wd 0 (p.stF n).toNat = M.wd 0 (sdN p n):=rfl
  rw [e,hs]
  exact Runs.bind (k1:=1) (k2:=0) r2 (Runs.done _ _)
 ·rw [wd_store,wd_load]
  rfl
theorem AIn.of_st {p:Pl} {t:Int} {M:MS} {fl rt:List Int} {T:Nat} {sf:Int → St} {hd:Nat → BitVec 64} (h:AIn p t M fl rt T sf hd) {n:Int} (hn:InR p n):ofS (M.wd 0 (sdN p n)) = sf n:=by
 rw [h.st n hn]
 exact (isW_word _ (h.ok n hn)).2
theorem liveF_ok {s:St} (h:s.ok) {kd:Int} (hk:0 ≤ kd ∧ kd ≤ 2):(liveF kd s).ok:=by
 unfold St.ok at h
 unfold liveF St.ok
 simp only
 omega
section
variable {p:Pl} {t:Int} (hp:p.ok) (h0:0 ≤ t) (h1:t < p.t)
include hp h0 h1
theorem AIn.bec {M M':MS} {fl rt:List Int} {T:Nat} {sf:Int → St} {hd:Nat → BitVec 64} (h:AIn p t M fl rt T sf hd) {n:Int} (hn:InR p n) {s:St} (hs:s.ok) (hG:Mg p M') (hw:∀ j,M'.wd 0 j = if j = sdN p n then s.word else M.wd 0 j):AIn p t M' fl rt T (upS sf n s) hd:=by
 have hlow:∀ j:Nat,1 ≤ j → (j:Int) < p.nod 0 → M'.wd 0 j = M.wd 0 j:=fun j a b => by
  rw [hw,if_neg]
  have:=(sd_ne hp hn hn).2.2.2
  omega
 obtain ⟨k1,k2⟩:=low_keep hp h0 h1 hlow
 refine ⟨h.fl.of hG ?_ fun m hm => ?_,k1 h.rt,h.nd,fun m hm => ?_,fun m hm => ?_,fun i hi => (k2 i hi).trans (h.hz i hi)⟩
 ·rw [hw,if_neg fun e => (sd_ne hp hn hn).1 e.symm]
 ·rw [hw,if_neg fun e => (sd_ne hp hn hm).2.1 e.symm]
 ·by_cases e:m = n
  ·subst e
   rw [hw,if_pos rfl,upS_same]
  ·rw [hw,if_neg fun e2 => e ((sd_ne hp hm hn).2.2.1 e2),upS_other e]
   exact h.st m hm
 ·by_cases e:m = n
  ·subst e
   rw [upS_same]
   exact hs
  ·rw [upS_other e]
   exact h.ok m hm
end
def upH (hd:Nat → BitVec 64) (i:Nat) (x:BitVec 64):Nat → BitVec 64:=fun j => if j = i then x else hd j
theorem upH_same (hd:Nat → BitVec 64) (i:Nat) (x:BitVec 64):upH hd i x i = x:=if_pos rfl
theorem upH_other {hd:Nat → BitVec 64} {i j:Nat} {x:BitVec 64} (h:j ≠ i):upH hd i x j = hd j:=if_neg h
theorem upH_back (hd:Nat → BitVec 64) (i:Nat) (x y:BitVec 64) (h:hd i = y):upH (upH hd i x) i y = hd:=by
 funext j
 unfold upH
 split
 ·rename_i e;rw [e,h]
 ·rfl
def upF2 (fv:Int → Int → BitVec 64) (n o:Int) (x:BitVec 64):Int → Int → BitVec 64:=fun m q => if m = n ∧ q = o then x else fv m q
theorem upF2_same (fv:Int → Int → BitVec 64) (n o:Int) (x:BitVec 64):upF2 fv n o x n o = x:=if_pos ⟨rfl,rfl⟩
theorem upF2_other {fv:Int → Int → BitVec 64} {n o m q:Int} {x:BitVec 64} (h:¬ (m = n ∧ q = o)):upF2 fv n o x m q = fv m q:=if_neg h
structure NIn (p:Pl) (M:MS) (fs:List Int) (T:Nat) (rs:Int → List Int) (sf:Int → St) (hd:Nat → BitVec 64) (fv:Int → Int → BitVec 64) (dw:Nat → BitVec 64):Prop where
 fl:FL p M fs T
 rt:∀ t,0 ≤ t → t < p.t → RTs p M t (rs t)
 nr:∀ t,0 ≤ t → t < p.t → (rs t).Nodup
 nf:∀ t,0 ≤ t → t < p.t → ∀ n ∈ rs t,n ∉ fs
 nn:∀ t u,0 ≤ t → t < p.t → 0 ≤ u → u < p.t → t ≠ u → ∀ n ∈ rs t,n ∉ rs u
 st:∀ n,InR p n → M.wd 0 (sdN p n) = (sf n).word
 ok:∀ n,InR p n → (sf n).ok
 hz:∀ i:Nat,(i:Int) < 3 * p.t → hzW p M i = hd i
 fd:∀ n,InR p n → ∀ o,0 ≤ o → o < 3 → M.wd 0 (fdN p n o) = fv n o
 dm:∀ j:Nat,1 ≤ j → (j:Int) < p.dom p.d → M.wd 0 j = dw j
theorem fd_pl {p:Pl} (hp:p.ok) {n o:Int} (hn:InR p n) (h0:0 ≤ o) (h1:o < 3):(fdN p n o:Int) = p.nod 0+n * 5+2+o ∧ (sdN p n:Int) = p.nod 0+n * 5 ∧ (nxN p n:Int) = p.nod 0+n * 5+1 ∧ 1 ≤ p.nod 0 ∧ p.nod 0+n * 5+5 ≤ p.sizeF:=by
 obtain ⟨a1,a2,a3,a4,a5⟩:=node_pl hp hn
 have a:=a3 o h0 h1
 have:=hn.1
 unfold fdN sdN nxN
 refine ⟨by omega,by omega,by omega,a4,a5⟩
theorem lows {p:Pl} (hp:p.ok):1 ≤ p.dom p.d ∧ p.dom p.d ≤ p.nod 0 ∧ p.haz p.t ≤ p.nod 0:=by
 have ht:0 ≤ p.t - 1:=by unfold Pl.ok at hp;omega
 obtain ⟨q1,q2,q3,q4,q5,q6⟩:=thr_pl hp (t:=p.t - 1) ht (by omega)
 have:=haz_size hp (i:=0) (by omega) (by omega)
 have hr:0 ≤ p.r:=by unfold Pl.ok at hp;omega
 refine ⟨by omega,by omega,by omega⟩
section
variable {p:Pl} (hp:p.ok) {M M':MS} {fs fs':List Int} {T T':Nat} {rs:Int → List Int} {sf:Int → St} {hd:Nat → BitVec 64} {fv:Int → Int → BitVec 64} {dw:Nat → BitVec 64}
omit hp in
theorem NIn.ain (h:NIn p M fs T rs sf hd fv dw) {t:Int} (h0:0 ≤ t) (h1:t < p.t):AIn p t M fs (rs t) T sf hd:=
 ⟨h.fl,h.rt t h0 h1,List.nodup_append.2 ⟨h.fl.nd,h.nr t h0 h1,fun _ ha b hb e => h.nf t h0 h1 b hb (e ▸ ha)⟩,h.st,h.ok,h.hz⟩
include hp
theorem NIn.low (h:NIn p M fs T rs sf hd fv dw) (hl:∀ j:Nat,1 ≤ j → (j:Int) < p.nod 0 → M'.wd 0 j = M.wd 0 j) :
  (∀ t,0 ≤ t → t < p.t → RTs p M' t (rs t)) ∧ (∀ i:Nat,(i:Int) < 3 * p.t → hzW p M' i = hd i) ∧ ∀ j:Nat,1 ≤ j → (j:Int) < p.dom p.d → M'.wd 0 j = dw j:=by
 obtain ⟨b1,b2,b3⟩:=lows hp
 exact ⟨fun t h0 h1 => (low_keep hp h0 h1 hl).1 (h.rt t h0 h1),fun i hi => ((low_keep hp (t:=0) (by omega) (by unfold Pl.ok at hp;omega) hl).2 i hi).trans (h.hz i hi),fun j a b => (hl j a (by omega)).trans (h.dm j a b)⟩
theorem NIn.same (h:NIn p M fs T rs sf hd fv dw) (hG:Mg p M') (hs:∀ j,M'.wd 0 j = M.wd 0 j):NIn p M' fs T rs sf hd fv dw:=by
 obtain ⟨k1,k2,k3⟩:=h.low hp (M':=M') fun j _ _ => hs j
 exact ⟨h.fl.same hG hs,k1,h.nr,h.nf,h.nn,fun n hn => (hs _).trans (h.st n hn),h.ok,k2,fun n hn o a b => (hs _).trans (h.fd n hn o a b),k3⟩
theorem NIn.pop {n:Int} (h:NIn p M (n :: fs) T rs sf hd fv dw) (hT:T < 8796093022207) (N:Nat):∃ M',Runs (popT p (N+2)) M 3 M' n ∧ NIn p M' fs (T+1) rs sf hd fv dw:=by
 obtain ⟨M1,r1,r2,_⟩:=pop_some hp h.fl hT N 0
 have r:=runs_of _ _ _ _ _ _ r1
 have hw:∀ j,j ≠ 0 → M1.wd 0 j = M.wd 0 j:=fun j hj => r.only (S:=fun j => j = 0) (only_pop hp (S:=fun j => j = 0) rfl _) j hj
 obtain ⟨k1,k2,k3⟩:=h.low hp (M':=M1) fun j a _ => hw j (by omega)
 exact ⟨M1,r,r2,k1,h.nr,fun t a b m hm hf => h.nf t a b m hm (List.mem_cons_of_mem _ hf),h.nn,fun m hm => (hw _ (sd_ne hp hm hm).1).trans (h.st m hm),h.ok,k2,fun m hm o a b => (hw _ (by have:=fd_pl hp hm a b;have:=hm.1;omega)).trans (h.fd m hm o a b),k3⟩
theorem NIn.bec (h:NIn p M fs T rs sf hd fv dw) {n:Int} (hn:InR p n) {s:St} (hs:s.ok) (hG:Mg p M') (hw:∀ j,M'.wd 0 j = if j = sdN p n then s.word else M.wd 0 j):NIn p M' fs T rs (upS sf n s) hd fv dw:=by
 have ha:=fun t h0 h1 => AIn.bec hp h0 h1 (h.ain (t:=t) h0 h1) hn hs hG hw
 have hsd:=(sd_ne hp hn hn).2.2.2
 have ht0:(0:Int) < p.t:=by unfold Pl.ok at hp;omega
 have a0:=ha 0 (by omega) ht0
 obtain ⟨b1,b2,b3⟩:=lows hp
 exact ⟨a0.fl,fun t h0 h1 => (ha t h0 h1).rt,h.nr,h.nf,h.nn,a0.st,a0.ok,a0.hz,fun m hm o a b => by
  rw [hw,if_neg fun e => by have f1:=fd_pl hp hm a b;have f2:=fd_pl hp hn (o:=0) (by omega) (by omega);have:=hm.1;have:=hn.1;omega]
  exact h.fd m hm o a b,fun j a b => by
  rw [hw,if_neg (by omega)]
  exact h.dm j a b⟩
theorem NIn.fset (h:NIn p M fs T rs sf hd fv dw) {n o:Int} (hn:InR p n) (h0:0 ≤ o) (h1:o < 3) (x:BitVec 64) (hG:Mg p M') (hw:∀ j,M'.wd 0 j = if j = fdN p n o then x else M.wd 0 j):NIn p M' fs T rs sf hd (upF2 fv n o x) dw:=by
 have hf:=fd_pl hp hn h0 h1
 have hn0:=hn.1
 obtain ⟨k1,k2,k3⟩:=h.low hp (M':=M') fun j a b => by rw [hw,if_neg (by omega)]
 refine ⟨h.fl.of hG (by rw [hw,if_neg (by omega)]) fun m hm => ?_,k1,h.nr,h.nf,h.nn,fun m hm => ?_,h.ok,k2,fun m hm q a b => ?_,k3⟩
 ·have g:=fd_pl hp hm (o:=0) (by omega) (by omega)
  have:=hm.1
  rw [hw,if_neg (by omega)]
 ·have g:=fd_pl hp hm (o:=0) (by omega) (by omega)
  have:=hm.1
  rw [hw,if_neg (by omega)]
  exact h.st m hm
 ·have g:=fd_pl hp hm a b
  have:=hm.1
  rw [hw]
  by_cases e:m = n ∧ q = o
  ·rw [if_pos (by rw [e.1,e.2]),e.1,e.2,upF2_same]
  ·rw [if_neg (by omega),upF2_other e]
   exact h.fd m hm q a b
theorem NIn.hset (h:NIn p M fs T rs sf hd fv dw) {i:Nat} (hi:(i:Int) < 3 * p.t) (x:BitVec 64) (hG:Mg p M') (hw:∀ j,M'.wd 0 j = if j = hzN p i then x else M.wd 0 j):NIn p M' fs T rs sf (upH hd i x) fv dw:=by
 obtain ⟨z1,z2⟩:=hz_pl hp hi
 obtain ⟨b1,b2,b3⟩:=lows hp
 have hne:=hz_ne hp hi
 have hdi:p.dom p.d ≤ (hzN p i:Int):=by unfold hzN;omega
 have hnod:∀ j:Nat,p.nod 0 ≤ (j:Int) → M'.wd 0 j = M.wd 0 j:=fun j hj => by rw [hw,if_neg (by omega)]
 have hcnt:∀ j:Nat,p.haz p.t ≤ (j:Int) → M'.wd 0 j = M.wd 0 j:=fun j hj => by rw [hw,if_neg (by omega)]
 refine ⟨h.fl.of hG (by rw [hw,if_neg (by omega)]) fun m hm => hnod _ ?_,fun t h0 h1 => ?_,h.nr,h.nf,h.nn,fun m hm => (hnod _ ?_).trans (h.st m hm),h.ok,fun j hj => ?_,fun m hm o a b => (hnod _ ?_).trans (h.fd m hm o a b),fun j a b => ?_⟩
 ·have g:=fd_pl hp hm (o:=0) (by omega) (by omega)
  have:=hm.1
  omega
 ·obtain ⟨q1,q2,q3,q4,q5,q6⟩:=thr_pl hp h0 h1
  exact (h.rt t h0 h1).of hp h0 h1 fun j a b => hcnt j (by omega)
 ·have g:=fd_pl hp hm (o:=0) (by omega) (by omega)
  have:=hm.1
  omega
 ·show M'.wd 0 (hzN p j) = _
  rw [hw]
  by_cases e:j = i
  ·rw [if_pos (by rw [e]),e,upH_same]
  ·rw [if_neg fun e2 => e (hz_inj e2),upH_other e]
   exact h.hz j hj
 ·have g:=fd_pl hp hm a b
  have:=hm.1
  omega
 ·rw [hw,if_neg (by omega)]
  exact h.dm j a b
end
def put8 (b:Nat) (x0 x1 x2 x3 x4 x5 x6 x7:Value) (w:World):World:=
 ((((((((w.setCell ⟨b,0,none⟩ x0).setCell ⟨b,1,none⟩ x1).setCell ⟨b,2,none⟩ x2).setCell ⟨b,3,none⟩ x3).setCell ⟨b,4,none⟩ x4).setCell ⟨b,5,none⟩ x5).setCell ⟨b,6,none⟩ x6).setCell ⟨b,7,none⟩ x7)
theorem put8_ext {u w:World} {b:Nat} (x0 x1 x2 x3 x4 x5 x6 x7:Value) (h:Ext u w) (hb:u.heap.size ≤ b):Ext u (put8 b x0 x1 x2 x3 x4 x5 x6 x7 w):=
 ext_set _ hb (ext_set _ hb (ext_set _ hb (ext_set _ hb (ext_set _ hb (ext_set _ hb (ext_set _ hb (ext_set _ hb (h))))))))
theorem put8_block {w:World} {b:Nat} {c0 c1 c2 c3 c4 c5 c6 c7:Value} {t:TypeId} {f:Nat × Nat} (x0 x1 x2 x3 x4 x5 x6 x7:Value) (h:w.heap[b]? = some (.cells #[c0,c1,c2,c3,c4,c5,c6,c7] t f)) :
  (put8 b x0 x1 x2 x3 x4 x5 x6 x7 w).heap[b]? = some (.cells #[x0,x1,x2,x3,x4,x5,x6,x7] t f):=by
 have h0:=set_same (o:=0) x0 h
 have h1:=set_same (o:=1) x1 h0
 have h2:=set_same (o:=2) x2 h1
 have h3:=set_same (o:=3) x3 h2
 have h4:=set_same (o:=4) x4 h3
 have h5:=set_same (o:=5) x5 h4
 have h6:=set_same (o:=6) x6 h5
 have h7:=set_same (o:=7) x7 h6
 unfold put8
 rw [h7]
 simp only [List.setIfInBounds_toArray,List.set_cons_zero,List.set_cons_succ]
theorem put8_other {w:World} {b k:Nat} (x0 x1 x2 x3 x4 x5 x6 x7:Value) (h:k ≠ b):(put8 b x0 x1 x2 x3 x4 x5 x6 x7 w).heap[k]? = w.heap[k]?:=by
 unfold put8
 rw [set_other _ h,set_other _ h,set_other _ h,set_other _ h,set_other _ h,set_other _ h,set_other _ h,set_other _ h]
theorem put8_size {w:World} {b:Nat} (x0 x1 x2 x3 x4 x5 x6 x7:Value):(put8 b x0 x1 x2 x3 x4 x5 x6 x7 w).heap.size = w.heap.size:=by
 unfold put8
 rw [set_size,set_size,set_size,set_size,set_size,set_size,set_size,set_size]
theorem put8_frNew {lo hi:Nat} {a w:World} {b:Nat} (x0 x1 x2 x3 x4 x5 x6 x7:Value) (h:Fr lo hi a w) (hb:a.heap.size ≤ b):Fr lo hi a (put8 b x0 x1 x2 x3 x4 x5 x6 x7 w):=
 ((((((((h.setNew (p:=⟨b,0,none⟩) x0 hb).setNew (p:=⟨b,1,none⟩) x1 hb).setNew (p:=⟨b,2,none⟩) x2 hb).setNew (p:=⟨b,3,none⟩) x3 hb).setNew (p:=⟨b,4,none⟩) x4 hb).setNew (p:=⟨b,5,none⟩) x5 hb).setNew (p:=⟨b,6,none⟩) x6 hb).setNew (p:=⟨b,7,none⟩) x7 hb)
theorem put8_mem {lo hi:Nat} {L:Lay} {M:MS} {w:World} {b:Nat} (x0 x1 x2 x3 x4 x5 x6 x7:Value) (h:MemIn lo hi L M w) (hb:hi ≤ b):MemIn lo hi L M (put8 b x0 x1 x2 x3 x4 x5 x6 x7 w):=
 ((((((((h.setFar (p:=⟨b,0,none⟩) x0 (.inr hb)).setFar (p:=⟨b,1,none⟩) x1 (.inr hb)).setFar (p:=⟨b,2,none⟩) x2 (.inr hb)).setFar (p:=⟨b,3,none⟩) x3 (.inr hb)).setFar (p:=⟨b,4,none⟩) x4 (.inr hb)).setFar (p:=⟨b,5,none⟩) x5 (.inr hb)).setFar (p:=⟨b,6,none⟩) x6 (.inr hb)).setFar (p:=⟨b,7,none⟩) x7 (.inr hb))
theorem Agr.of_put8 {F:Nat → Prop} {w:World} {b:Nat} (x0 x1 x2 x3 x4 x5 x6 x7:Value) (hn:¬ F b):Agr F w (put8 b x0 x1 x2 x3 x4 x5 x6 x7 w):=fun _ hj => put8_other _ _ _ _ _ _ _ _ fun e => hn (e ▸ hj)
structure Ein (b:Nat) (x0 x1 x2 x3 x4 x5 x6 x7:Value) (w:World):Prop where
 c0:w.cell? ⟨b,0,none⟩ = some x0
 c1:w.cell? ⟨b,1,none⟩ = some x1
 c2:w.cell? ⟨b,2,none⟩ = some x2
 c3:w.cell? ⟨b,3,none⟩ = some x3
 c4:w.cell? ⟨b,4,none⟩ = some x4
 c5:w.cell? ⟨b,5,none⟩ = some x5
 c6:w.cell? ⟨b,6,none⟩ = some x6
 c7:w.cell? ⟨b,7,none⟩ = some x7
 cz:∀ o,w.frozen? ⟨b,o,none⟩ = false
 lt:b < w.heap.size
theorem eit_of {w:World} {b:Nat} {x0 x1 x2 x3 x4 x5 x6 x7:Value} {t:TypeId} (h:w.heap[b]? = some (.cells #[x0,x1,x2,x3,x4,x5,x6,x7] t (0,0))):Ein b x0 x1 x2 x3 x4 x5 x6 x7 w:=
 ⟨cell_at h rfl,cell_at h rfl,cell_at h rfl,cell_at h rfl,cell_at h rfl,cell_at h rfl,cell_at h rfl,cell_at h rfl,fun _ => free_at h,(Array.getElem?_eq_some_iff.1 h).1⟩
def put2 (b:Nat) (x0 x1:Value) (w:World):World:=
 ((w.setCell ⟨b,0,none⟩ x0).setCell ⟨b,1,none⟩ x1)
theorem put2_ext {u w:World} {b:Nat} (x0 x1:Value) (h:Ext u w) (hb:u.heap.size ≤ b):Ext u (put2 b x0 x1 w):=
 ext_set _ hb (ext_set _ hb (h))
theorem put2_block {w:World} {b:Nat} {c0 c1:Value} {t:TypeId} {f:Nat × Nat} (x0 x1:Value) (h:w.heap[b]? = some (.cells #[c0,c1] t f)) :
  (put2 b x0 x1 w).heap[b]? = some (.cells #[x0,x1] t f):=by
 have h0:=set_same (o:=0) x0 h
 have h1:=set_same (o:=1) x1 h0
 unfold put2
 rw [h1]
 simp only [List.setIfInBounds_toArray,List.set_cons_zero,List.set_cons_succ]
theorem put2_size {w:World} {b:Nat} (x0 x1:Value):(put2 b x0 x1 w).heap.size = w.heap.size:=by
 unfold put2
 rw [set_size,set_size]
theorem put2_frNew {lo hi:Nat} {a w:World} {b:Nat} (x0 x1:Value) (h:Fr lo hi a w) (hb:a.heap.size ≤ b):Fr lo hi a (put2 b x0 x1 w):=
 ((h.setNew (p:=⟨b,0,none⟩) x0 hb).setNew (p:=⟨b,1,none⟩) x1 hb)
theorem put2_mem {lo hi:Nat} {L:Lay} {M:MS} {w:World} {b:Nat} (x0 x1:Value) (h:MemIn lo hi L M w) (hb:hi ≤ b):MemIn lo hi L M (put2 b x0 x1 w):=
 ((h.setFar (p:=⟨b,0,none⟩) x0 (.inr hb)).setFar (p:=⟨b,1,none⟩) x1 (.inr hb))
structure Rz where
 e:Int
 v:BitVec 64
abbrev rzV (r:Rz):Value:=.agg #[.int .i64 r.e,.int .u64 (U r.v)]
def vS2 (r:Value) (a:Acc) (fn:Value):Value:=.agg #[at3 0 r,at3 1 r,.int .i64 a.op,.int .i64 a.at_,.int .u64 (U a.a),.int .u64 (U a.b),fn,.pointer none]
def kR:Kd Rz:=⟨vS2,.agg #[.int .i64 0,.int .u64 0],rzV⟩
structure Hn where
 i:Int
 g:Int
 t:Int
deriving DecidableEq
def Hn.ok (h:Hn):Prop:=0 ≤ h.i ∧ h.i ≤ 1048575 ∧ 0 ≤ h.g ∧ h.g ≤ 1073741823 ∧ 0 ≤ h.t ∧ h.t ≤ 63
instance hnOkDec (h:Hn):Decidable h.ok:=by unfold Hn.ok;exact inferInstance
def Hn.num (h:Hn):Int:=h.i+h.g * 1048576+h.t * 1125899906842624+12105675798371893248
def Hn.word (h:Hn):BitVec 64:=if h.ok then BitVec.ofNat 64 h.num.toNat else 0#64
def hnL:List (Int × Int):=[(0,20),(20,30),(50,6),(58,6)]
def Hn.ns (h:Hn):List (BitVec 64):=[bvI h.i,bvI h.g,bvI h.t,bvI 42]
theorem hnL_lay:LayF hnL:=by
 intro i hi
 have h:i < 4:=hi
 have e:i = 0 ∨ i = 1 ∨ i = 2 ∨ i = 3:=by omega
 rcases e with rfl | rfl | rfl | rfl
 ·exact ⟨⟨by decide,by decide,by decide,by decide⟩,fun j hj => absurd hj (Nat.not_lt_zero _)⟩
 ·refine ⟨⟨by decide,by decide,by decide,by decide⟩,fun j hj => ?_⟩
  obtain rfl:j = 0:=by omega
  unfold Meet
  decide
 ·refine ⟨⟨by decide,by decide,by decide,by decide⟩,fun j hj => ?_⟩
  have e:j = 0 ∨ j = 1:=by omega
  unfold Meet
  rcases e with rfl | rfl <;> decide
 ·refine ⟨⟨by decide,by decide,by decide,by decide⟩,fun j hj => ?_⟩
  have e:j = 0 ∨ j = 1 ∨ j = 2:=by omega
  unfold Meet
  rcases e with rfl | rfl | rfl <;> decide
theorem hU_word (h:Hn) (k:h.ok):U h.word = h.num:=by
 unfold Hn.word
 rw [if_pos k]
 have k':=k
 unfold Hn.ok at k'
 exact U_bvI h.num (by unfold Hn.num;omega) (by unfold Hn.num;omega)
theorem hword_no (h:Hn) (k:¬ h.ok):h.word = 0#64:=by unfold Hn.word;rw [if_neg k]
theorem U_most20:U (mostN 20) = 1048575:=by rw [mostN_def];exact U_of _ _ (by decide)
theorem hU_most30:U (mostN 30) = 1073741823:=by rw [mostN_def];exact U_of _ _ (by decide)
theorem U_most6:U (mostN 6) = 63:=by rw [mostN_def];exact U_of _ _ (by decide)
theorem hn_fit (h:Hn) (k:h.ok):PackOk hnL h.ns:=by
 refine ⟨hnL_lay,rfl,?_⟩
 intro i hi
 have hi':i < 4:=hi
 unfold Hn.ok at k
 have e:i = 0 ∨ i = 1 ∨ i = 2 ∨ i = 3:=by omega
 rcases e with rfl | rfl | rfl | rfl
 ·show U (bvI h.i) ≤ U (mostN 20)
  rw [U_most20,U_bvI _ (by omega) (by omega)];omega
 ·show U (bvI h.g) ≤ U (mostN 30)
  rw [hU_most30,U_bvI _ (by omega) (by omega)];omega
 ·show U (bvI h.t) ≤ U (mostN 6)
  rw [U_most6,U_bvI _ (by omega) (by omega)];omega
 ·show U (bvI 42) ≤ U (mostN 6)
  rw [U_most6,U_bvI _ (by omega) (by omega)];omega
theorem hn_pack (h:Hn) (k:h.ok):packTo hnL h.ns 4 = h.word:=by
 have k':=k
 unfold Hn.ok at k'
 obtain ⟨g,m,t⟩:=h
 simp only at k'
 obtain ⟨G,rfl⟩:=Int.eq_ofNat_of_zero_le (show 0 ≤ g by omega)
 obtain ⟨M,rfl⟩:=Int.eq_ofNat_of_zero_le (show 0 ≤ m by omega)
 obtain ⟨T,rfl⟩:=Int.eq_ofNat_of_zero_le (show 0 ≤ t by omega)
 apply bv_eq
 intro i hi
 have hp:=packTo_bit hnL (Hn.ns ⟨G,M,T⟩) i hi 4 hnL_lay
 unfold Hn.word
 rw [if_pos k,BitVec.getLsbD_ofNat]
 have en:(Hn.num ⟨(G:Int),(M:Int),(T:Int)⟩).toNat = 2 ^ 58 * 42+(2 ^ 50 * T+(2 ^ 20 * M+G)):=by
  unfold Hn.num;simp only;omega
 rw [en,Nat.testBit_two_pow_mul_add 42 (by omega),decide_eq_true hi,Bool.true_and]
 by_cases c1:i < 20
 ·rw [hp.1 0 (by omega) ⟨by show (0:Int) ≤ i;omega,by show (i:Int) < 0+20;omega⟩,if_pos (by omega),Nat.testBit_two_pow_mul_add T (by omega),if_pos (by omega),Nat.testBit_two_pow_mul_add M (by omega),if_pos c1]
  show (bvI (G:Int)).getLsbD (i - 0) = _
  rw [bvI_bit,decide_eq_true (by omega),Bool.true_and,Nat.sub_zero]
 ·by_cases c2:i < 50
  ·rw [hp.1 1 (by omega) ⟨by show (20:Int) ≤ i;omega,by show (i:Int) < 20+30;omega⟩,if_pos (by omega),Nat.testBit_two_pow_mul_add T (by omega),if_pos (by omega),Nat.testBit_two_pow_mul_add M (by omega),if_neg c1]
   show (bvI (M:Int)).getLsbD (i - 20) = _
   rw [bvI_bit,decide_eq_true (by omega),Bool.true_and]
  ·by_cases c3:i < 56
   ·rw [hp.1 2 (by omega) ⟨by show (50:Int) ≤ i;omega,by show (i:Int) < 50+6;omega⟩,if_pos (by omega),Nat.testBit_two_pow_mul_add T (by omega),if_neg c2]
    show (bvI (T:Int)).getLsbD (i - 50) = _
    rw [bvI_bit,decide_eq_true (by omega),Bool.true_and]
   ·by_cases c4:i < 58
    ·rw [hp.2 ?_,if_pos c4,Nat.testBit_two_pow_mul_add T (by omega),if_neg c2]
     ·symm
      apply Nat.testBit_lt_two_pow
      have e1:2 ^ 6 ≤ 2 ^ (i - 50):=Nat.pow_le_pow_right (by decide) (by omega)
      omega
     ·intro j hj hin
      have e:j = 0 ∨ j = 1 ∨ j = 2 ∨ j = 3:=by omega
      rcases e with rfl | rfl | rfl | rfl
      ·have:(i:Int) < 0+20:=hin.2;omega
      ·have:(i:Int) < 20+30:=hin.2;omega
      ·have:(i:Int) < 50+6:=hin.2;omega
      ·have:(58:Int) ≤ i:=hin.1;omega
    ·rw [hp.1 3 (by omega) ⟨by show (58:Int) ≤ i;omega,by show (i:Int) < 58+6;omega⟩,if_neg c4]
     show (bvI ((42:Nat):Int)).getLsbD (i - 58) = _
     rw [bvI_bit,decide_eq_true (by omega),Bool.true_and]
theorem hU_get0 (x:BitVec 64):U (getN 0 20 x) = U x % 1048576:=by
 rw [U_getN 0 20 x ⟨by decide,by decide,by decide,by decide⟩]
 show U x / 1 % 1048576 = _
 rw [Int.ediv_one]
theorem hU_get1 (x:BitVec 64):U (getN 20 30 x) = U x / 1048576 % 1073741824:=U_getN 20 30 x ⟨by decide,by decide,by decide,by decide⟩
theorem hU_get2 (x:BitVec 64):U (getN 50 6 x) = U x / 1125899906842624 % 64:=U_getN 50 6 x ⟨by decide,by decide,by decide,by decide⟩
theorem hU_get3 (x:BitVec 64):U (getN 58 6 x) = U x / 288230376151711744 % 64:=U_getN 58 6 x ⟨by decide,by decide,by decide,by decide⟩
theorem hn_split (x:BitVec 64):splitL hnL x = [getN 0 20 x,getN 20 30 x,getN 50 6 x,getN 58 6 x]:=rfl
theorem hn_cov : ~~~ (covTo hnL 4) = 3#64 <<< 56:=by
 show ~~~ ((((0#64 ||| maskN 0 20) ||| maskN 20 30) ||| maskN 50 6) ||| maskN 58 6) = _
 simp only [maskN_def,mostN_def]
 decide
theorem and_shl (x m:BitVec 64) (n:Nat):(x &&& m <<< n = 0#64) ↔ (x >>> n) &&& m = 0#64:=by
 constructor
 ·intro h
  apply bv_eq
  intro i hi
  have h1:(x &&& m <<< n).getLsbD (n+i) = (0#64).getLsbD (n+i):=by rw [h]
  rw [BitVec.getLsbD_and,BitVec.getLsbD_ushiftRight,BitVec.getLsbD_zero]
  by_cases c:n+i < 64
  ·rw [BitVec.getLsbD_and,BitVec.getLsbD_shiftLeft,decide_eq_true c,decide_eq_false (by omega),Bool.not_false,Bool.true_and,Bool.true_and,Nat.add_sub_cancel_left,BitVec.getLsbD_zero] at h1
   exact h1
  ·rw [BitVec.getLsbD_of_ge x (n+i) (by omega),Bool.false_and]
 ·intro h
  apply bv_eq
  intro i hi
  rw [BitVec.getLsbD_and,BitVec.getLsbD_shiftLeft,BitVec.getLsbD_zero]
  by_cases c:i < n
  ·rw [decide_eq_true c,Bool.not_true,Bool.and_false,Bool.false_and,Bool.and_false]
  ·have h1:((x >>> n) &&& m).getLsbD (i - n) = (0#64).getLsbD (i - n):=by rw [h]
   rw [BitVec.getLsbD_and,BitVec.getLsbD_ushiftRight,show n+(i - n) = i by omega,BitVec.getLsbD_zero] at h1
   rw [decide_eq_true hi,decide_eq_false c,Bool.not_false,Bool.true_and,Bool.true_and]
   exact h1
theorem hn_out (x:BitVec 64):x &&& ~~~ (covTo hnL 4) = 0#64 ↔ U x / 72057594037927936 % 4 = 0:=by
 rw [hn_cov]
 have e:=and_shl x 3#64 56
 rw [e,U_toNat]
 have e2:((x >>> 56) &&& 3#64).toNat = x.toNat / 72057594037927936 % 4:=by
  rw [BitVec.toNat_and,BitVec.toNat_ushiftRight,Nat.shiftRight_eq_div_pow]
  exact Nat.and_two_pow_sub_one_eq_mod _ 2
 constructor
 ·intro h
  rw [h] at e2
  have e3:(0:Nat) = x.toNat / 72057594037927936 % 4:=e2
  omega
 ·intro h
  apply BitVec.eq_of_toNat_eq
  rw [e2]
  show _ = 0
  omega
def hnN (x:BitVec 64):Hn:=⟨U x % 1048576,U x / 1048576 % 1073741824,U x / 1125899906842624 % 64⟩
def isH (x:BitVec 64):Prop:=U x / 72057594037927936 = 168
instance isHDec (x:BitVec 64):Decidable (isH x):=by unfold isH;exact inferInstance
def ofH (x:BitVec 64):Hn:=if isH x then hnN x else ⟨0,0,0⟩
theorem hnN_ok (x:BitVec 64):(hnN x).ok:=by
 unfold hnN Hn.ok
 dsimp only
 omega
theorem isH_num (x:BitVec 64):isH x ↔ (hnN x).num = U x:=by
 have h0:=U_nonneg x
 have h1:=U_lt x
 unfold isH Hn.num hnN
 dsimp only
 omega
theorem isH_parts (x:BitVec 64):isH x ↔ (U x / 72057594037927936 % 4 = 0 ∧ U x / 288230376151711744 % 64 = 42):=by
 have h0:=U_nonneg x
 have h1:=U_lt x
 unfold isH
 omega
theorem ofH_no (x:BitVec 64) (h:¬ isH x):ofH x = ⟨0,0,0⟩:=by unfold ofH;rw [if_neg h]
theorem ofH_yes (x:BitVec 64) (h:isH x):ofH x = hnN x:=by unfold ofH;rw [if_pos h]
theorem isH_word (s:Hn) (h:s.ok):isH s.word ∧ ofH s.word = s:=by
 have e:hnN s.word = s:=by
  have h':=h
  unfold Hn.ok at h'
  unfold hnN
  rw [hU_word s h]
  obtain ⟨i,g,t⟩:=s
  unfold Hn.num
  simp only at h' ⊢
  have e1:(i+g * 1048576+t * 1125899906842624+12105675798371893248) % 1048576 = i:=by omega
  have e2:(i+g * 1048576+t * 1125899906842624+12105675798371893248) / 1048576 % 1073741824 = g:=by omega
  have e3:(i+g * 1048576+t * 1125899906842624+12105675798371893248) / 1125899906842624 % 64 = t:=by omega
  rw [e1,e2,e3]
 have hw:isH s.word:=(isH_num _).2 (by rw [e];exact (hU_word s h).symm)
 refine ⟨hw,?_⟩
 unfold ofH
 rw [if_pos hw,e]
def isMine (x:BitVec 64) (t n:Int):Prop:=isH x ∧ (hnN x).t = t ∧ (hnN x).i < n
instance isMineDec (x:BitVec 64) (t n:Int):Decidable (isMine x t n):=by unfold isMine;exact inferInstance
def mineH (x:BitVec 64) (t n:Int):Hn:=if isMine x t n then hnN x else ⟨0,0,0⟩
theorem isMine_word (s:Hn) (h:s.ok) (t n:Int):isMine s.word t n ↔ (t = s.t ∧ n > s.i):=by
 have e:=isH_word s h
 have e2:hnN s.word = s:=by rw [← ofH_yes _ e.1];exact e.2
 unfold isMine
 rw [e2]
 constructor
 ·rintro ⟨_,h1,h2⟩
  exact ⟨h1.symm,h2⟩
 ·rintro ⟨h1,h2⟩
  exact ⟨e.1,h1.symm,h2⟩
structure Se where
 p:Pl
 tn:Int
 th:Int
abbrev seV (s:Se):Value:=.agg #[.int .i64 s.p.n,.int .i64 s.p.t,.int .i64 s.p.r,.int .i64 s.p.d,.int .i64 s.p.b,.int .i64 s.p.g,.int .i64 s.tn,.int .i64 s.th]
def Se.ok (s:Se):Prop:=s.p.ok ∧ 0 ≤ s.tn ∧ s.tn ≤ 63 ∧ 0 ≤ s.th ∧ s.th ≤ s.p.t - 1
instance seOkDec (s:Se):Decidable s.ok:=by unfold Se.ok;exact inferInstance
def SBox (B:Nat) (s:Se) (w:World):Prop:=w.heap[B]? = some (.cells #[.int .i64 s.p.n,.int .i64 s.p.t,.int .i64 s.p.r,.int .i64 s.p.d,.int .i64 s.p.b,.int .i64 s.p.g,.int .i64 s.tn,.int .i64 s.th] 82 (0,0))
structure Slc (B:Nat) (s:Se) (w:World):Prop where
 c0:w.cell? ⟨B,0,none⟩ = some (.int .i64 s.p.n)
 c1:w.cell? ⟨B,1,none⟩ = some (.int .i64 s.p.t)
 c2:w.cell? ⟨B,2,none⟩ = some (.int .i64 s.p.r)
 c3:w.cell? ⟨B,3,none⟩ = some (.int .i64 s.p.d)
 c4:w.cell? ⟨B,4,none⟩ = some (.int .i64 s.p.b)
 c5:w.cell? ⟨B,5,none⟩ = some (.int .i64 s.p.g)
 c6:w.cell? ⟨B,6,none⟩ = some (.int .i64 s.tn)
 c7:w.cell? ⟨B,7,none⟩ = some (.int .i64 s.th)
 lt:B < w.heap.size
theorem SBox.plc {B:Nat} {s:Se} {w:World} (h:SBox B s w):Slc B s w:=⟨cell_at h rfl,cell_at h rfl,cell_at h rfl,cell_at h rfl,cell_at h rfl,cell_at h rfl,cell_at h rfl,cell_at h rfl,heap_lt h⟩
def gW (g:Int):BitVec 64:=St.word ⟨g,1,0⟩
def badT:Tr Rz:=.done ⟨3,0#64⟩
def wg1T (g:Int) (yes no:Tr Rz) (x:BitVec 64):Tr Rz:=if x = gW g then yes else no
def wgT (p:Pl) (h:Hn) (yes no:Tr Rz):Tr Rz:=(getT (p.stF h.i)).bind (wg1T h.g yes no)
def lvT (p:Pl) (th:Int) (t:Tr Rz):Tr Rz:=(setT (p.hazF th 0) (nameW (-1))).bind fun _ => t
def tch1T (p:Pl) (th:Int) (v:BitVec 64):Tr Rz:=lvT p th (.done ⟨0,v⟩)
def tchT (p:Pl) (th:Int) (d:Tr (BitVec 64)):Tr Rz:=d.bind (tch1T p th)
def agnT (p:Pl) (th:Int) (h:Hn) (t:Tr Rz):Tr Rz:=wgT p h t (lvT p th badT)
def hldgT (p:Pl) (th:Int) (h:Hn) (t:Tr Rz):Tr Rz:=(setT (p.hazF th 0) (nameW h.i)).bind fun _ => agnT p th h t
def lkT (p:Pl) (th:Int) (h:Hn) (d:Tr (BitVec 64)):Tr Rz:=wgT p h (hldgT p th h (tchT p th d)) badT
def wrtT (at_:Int) (v:BitVec 64):Tr (BitVec 64):=(setT at_ v).bind fun _ => .done 0#64
def swp1T (b:Bool):Tr (BitVec 64):=if b then .done 1#64 else .done 0#64
def swpT (at_:Int) (was v:BitVec 64):Tr (BitVec 64):=(tryT at_ was v).bind swp1T
def cn1T (tn:Int) (r:Gr):Tr Rz:=if r.e = 0 then .done ⟨0,Hn.word ⟨r.n,r.g,tn⟩⟩ else .done ⟨r.e,0#64⟩
def cnwT (p:Pl) (th tn:Int) (N:Nat):Tr Rz:=(newT p th 0 N).bind (cn1T tn)
def AR (t:Tr Rz) (F:Nat → Prop) (fn:Value) (w:World):Prop:=∃ g caps,fn = .func (.func g) #[] caps ∧ Enters g ∧ ∀ w',Agr F w w' → Calls Tryz.prog g caps w' (RetP (PT kR t) F w')
theorem AR.agr {t:Tr Rz} {F:Nat → Prop} {fn:Value} {w w':World} (h:AR t F fn w) (ha:Agr F w w'):AR t F fn w':=by
 obtain ⟨g,caps,e,he,hc⟩:=h
 exact ⟨g,caps,e,he,fun u hu => hc u (ha.trans hu)⟩
theorem AR.mono {t:Tr Rz} {F G:Nat → Prop} {fn:Value} {w:World} (h:AR t F fn w) (hs:∀ j,F j → G j):AR t G fn w:=by
 obtain ⟨g,caps,e,he,hc⟩:=h
 exact ⟨g,caps,e,he,fun u hu => (hc u (hu.sub hs)).mono fun _ _ h => h.mono hs⟩
end Go.Proofs.YthjklbonebnekaaGreat

