/-
  A handle, its word and whose word a word is: plain mathematics, nothing of the program. No conditions.
-/
import Derived.Test.YthjklbonebnekaaGreatGam
import Derived.Test.YthjklbonebnekaaGreatGao
import Derived.Test.YthjklbonebnekaaGreatGap
import Derived.Test.YthjklbonebnekaaGreatGbe
set_option maxRecDepth 8000
set_option maxHeartbeats 4000000
namespace Go.Proofs.YthjklbonebnekaaGreat
open Go Go.RowKit
structure Hn where
 i:Int
 g:Int
 t:Int
deriving DecidableEq
def Hn.ok (h:Hn):Prop:=0 ≤ h.i ∧ h.i ≤ 1048575 ∧ 0 ≤ h.g ∧ h.g ≤ 1073741823 ∧ 0 ≤ h.t ∧ h.t ≤ 63
instance hnOkDec (h:Hn):Decidable h.ok:=by unfold Hn.ok;exact inferInstance
def Hn.num (h:Hn):Int:=h.i+h.g * 1048576+h.t * 1125899906842624+12105675798371893248
def Hn.word (h:Hn):BitVec 64:=if h.ok then BitVec.ofNat 64 h.num.toNat else 0#64
def hnL:List (Int × Int):=[(0,20),(20,30),(50,6),(58,6)]
def Hn.ns (h:Hn):List (BitVec 64):=[bvI h.i,bvI h.g,bvI h.t,bvI 42]
theorem hnL_lay:LayF hnL:=by
 intro i hi
 have h:i < 4:=hi
 have e:i = 0 ∨ i = 1 ∨ i = 2 ∨ i = 3:=by omega
 rcases e with rfl | rfl | rfl | rfl
 ·exact ⟨⟨by decide,by decide,by decide,by decide⟩,fun j hj => absurd hj (Nat.not_lt_zero _)⟩
 ·refine ⟨⟨by decide,by decide,by decide,by decide⟩,fun j hj => ?_⟩
  obtain rfl:j = 0:=by omega
  unfold Meet
  decide
 ·refine ⟨⟨by decide,by decide,by decide,by decide⟩,fun j hj => ?_⟩
  have e:j = 0 ∨ j = 1:=by omega
  unfold Meet
  rcases e with rfl | rfl <;> decide
 ·refine ⟨⟨by decide,by decide,by decide,by decide⟩,fun j hj => ?_⟩
  have e:j = 0 ∨ j = 1 ∨ j = 2:=by omega
  unfold Meet
  rcases e with rfl | rfl | rfl <;> decide
theorem hU_word (h:Hn) (k:h.ok):U h.word = h.num:=by
 unfold Hn.word
 rw [if_pos k]
 have k':=k
 unfold Hn.ok at k'
 exact U_bvI h.num (by unfold Hn.num;omega) (by unfold Hn.num;omega)
theorem hword_no (h:Hn) (k:¬ h.ok):h.word = 0#64:=by unfold Hn.word;rw [if_neg k]
theorem U_most20:U (mostN 20) = 1048575:=by rw [mostN_def];exact U_of _ _ (by decide)
theorem hU_most30:U (mostN 30) = 1073741823:=by rw [mostN_def];exact U_of _ _ (by decide)
theorem U_most6:U (mostN 6) = 63:=by rw [mostN_def];exact U_of _ _ (by decide)
theorem hn_fit (h:Hn) (k:h.ok):PackOk hnL h.ns:=by
 refine ⟨hnL_lay,rfl,?_⟩
 intro i hi
 have hi':i < 4:=hi
 unfold Hn.ok at k
 have e:i = 0 ∨ i = 1 ∨ i = 2 ∨ i = 3:=by omega
 rcases e with rfl | rfl | rfl | rfl
 ·show U (bvI h.i) ≤ U (mostN 20)
  rw [U_most20,U_bvI _ (by omega) (by omega)];omega
 ·show U (bvI h.g) ≤ U (mostN 30)
  rw [hU_most30,U_bvI _ (by omega) (by omega)];omega
 ·show U (bvI h.t) ≤ U (mostN 6)
  rw [U_most6,U_bvI _ (by omega) (by omega)];omega
 ·show U (bvI 42) ≤ U (mostN 6)
  rw [U_most6,U_bvI _ (by omega) (by omega)];omega
theorem hn_pack (h:Hn) (k:h.ok):packTo hnL h.ns 4 = h.word:=by
 have k':=k
 unfold Hn.ok at k'
 obtain ⟨g,m,t⟩:=h
 simp only at k'
 obtain ⟨G,rfl⟩:=Int.eq_ofNat_of_zero_le (show 0 ≤ g by omega)
 obtain ⟨M,rfl⟩:=Int.eq_ofNat_of_zero_le (show 0 ≤ m by omega)
 obtain ⟨T,rfl⟩:=Int.eq_ofNat_of_zero_le (show 0 ≤ t by omega)
 apply bv_eq
 intro i hi
 have hp:=packTo_bit hnL (Hn.ns ⟨G,M,T⟩) i hi 4 hnL_lay
 unfold Hn.word
 rw [if_pos k,BitVec.getLsbD_ofNat]
 have en:(Hn.num ⟨(G:Int),(M:Int),(T:Int)⟩).toNat = 2 ^ 58 * 42+(2 ^ 50 * T+(2 ^ 20 * M+G)):=by
  unfold Hn.num;simp only;omega
 rw [en,Nat.testBit_two_pow_mul_add 42 (by omega),decide_eq_true hi,Bool.true_and]
 by_cases c1:i < 20
 ·rw [hp.1 0 (by omega) ⟨by show (0:Int) ≤ i;omega,by show (i:Int) < 0+20;omega⟩,if_pos (by omega),Nat.testBit_two_pow_mul_add T (by omega),if_pos (by omega),Nat.testBit_two_pow_mul_add M (by omega),if_pos c1]
  show (bvI (G:Int)).getLsbD (i - 0) = _
  rw [bvI_bit,decide_eq_true (by omega),Bool.true_and,Nat.sub_zero]
 ·by_cases c2:i < 50
  ·rw [hp.1 1 (by omega) ⟨by show (20:Int) ≤ i;omega,by show (i:Int) < 20+30;omega⟩,if_pos (by omega),Nat.testBit_two_pow_mul_add T (by omega),if_pos (by omega),Nat.testBit_two_pow_mul_add M (by omega),if_neg c1]
   show (bvI (M:Int)).getLsbD (i - 20) = _
   rw [bvI_bit,decide_eq_true (by omega),Bool.true_and]
  ·by_cases c3:i < 56
   ·rw [hp.1 2 (by omega) ⟨by show (50:Int) ≤ i;omega,by show (i:Int) < 50+6;omega⟩,if_pos (by omega),Nat.testBit_two_pow_mul_add T (by omega),if_neg c2]
    show (bvI (T:Int)).getLsbD (i - 50) = _
    rw [bvI_bit,decide_eq_true (by omega),Bool.true_and]
   ·by_cases c4:i < 58
    ·rw [hp.2 ?_,if_pos c4,Nat.testBit_two_pow_mul_add T (by omega),if_neg c2]
     ·symm
      apply Nat.testBit_lt_two_pow
      have e1:2 ^ 6 ≤ 2 ^ (i - 50):=Nat.pow_le_pow_right (by decide) (by omega)
      omega
     ·intro j hj hin
      have e:j = 0 ∨ j = 1 ∨ j = 2 ∨ j = 3:=by omega
      rcases e with rfl | rfl | rfl | rfl
      ·have:(i:Int) < 0+20:=hin.2;omega
      ·have:(i:Int) < 20+30:=hin.2;omega
      ·have:(i:Int) < 50+6:=hin.2;omega
      ·have:(58:Int) ≤ i:=hin.1;omega
    ·rw [hp.1 3 (by omega) ⟨by show (58:Int) ≤ i;omega,by show (i:Int) < 58+6;omega⟩,if_neg c4]
     show (bvI ((42:Nat):Int)).getLsbD (i - 58) = _
     rw [bvI_bit,decide_eq_true (by omega),Bool.true_and]
theorem hU_get0 (x:BitVec 64):U (getN 0 20 x) = U x % 1048576:=by
 rw [U_getN 0 20 x ⟨by decide,by decide,by decide,by decide⟩]
 show U x / 1 % 1048576 = _
 rw [Int.ediv_one]
theorem hU_get1 (x:BitVec 64):U (getN 20 30 x) = U x / 1048576 % 1073741824:=U_getN 20 30 x ⟨by decide,by decide,by decide,by decide⟩
theorem hU_get2 (x:BitVec 64):U (getN 50 6 x) = U x / 1125899906842624 % 64:=U_getN 50 6 x ⟨by decide,by decide,by decide,by decide⟩
theorem hU_get3 (x:BitVec 64):U (getN 58 6 x) = U x / 288230376151711744 % 64:=U_getN 58 6 x ⟨by decide,by decide,by decide,by decide⟩
theorem hn_split (x:BitVec 64):splitL hnL x = [getN 0 20 x,getN 20 30 x,getN 50 6 x,getN 58 6 x]:=rfl
theorem hn_cov : ~~~ (covTo hnL 4) = 3#64 <<< 56:=by
 show ~~~ ((((0#64 ||| maskN 0 20) ||| maskN 20 30) ||| maskN 50 6) ||| maskN 58 6) = _
 simp only [maskN_def,mostN_def]
 decide
theorem and_shl (x m:BitVec 64) (n:Nat):(x &&& m <<< n = 0#64) ↔ (x >>> n) &&& m = 0#64:=by
 constructor
 ·intro h
  apply bv_eq
  intro i hi
  have h1:(x &&& m <<< n).getLsbD (n+i) = (0#64).getLsbD (n+i):=by rw [h]
  rw [BitVec.getLsbD_and,BitVec.getLsbD_ushiftRight,BitVec.getLsbD_zero]
  by_cases c:n+i < 64
  ·rw [BitVec.getLsbD_and,BitVec.getLsbD_shiftLeft,decide_eq_true c,decide_eq_false (by omega),Bool.not_false,Bool.true_and,Bool.true_and,Nat.add_sub_cancel_left,BitVec.getLsbD_zero] at h1
   exact h1
  ·rw [BitVec.getLsbD_of_ge x (n+i) (by omega),Bool.false_and]
 ·intro h
  apply bv_eq
  intro i hi
  rw [BitVec.getLsbD_and,BitVec.getLsbD_shiftLeft,BitVec.getLsbD_zero]
  by_cases c:i < n
  ·rw [decide_eq_true c,Bool.not_true,Bool.and_false,Bool.false_and,Bool.and_false]
  ·have h1:((x >>> n) &&& m).getLsbD (i - n) = (0#64).getLsbD (i - n):=by rw [h]
   rw [BitVec.getLsbD_and,BitVec.getLsbD_ushiftRight,show n+(i - n) = i by omega,BitVec.getLsbD_zero] at h1
   rw [decide_eq_true hi,decide_eq_false c,Bool.not_false,Bool.true_and,Bool.true_and]
   exact h1
theorem hn_out (x:BitVec 64):x &&& ~~~ (covTo hnL 4) = 0#64 ↔ U x / 72057594037927936 % 4 = 0:=by
 rw [hn_cov]
 have e:=and_shl x 3#64 56
 rw [e,U_toNat]
 have e2:((x >>> 56) &&& 3#64).toNat = x.toNat / 72057594037927936 % 4:=by
  rw [BitVec.toNat_and,BitVec.toNat_ushiftRight,Nat.shiftRight_eq_div_pow]
  exact Nat.and_two_pow_sub_one_eq_mod _ 2
 constructor
 ·intro h
  rw [h] at e2
  have e3:(0:Nat) = x.toNat / 72057594037927936 % 4:=e2
  omega
 ·intro h
  apply BitVec.eq_of_toNat_eq
  rw [e2]
  show _ = 0
  omega
def hnN (x:BitVec 64):Hn:=⟨U x % 1048576,U x / 1048576 % 1073741824,U x / 1125899906842624 % 64⟩
def isH (x:BitVec 64):Prop:=U x / 72057594037927936 = 168
instance isHDec (x:BitVec 64):Decidable (isH x):=by unfold isH;exact inferInstance
def ofH (x:BitVec 64):Hn:=if isH x then hnN x else ⟨0,0,0⟩
theorem hnN_ok (x:BitVec 64):(hnN x).ok:=by
 unfold hnN Hn.ok
 dsimp only
 omega
theorem isH_parts (x:BitVec 64):isH x ↔ (U x / 72057594037927936 % 4 = 0 ∧ U x / 288230376151711744 % 64 = 42):=by
 have h0:=U_nonneg x
 have h1:=U_lt x
 unfold isH
 omega
theorem ofH_no (x:BitVec 64) (h:¬ isH x):ofH x = ⟨0,0,0⟩:=by unfold ofH;rw [if_neg h]
theorem ofH_yes (x:BitVec 64) (h:isH x):ofH x = hnN x:=by unfold ofH;rw [if_pos h]
def isMine (x:BitVec 64) (t n:Int):Prop:=isH x ∧ (hnN x).t = t ∧ (hnN x).i < n
instance isMineDec (x:BitVec 64) (t n:Int):Decidable (isMine x t n):=by unfold isMine;exact inferInstance
def mineH (x:BitVec 64) (t n:Int):Hn:=if isMine x t n then hnN x else ⟨0,0,0⟩
structure Se where
 p:Pl
 tn:Int
 th:Int
abbrev seV (s:Se):Value:=.agg #[.int .i64 s.p.n,.int .i64 s.p.t,.int .i64 s.p.r,.int .i64 s.p.d,.int .i64 s.p.b,.int .i64 s.p.g,.int .i64 s.tn,.int .i64 s.th]
def Se.ok (s:Se):Prop:=s.p.ok ∧ 0 ≤ s.tn ∧ s.tn ≤ 63 ∧ 0 ≤ s.th ∧ s.th ≤ s.p.t - 1
instance seOkDec (s:Se):Decidable s.ok:=by unfold Se.ok;exact inferInstance
def SBox (B:Nat) (s:Se) (w:World):Prop:=w.heap[B]? = some (.cells #[.int .i64 s.p.n,.int .i64 s.p.t,.int .i64 s.p.r,.int .i64 s.p.d,.int .i64 s.p.b,.int .i64 s.p.g,.int .i64 s.tn,.int .i64 s.th] 82 (0,0))
structure Slc (B:Nat) (s:Se) (w:World):Prop where
 c0:w.cell? ⟨B,0,none⟩ = some (.int .i64 s.p.n)
 c1:w.cell? ⟨B,1,none⟩ = some (.int .i64 s.p.t)
 c2:w.cell? ⟨B,2,none⟩ = some (.int .i64 s.p.r)
 c3:w.cell? ⟨B,3,none⟩ = some (.int .i64 s.p.d)
 c4:w.cell? ⟨B,4,none⟩ = some (.int .i64 s.p.b)
 c5:w.cell? ⟨B,5,none⟩ = some (.int .i64 s.p.g)
 c6:w.cell? ⟨B,6,none⟩ = some (.int .i64 s.tn)
 c7:w.cell? ⟨B,7,none⟩ = some (.int .i64 s.th)
 lt:B < w.heap.size
theorem SBox.plc {B:Nat} {s:Se} {w:World} (h:SBox B s w):Slc B s w:=⟨cell_at h rfl,cell_at h rfl,cell_at h rfl,cell_at h rfl,cell_at h rfl,cell_at h rfl,cell_at h rfl,cell_at h rfl,heap_lt h⟩
def gW (g:Int):BitVec 64:=St.word ⟨g,1,0⟩
def rW (g:Int):BitVec 64:=St.word ⟨g,2,0⟩
def badT:Tr Rz:=.done ⟨3,0#64⟩
def wg1T (g:Int) (yes no:Tr Rz) (x:BitVec 64):Tr Rz:=if x = gW g then yes else no
def wgT (p:Pl) (h:Hn) (yes no:Tr Rz):Tr Rz:=(getT (p.stF h.i)).bind (wg1T h.g yes no)
def lvT (p:Pl) (th:Int) (t:Tr Rz):Tr Rz:=(setT (p.hazF th 0) (nameW (-1))).bind fun _ => t
def tch1T (p:Pl) (th:Int) (v:BitVec 64):Tr Rz:=lvT p th (.done ⟨0,v⟩)
def tchT (p:Pl) (th:Int) (d:Tr (BitVec 64)):Tr Rz:=d.bind (tch1T p th)
def agnT (p:Pl) (th:Int) (h:Hn) (t:Tr Rz):Tr Rz:=wgT p h t (lvT p th badT)
def hldgT (p:Pl) (th:Int) (h:Hn) (t:Tr Rz):Tr Rz:=(setT (p.hazF th 0) (nameW h.i)).bind fun _ => agnT p th h t
def lkT (p:Pl) (th:Int) (h:Hn) (d:Tr (BitVec 64)):Tr Rz:=wgT p h (hldgT p th h (tchT p th d)) badT
def wrtT (at_:Int) (v:BitVec 64):Tr (BitVec 64):=(setT at_ v).bind fun _ => .done 0#64
def swp1T (b:Bool):Tr (BitVec 64):=if b then .done 1#64 else .done 0#64
def swpT (at_:Int) (was v:BitVec 64):Tr (BitVec 64):=(tryT at_ was v).bind swp1T
def gb1T (p:Pl) (th i:Int) (N:Nat) (b:Bool):Tr Rz:=if b then (stashT p th i N).bind fun _ => .done ⟨0,0#64⟩ else badT
def gbT (p:Pl) (th:Int) (h:Hn) (N:Nat):Tr Rz:=(tryT (p.stF h.i) (gW h.g) (rW h.g)).bind (gb1T p th h.i N)
def drpT (p:Pl) (th:Int) (h:Hn) (N:Nat):Tr Rz:=wgT p h (gbT p th h N) badT
def cn1T (tn:Int) (r:Gr):Tr Rz:=if r.e = 0 then .done ⟨0,Hn.word ⟨r.n,r.g,tn⟩⟩ else .done ⟨r.e,0#64⟩
def cnwT (p:Pl) (th tn:Int) (N:Nat):Tr Rz:=(newT p th 0 N).bind (cn1T tn)
def AR (t:Tr Rz) (F:Nat → Prop) (fn:Value) (w:World):Prop:=∃ g caps,fn = .func (.func g) #[] caps ∧ Enters g ∧ ∀ w',Agr F w w' → Calls Tryz.prog g caps w' (RetP (PT kR t) F w')
theorem AR.agr {t:Tr Rz} {F:Nat → Prop} {fn:Value} {w w':World} (h:AR t F fn w) (ha:Agr F w w'):AR t F fn w':=by
 obtain ⟨g,caps,e,he,hc⟩:=h
 exact ⟨g,caps,e,he,fun u hu => hc u (ha.trans hu)⟩
theorem AR.mono {t:Tr Rz} {F G:Nat → Prop} {fn:Value} {w:World} (h:AR t F fn w) (hs:∀ j,F j → G j):AR t G fn w:=by
 obtain ⟨g,caps,e,he,hc⟩:=h
 exact ⟨g,caps,e,he,fun u hu => (hc u (hu.sub hs)).mono fun _ _ h => h.mono hs⟩
theorem Runs.tryR {p:Pl} {M:MS} (hM:Mg p M) {at_:Int} (x y:BitVec 64) (h0:0 ≤ at_) (h1:at_ < p.sizeF):Runs (tryT at_ x y) M 1 (M.done 0 2 at_ x y) (M.wd 0 at_.toNat == x):=
 Runs.ask (a:=swA at_ x y) (hM.ok h0 h1 (by show (0:Int) ≤ 2;omega) (by show (2:Int) ≤ 3;omega)) (Runs.done _ _)
theorem pushL_mem (g:Int → Bool):∀ (out fl:List Int) (n:Int),n ∈ pushL g fl out → n ∈ fl ∨ n ∈ out:=by
 intro out
 induction out with
 | nil => intro fl n hx;exact .inl hx
 | cons m out ih =>
  intro fl n hx
  rcases ih _ n hx with h2 | h2
  ·by_cases hg:g m = true
   ·rw [if_pos hg] at h2
    exact .inl h2
   ·rw [if_neg hg] at h2
    rcases List.mem_cons.1 h2 with rfl | h2
    ·exact .inr (by simp)
    ·exact .inl h2
  ·exact .inr (by simp [h2])
section
variable {p:Pl} (hp:p.ok) {M:MS} {fs:List Int} {T:Nat} {rs:Int → List Int} {sf:Int → St} {hd:Nat → BitVec 64} {fv:Int → Int → BitVec 64} {dw:Nat → BitVec 64}
include hp
theorem newN_take {n:Int} (h:NIn p M (n :: fs) T rs sf hd fv dw) (hT:T < 8796093022207) {kd:Int} (hk:0 ≤ kd ∧ kd ≤ 2) (t:Int) (N:Nat) :
  ∃ M',Runs (newT p t kd (N+2)) M 5 M' ⟨n,(sf n).g,0⟩ ∧ NIn p M' fs (T+1) rs (upS sf n (liveF kd (sf n))) hd fv dw:=by
 have hn:=h.fl.rg n (by simp)
 obtain ⟨M1,r1,a1⟩:=h.pop hp hT N
 obtain ⟨M2,r2,g2,w2⟩:=bec_run hp a1.fl.mg hn (liveF kd) ((a1.ain (t:=0) (by omega) (by unfold Pl.ok at hp;omega)).of_st hn)
 refine ⟨M2,?_,a1.bec hp hn (liveF_ok (h.ok n hn) hk) g2 w2⟩
 unfold newT twcT
 refine Runs.bind (k1:=3) (k2:=2) (M1:=M1) (x:=n) ?_ ?_
 ·refine Runs.bind (k1:=3) (k2:=0) r1 ?_
  unfold tw1T
  rw [if_neg (by have:=hn.1;omega)]
  exact Runs.done _ _
 ·unfold new1T
  rw [if_neg (by have:=hn.1;omega)]
  exact Runs.bind (k1:=2) (k2:=0) r2 (Runs.done _ _)
theorem newN_scan {t:Int} (h0:0 ≤ t) (h1:t < p.t) (h:NIn p M [] T rs sf hd fv dw) (hT:T ≤ 2000000) {kd:Int} (hk:0 ≤ kd ∧ kd ≤ 2) {rt' out fl':List Int}
  (e1:scanP (hldB p hd) (rs t).length (rs t) [] = (rt',out)) (e2:pushL (goneS p sf) [] out = fl') :
  ∃ M' T' s g,Runs (newT p t kd 2) M s M' g ∧ s ≤ 7+60 * (rs t).length ∧ T' ≤ T+(rs t).length+1 ∧
   match fl' with
   | [] => g = ⟨-1,0,4⟩ ∧ NIn p M' [] T' (upR rs t rt') (freedS p sf out) hd (wipeF fv out) dw
   | n :: fl2 => g = ⟨n,(freedS p sf out n).g,0⟩ ∧ NIn p M' fl2 T' (upR rs t rt') (upS (freedS p sf out) n (liveF kd (freedS p sf out n))) hd (wipeF fv out) dw:=by
 have hl:(rs t).length ≤ 1024:=by
  have:=(h.rt t h0 h1).len
  unfold Pl.ok at hp
  omega
 obtain ⟨M1,r1,a1⟩:=h.pop0 hp 1
 obtain ⟨M2,T2,s,r2,hs,hT2,a2⟩:=a1.scan hp h0 h1 hT e1
 rw [e2] at a2
 cases fl' with
 | nil =>
  obtain ⟨M3,r3,a3⟩:=a2.pop0 hp 1
  refine ⟨M3,T2,(1+(s+1))+0,⟨-1,0,4⟩,?_,by omega,by omega,rfl,a3⟩
  unfold newT twcT
  refine Runs.bind (M1:=M3) (x:=-1) (Runs.bind r1 ?_) ?_
  ·unfold tw1T
   rw [if_pos rfl]
   exact Runs.bind r2 r3
  ·unfold new1T
   rw [if_pos rfl]
   exact Runs.done _ _
 | cons n fl2 =>
  obtain ⟨M3,r3,a3⟩:=a2.pop hp (by omega) 0
  have hn:=a2.fl.rg n (by simp)
  obtain ⟨M4,r4,g4,w4⟩:=bec_run hp a3.fl.mg hn (liveF kd) ((a3.ain h0 h1).of_st hn)
  refine ⟨M4,T2+1,(1+(s+3))+(2+0),⟨n,(freedS p sf out n).g,0⟩,?_,by omega,by omega,rfl,a3.bec hp hn (liveF_ok (a2.ok n hn) hk) g4 w4⟩
  unfold newT twcT
  refine Runs.bind (M1:=M3) (x:=n) (Runs.bind r1 ?_) ?_
  ·unfold tw1T
   rw [if_pos rfl]
   exact Runs.bind r2 r3
  ·unfold new1T
   rw [if_neg (by have:=hn.1;omega)]
   exact Runs.bind r4 (Runs.done _ _)
theorem stashN_room {t:Int} (h0:0 ≤ t) (h1:t < p.t) (h:NIn p M fs T rs sf hd fv dw) {n:Int} (hn:InR p n) (hnf:n ∉ fs) (hnr:∀ u,0 ≤ u → u < p.t → n ∉ rs u) (hlt:((rs t).length:Int) < p.r) (N:Nat) :
  ∃ M',Runs (stashT p t n N) M 3 M' n ∧ NIn p M' fs T (upR rs t (rs t ++ [n])) sf hd fv dw:=by
 obtain ⟨M1,r1,a1⟩:=h.put hp h0 h1 hn hnf hnr hlt
 refine ⟨M1,?_,a1⟩
 unfold stashT twcT
 refine Runs.bind (M1:=M1) (x:=((rs t).length:Int)+1) (k1:=3) (k2:=0) (Runs.bind (k1:=3) (k2:=0) r1 ?_) ?_
 ·unfold tw1T
  rw [if_neg (by omega)]
  exact Runs.done _ _
 ·unfold stash1T
  rw [if_neg (by omega)]
  exact Runs.done _ _
theorem stashN_full {t:Int} (h0:0 ≤ t) (h1:t < p.t) (h:NIn p M fs T rs sf hd fv dw) (hT:T ≤ 2000000) {n:Int} (hn:InR p n) (hnf:n ∉ fs) (hnr:∀ u,0 ≤ u → u < p.t → n ∉ rs u) (hlt:((rs t).length:Int) = p.r) {rt' out:List Int}
  (e1:scanP (hldB p hd) (rs t).length (rs t) [] = (rt',out)) :
  ∃ M' T' s,Runs (stashT p t n 2) M s M' n ∧ s ≤ 10+60 * (rs t).length ∧ T' ≤ T+(rs t).length ∧
   NIn p M' (pushL (goneS p sf) fs out) T' (upR rs t (rt' ++ [n])) (freedS p sf out) hd (wipeF fv out) dw:=by
 obtain ⟨M2,r2,a2⟩:=h.put0 hp h0 h1 hn hlt
 obtain ⟨M3,T3,s,r3,hs,hT3,a3⟩:=a2.scan hp h0 h1 hT e1
 have hm3:3 * p.t < ((rs t).length:Int):=by
  unfold Pl.ok at hp
  omega
 have hmo:=scan_more hp (hd:=hd) (h.nr t h0 h1) (h.rt t h0 h1).rg hm3
 have hperm:=scanP_perm (hldB p hd) (rs t).length (rs t) [] (Nat.le_refl _)
 rw [List.append_nil] at hperm
 rw [e1] at hmo hperm
 dsimp only at hmo hperm
 have hin:∀ m,m ∈ rt' ∨ m ∈ out → m ∈ rs t:=fun m hx => hperm.mem_iff.1 (List.mem_append.2 hx)
 have hf2:n ∉ pushL (goneS p sf) fs out:=fun hx => by
  rcases pushL_mem _ _ _ _ hx with hx | hx
  ·exact hnf hx
  ·exact hnr t h0 h1 (hin n (.inr hx))
 have hr2:∀ u,0 ≤ u → u < p.t → n ∉ upR rs t rt' u:=fun u u0 u1 hx => by
  by_cases e:u = t
  ·subst e
   rw [upR_same] at hx
   exact hnr u u0 u1 (hin n (.inl hx))
  ·rw [upR_other e] at hx
   exact hnr u u0 u1 hx
 obtain ⟨M4,r4,a4⟩:=a3.put hp h0 h1 hn hf2 hr2 (by rw [upR_same];omega)
 rw [upR_same] at r4 a4
 have e4:upR (upR rs t rt') t (rt' ++ [n]) = upR rs t (rt' ++ [n]):=by
  funext u
  unfold upR
  split <;> rfl
 rw [e4] at a4
 refine ⟨M4,T3,(1+(s+3))+0,?_,by omega,hT3,a4⟩
 unfold stashT twcT
 refine Runs.bind (M1:=M4) (x:=(rt'.length:Int)+1) (Runs.bind r2 ?_) ?_
 ·unfold tw1T
  rw [if_pos rfl]
  exact Runs.bind r3 r4
 ·unfold stash1T
  rw [if_neg (by omega)]
  exact Runs.done _ _
theorem wg_run (h:NIn p M fs T rs sf hd fv dw) {i:Int} (hi:InR p i):∃ M',Runs (getT (p.stF i)) M 1 M' (sf i).word ∧ NIn p M' fs T rs sf hd fv dw ∧ ∀ j,M'.wd 0 j = M.wd 0 j:=by
 obtain ⟨a1,a2,_,a4,a5⟩:=node_pl hp hi
 have hi0:=hi.1
 have r1:=Runs.get h.fl.mg (at_:=p.stF i) (by omega) (by omega)
 have e:M.wd 0 (p.stF i).toNat = (sf i).word:=h.st i hi
 rw [e] at r1
 exact ⟨_,r1,h.same hp (h.fl.mg.done 0 0 (p.stF i) 0#64 0#64) (wd_load M _ _ _),wd_load M _ _ _⟩
omit hp in
theorem good_iff (h:NIn p M fs T rs sf hd fv dw) {i g:Int} (hi:InR p i) (hg:0 ≤ g ∧ g ≤ 1073741823):(sf i).word = gW g ↔ sf i = ⟨g,1,0⟩:=by
 constructor
 ·intro e
  exact word_inj (h.ok i hi) (by unfold St.ok;simp only;omega) e
 ·intro e
  rw [e]
  rfl
theorem hz_idx {t:Int} (h0:0 ≤ t) (h1:t < p.t):(p.hazF t 0).toNat = hzN p (3 * t).toNat ∧ (((3 * t).toNat:Nat):Int) < 3 * p.t ∧ 0 ≤ p.hazF t 0 ∧ p.hazF t 0 < p.sizeF:=by
 have e:=hazF_eq hp h0 h1 (s:=0) (by omega) (by omega)
 have hs:=haz_size hp (i:=3 * t+0) (by omega) (by omega)
 refine ⟨?_,by omega,by omega,by omega⟩
 rw [e.2]
 congr 1
 omega
theorem hs_run (h:NIn p M fs T rs sf hd fv dw) {t:Int} (h0:0 ≤ t) (h1:t < p.t) (x:BitVec 64):∃ M',Runs (setT (p.hazF t 0) x) M 1 M' () ∧ NIn p M' fs T rs sf (upH hd (3 * t).toNat x) fv dw:=by
 obtain ⟨e1,e2,e3,e4⟩:=hz_idx hp h0 h1
 have r1:=Runs.set h.fl.mg (at_:=p.hazF t 0) x e3 e4
 refine ⟨_,r1,h.hset hp e2 x (h.fl.mg.done 0 1 (p.hazF t 0) x 0#64) fun j => ?_⟩
 rw [wd_store,e1]
theorem look_badR (h:NIn p M fs T rs sf hd fv dw) {hn:Hn} (hi:InR p hn.i) (hg:0 ≤ hn.g ∧ hn.g ≤ 1073741823) (hb:sf hn.i ≠ ⟨hn.g,1,0⟩) (yes:Tr Rz) :
  ∃ M',Runs (wgT p hn yes badT) M 1 M' ⟨3,0#64⟩ ∧ NIn p M' fs T rs sf hd fv dw ∧ ∀ j,M'.wd 0 j = M.wd 0 j:=by
 obtain ⟨M1,r1,a1,w1⟩:=wg_run hp h hi
 refine ⟨M1,?_,a1,w1⟩
 unfold wgT
 refine Runs.bind (k1:=1) (k2:=0) r1 ?_
 unfold wg1T
 rw [if_neg fun e => hb ((good_iff h hi hg).1 e)]
 exact Runs.done _ _
theorem wg_yesR (h:NIn p M fs T rs sf hd fv dw) {hn:Hn} (hi:InR p hn.i) (hg:0 ≤ hn.g ∧ hn.g ≤ 1073741823) (hb:sf hn.i = ⟨hn.g,1,0⟩) (yes no:Tr Rz) {Q:MS → Prop} {k:Nat} {x:Rz}
  (hY:∀ M1,NIn p M1 fs T rs sf hd fv dw → (∀ j,M1.wd 0 j = M.wd 0 j) → ∃ M2,Runs yes M1 k M2 x ∧ Q M2):∃ M2,Runs (wgT p hn yes no) M (1+k) M2 x ∧ Q M2:=by
 obtain ⟨M1,r1,a1,w1⟩:=wg_run hp h hi
 obtain ⟨M2,r2,q⟩:=hY M1 a1 w1
 refine ⟨M2,?_,q⟩
 unfold wgT
 refine Runs.bind r1 ?_
 unfold wg1T
 rw [if_pos ((good_iff h hi hg).2 hb)]
 exact r2
theorem look_goodR (h:NIn p M fs T rs sf hd fv dw) {t:Int} (h0:0 ≤ t) (h1:t < p.t) {hn:Hn} (hi:InR p hn.i) (hg:0 ≤ hn.g ∧ hn.g ≤ 1073741823) (hb:sf hn.i = ⟨hn.g,1,0⟩) (hz:hd (3 * t).toNat = 0#64) {d:Tr (BitVec 64)} {y:BitVec 64} {fv':Int → Int → BitVec 64}
  (hD:∀ M hd',NIn p M fs T rs sf hd' fv dw → ∃ M',Runs d M 1 M' y ∧ NIn p M' fs T rs sf hd' fv' dw) :
  ∃ M',Runs (lkT p t hn d) M 5 M' ⟨0,y⟩ ∧ NIn p M' fs T rs sf hd fv' dw:=by
 unfold lkT
 refine wg_yesR hp (k:=4) h hi hg hb _ _ (Q:=fun M' => NIn p M' fs T rs sf hd fv' dw) fun M1 a1 _ => ?_
 obtain ⟨M2,r2,a2⟩:=hs_run hp a1 h0 h1 (nameW hn.i)
 obtain ⟨M3,r3,q⟩:=wg_yesR hp (k:=2) a2 hi hg hb (tchT p t d) (lvT p t badT) (x:=⟨0,y⟩) (Q:=fun M' => NIn p M' fs T rs sf hd fv' dw) fun M3 a3 _ => by
  obtain ⟨M4,r4,a4⟩:=hD M3 _ a3
  obtain ⟨M5,r5,a5⟩:=hs_run hp a4 h0 h1 (nameW (-1))
  rw [nameH_none,upH_back _ _ _ _ hz] at a5
  refine ⟨M5,?_,a5⟩
  unfold tchT
  refine Runs.bind (k1:=1) (k2:=1) r4 ?_
  unfold tch1T lvT
  exact Runs.bind (k1:=1) (k2:=0) r5 (Runs.done _ _)
 refine ⟨M3,?_,q⟩
 unfold hldgT agnT
 exact Runs.bind (k1:=1) (k2:=3) r2 r3
theorem fd_at (h:NIn p M fs T rs sf hd fv dw) {i o:Int} (hi:InR p i) (o0:0 ≤ o) (o1:o < 3):0 ≤ p.fdF i o ∧ p.fdF i o < p.sizeF ∧ (p.fdF i o).toNat = fdN p i o ∧ M.wd 0 (p.fdF i o).toNat = fv i o:=by
 obtain ⟨a1,a2,a3,a4,a5⟩:=node_pl hp hi
 have e:=a3 o o0 o1
 have hi0:=hi.1
 exact ⟨by omega,by omega,rfl,h.fd i hi o o0 o1⟩
theorem get_D (h:NIn p M fs T rs sf hd fv dw) {i o:Int} (hi:InR p i) (o0:0 ≤ o) (o1:o < 3):∃ M',Runs (getT (p.fdF i o)) M 1 M' (fv i o) ∧ NIn p M' fs T rs sf hd fv dw:=by
 obtain ⟨e1,e2,e3,e4⟩:=fd_at hp h hi o0 o1
 have r1:=Runs.get h.fl.mg (at_:=p.fdF i o) e1 e2
 rw [e4] at r1
 exact ⟨_,r1,h.same hp (h.fl.mg.done 0 0 (p.fdF i o) 0#64 0#64) (wd_load M _ _ _)⟩
theorem wrt_D (h:NIn p M fs T rs sf hd fv dw) {i o:Int} (hi:InR p i) (o0:0 ≤ o) (o1:o < 3) (v:BitVec 64):∃ M',Runs (wrtT (p.fdF i o) v) M 1 M' 0#64 ∧ NIn p M' fs T rs sf hd (upF2 fv i o v) dw:=by
 obtain ⟨e1,e2,e3,e4⟩:=fd_at hp h hi o0 o1
 have r1:=Runs.set h.fl.mg (at_:=p.fdF i o) v e1 e2
 refine ⟨_,Runs.bind (k1:=1) (k2:=0) r1 (Runs.done _ _),h.fset hp hi o0 o1 v (h.fl.mg.done 0 1 (p.fdF i o) v 0#64) fun j => ?_⟩
 rw [wd_store,e3]
theorem swp_D (h:NIn p M fs T rs sf hd fv dw) {i o:Int} (hi:InR p i) (o0:0 ≤ o) (o1:o < 3) (was v:BitVec 64):∃ M',Runs (swpT (p.fdF i o) was v) M 1 M' (if fv i o = was then 1#64 else 0#64) ∧ NIn p M' fs T rs sf hd (if fv i o = was then upF2 fv i o v else fv) dw:=by
 obtain ⟨e1,e2,e3,e4⟩:=fd_at hp h hi o0 o1
 have r1:=Runs.tryR h.fl.mg (at_:=p.fdF i o) was v e1 e2
 rw [e4] at r1
 have g1:=h.fl.mg.done 0 2 (p.fdF i o) was v
 have w1:=wd_swap M (p.fdF i o) was v
 by_cases e:fv i o = was
 ·rw [if_pos e,if_pos e]
  refine ⟨_,Runs.bind (k1:=1) (k2:=0) r1 ?_,h.fset hp hi o0 o1 v g1 fun j => ?_⟩
  ·have:(fv i o == was) = true:=by simp [e]
   rw [this]
   exact Runs.done _ _
  ·rw [w1,e4,if_pos e,e3]
 ·rw [if_neg e,if_neg e]
  refine ⟨_,Runs.bind (k1:=1) (k2:=0) r1 ?_,h.same hp g1 fun j => ?_⟩
  ·have:(fv i o == was) = false:=by simp [e]
   rw [this]
   exact Runs.done _ _
  ·rw [w1,e4,if_neg e]
   split
   ·rename_i ej;rw [ej,e4]
   ·rfl
theorem gb_begin (h:NIn p M fs T rs sf hd fv dw) {hn:Hn} (hi:InR p hn.i) (hg:0 ≤ hn.g ∧ hn.g ≤ 1073741823) (hb:sf hn.i = ⟨hn.g,1,0⟩):∃ M',Runs (tryT (p.stF hn.i) (gW hn.g) (rW hn.g)) M 1 M' true ∧ NIn p M' fs T rs (upS sf hn.i ⟨hn.g,2,0⟩) hd fv dw:=by
 obtain ⟨a1,a2,_,a4,a5⟩:=node_pl hp hi
 have hi0:=hi.1
 have r1:=Runs.tryR h.fl.mg (at_:=p.stF hn.i) (gW hn.g) (rW hn.g) (by omega) (by omega)
 have e:M.wd 0 (p.stF hn.i).toNat = gW hn.g:=(h.st _ hi).trans (by rw [hb];rfl)
 rw [e] at r1
 refine ⟨_,?_,h.bec hp hi (s:=⟨hn.g,2,0⟩) (by unfold St.ok;simp only;omega) (h.fl.mg.done 0 2 (p.stF hn.i) (gW hn.g) (rW hn.g)) fun j => ?_⟩
 ·have:(gW hn.g == gW hn.g) = true:=by simp
  rw [this] at r1
  exact r1
 ·rw [wd_swap,e,if_pos rfl]
  rfl
theorem drop_room {t:Int} (h0:0 ≤ t) (h1:t < p.t) (h:NIn p M fs T rs sf hd fv dw) {hn:Hn} (hi:InR p hn.i) (hg:0 ≤ hn.g ∧ hn.g ≤ 1073741823) (hb:sf hn.i = ⟨hn.g,1,0⟩) (hnf:hn.i ∉ fs) (hnr:∀ u,0 ≤ u → u < p.t → hn.i ∉ rs u) (hlt:((rs t).length:Int) < p.r) (N:Nat) :
  ∃ M',Runs (drpT p t hn N) M 5 M' ⟨0,0#64⟩ ∧ NIn p M' fs T (upR rs t (rs t ++ [hn.i])) (upS sf hn.i ⟨hn.g,2,0⟩) hd fv dw:=by
 unfold drpT
 refine wg_yesR hp (k:=4) h hi hg hb _ _ (Q:=fun M' => NIn p M' fs T (upR rs t (rs t ++ [hn.i])) (upS sf hn.i ⟨hn.g,2,0⟩) hd fv dw) fun M1 a1 _ => ?_
 obtain ⟨M2,r2,a2⟩:=gb_begin hp a1 hi hg hb
 obtain ⟨M3,r3,a3⟩:=stashN_room hp h0 h1 a2 hi hnf hnr hlt N
 exact ⟨M3,Runs.bind (k1:=1) (k2:=3) r2 (Runs.bind (k1:=3) (k2:=0) r3 (Runs.done _ _)),a3⟩
theorem drop_full {t:Int} (h0:0 ≤ t) (h1:t < p.t) (h:NIn p M fs T rs sf hd fv dw) (hT:T ≤ 2000000) {hn:Hn} (hi:InR p hn.i) (hg:0 ≤ hn.g ∧ hn.g ≤ 1073741823) (hb:sf hn.i = ⟨hn.g,1,0⟩) (hnf:hn.i ∉ fs) (hnr:∀ u,0 ≤ u → u < p.t → hn.i ∉ rs u) (hlt:((rs t).length:Int) = p.r) {rt' out:List Int}
  (e1:scanP (hldB p hd) (rs t).length (rs t) [] = (rt',out)) :
  ∃ M' T' s,Runs (drpT p t hn 2) M s M' ⟨0,0#64⟩ ∧ s ≤ 12+60 * (rs t).length ∧ T' ≤ T+(rs t).length ∧
   NIn p M' (pushL (goneS p (upS sf hn.i ⟨hn.g,2,0⟩)) fs out) T' (upR rs t (rt' ++ [hn.i])) (freedS p (upS sf hn.i ⟨hn.g,2,0⟩) out) hd (wipeF fv out) dw:=by
 obtain ⟨M1,r1,a1,w1⟩:=wg_run hp h hi
 obtain ⟨M2,r2,a2⟩:=gb_begin hp a1 hi hg hb
 obtain ⟨M3,T3,s,r3,hs,hT3,a3⟩:=stashN_full hp h0 h1 a2 hT hi hnf hnr hlt e1
 refine ⟨M3,T3,1+(1+(s+0)),?_,by omega,hT3,a3⟩
 unfold drpT wgT
 refine Runs.bind r1 ?_
 unfold wg1T
 rw [if_pos ((good_iff h hi hg).2 hb)]
 exact Runs.bind r2 (Runs.bind r3 (Runs.done _ _))
end
theorem cnw_run {p:Pl} {M M':MS} {t tn:Int} {k:Nat} {g:Gr} {N:Nat} (h:Runs (newT p t 0 N) M k M' g):Runs (cnwT p t tn N) M k M' (if g.e = 0 then ⟨0,Hn.word ⟨g.n,g.g,tn⟩⟩ else ⟨g.e,0#64⟩):=by
 unfold cnwT
 refine Runs.bind (k1:=k) (k2:=0) h ?_
 unfold cn1T
 split
 ·exact Runs.done _ _
 ·exact Runs.done _ _
end Go.Proofs.YthjklbonebnekaaGreat

