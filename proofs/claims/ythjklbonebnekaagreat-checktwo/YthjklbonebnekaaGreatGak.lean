/-
  What the calls of package field (a field's Formed, Most, Get, Put, and the mask) and awake come to: contracts over the translation. Conditions: those of each theorem.
-/
import Derived.Test.YthjklbonebnekaaGreatGaa
import Derived.Test.YthjklbonebnekaaGreatGag
import Derived.Test.YthjklbonebnekaaGreatGah
import Derived.Test.YthjklbonebnekaaGreatGai
import Derived.Test.YthjklbonebnekaaGreatGaj
set_option maxRecDepth 8000
set_option maxHeartbeats 4000000
namespace Go.Proofs.YthjklbonebnekaaGreat
open Go Go.RowKit
theorem formed_yes (a b:Int) (w:World) (h:Fm a b) :
  Calls Tryz.prog 169 #[.agg #[.int .i64 a,.int .i64 b]] w (Ret (.bool true) w):=by
 obtain ⟨h1,h2,h3,h4⟩:=h
 go_enter Tryz.func169,Tryz.ntmps169
 go_wp2
 go_ret
 exact Ret.mk (by repeat (first | exact ext_refl _ | apply ext_over | apply ext_alloc))
theorem formed_no (a b:Int) (w:World) (h:¬ Fm a b) :
  Calls Tryz.prog 169 #[.agg #[.int .i64 a,.int .i64 b]] w (Ret (.bool false) w):=by
 unfold Fm at h
 by_cases h1:0 ≤ a
 ·by_cases h2:a < 64
  ·by_cases h3:1 ≤ b
   ·have h4:decide (b ≤ 64 - a) = false:=by simp;omega
    clear h
    go_enter Tryz.func169,Tryz.ntmps169
    go_wp2
    go_ret
    exact Ret.mk (by repeat (first | exact ext_refl _ | apply ext_over | apply ext_alloc))
   ·clear h
    go_enter Tryz.func169,Tryz.ntmps169
    go_wp2
    go_ret
    exact Ret.mk (by repeat (first | exact ext_refl _ | apply ext_over | apply ext_alloc))
  ·clear h
   go_enter Tryz.func169,Tryz.ntmps169
   go_wp2
   go_ret
   exact Ret.mk (by repeat (first | exact ext_refl _ | apply ext_over | apply ext_alloc))
 ·clear h
  go_enter Tryz.func169,Tryz.ntmps169
  go_wp2
  go_ret
  exact Ret.mk (by repeat (first | exact ext_refl _ | apply ext_over | apply ext_alloc))
theorem most_yes (a b:Int) (w:World) (h:Fm a b) :
  Calls Tryz.prog 162 #[.agg #[.int .i64 a,.int .i64 b]] w (Ret (.int .u64 (U (mostN b))) w):=by
 have ⟨h1,h2,h3,h4⟩:=h
 go_enter Tryz.func162,Tryz.ntmps162
 go_wp2_with (go_at_call 169;refine (formed_yes _ _ _ h).mono ?_;rintro e w' hr;obtain ⟨rfl,s,rfl⟩:=hr.over;clear hr)
 go_ret
 refine Ret.int ?_ (by repeat (first | exact ext_refl _ | apply ext_over | apply ext_alloc))
 rw [show (64 - b).toNat = 64 - b.toNat by omega,ones_shr,mostN_def,U_toNat]
theorem mask_yes (a b:Int) (w:World) (h:Fm a b) :
  Calls Tryz.prog 170 #[.agg #[.int .i64 a,.int .i64 b]] w (Ret (.int .u64 (U (maskN a b))) w):=by
 have ⟨h1,h2,h3,h4⟩:=h
 go_enter Tryz.func170,Tryz.ntmps170
 go_wp2
 first | refine wp_region_over2 (by kernel_rfl) (by kernel_rfl) ?_ | refine wp_region_over (by kernel_rfl) (by kernel_rfl) ?_
 repeat (go_big_quiet_step ((go_at_call 162;exact over_call (most_yes _ _ _ h))))
 refine wpQuiet_nil ?_
 intro _ hw'
 obtain ⟨s,hw''⟩:=hw'
 subst hw''
 go_wp2
 go_ret
 exact Ret.int (by rw [maskN_def]) (by repeat (first | exact ext_refl _ | apply ext_over | apply ext_alloc))
theorem get_yes (a b:Int) (x:BitVec 64) (w:World) (h:Fm a b) :
  Calls Tryz.prog 90 #[.agg #[.int .i64 a,.int .i64 b],.int .u64 (U x)] w (Ret (.int .u64 (U (getN a b x))) w):=by
 have ⟨h1,h2,h3,h4⟩:=h
 go_enter Tryz.func90,Tryz.ntmps90
 go_wp2_with (go_at_call 169;refine (formed_yes _ _ _ h).mono ?_;rintro e w' hr;obtain ⟨rfl,s,rfl⟩:=hr.over;clear hr)
 first | refine wp_region_over2 (by kernel_rfl) (by kernel_rfl) ?_ | refine wp_region_over (by kernel_rfl) (by kernel_rfl) ?_
 repeat (go_big_quiet_step ((go_at_call 170;exact over_call (mask_yes _ _ _ h))))
 refine wpQuiet_nil ?_
 intro _ hw'
 obtain ⟨s',hw''⟩:=hw'
 subst hw''
 go_wp2
 go_ret
 exact Ret.int (by rw [getN_def]) (by repeat (first | exact ext_refl _ | apply ext_over | apply ext_alloc))
theorem put_yes (a b:Int) (x v:BitVec 64) (w:World) (h:Fm a b) :
  Calls Tryz.prog 163 #[.agg #[.int .i64 a,.int .i64 b],.int .u64 (U x),.int .u64 (U v)] w (Ret (.int .u64 (U (putN a b x v))) w):=by
 have ⟨h1,h2,h3,h4⟩:=h
 go_enter Tryz.func163,Tryz.ntmps163
 go_wp2_with (go_at_call 169;refine (formed_yes _ _ _ h).mono ?_;rintro e w' hr;obtain ⟨rfl,s,rfl⟩:=hr.over;clear hr)
 first | refine wp_region_over2 (by kernel_rfl) (by kernel_rfl) ?_ | refine wp_region_over (by kernel_rfl) (by kernel_rfl) ?_
 repeat (go_big_quiet_step ((go_at_call 170;exact over_call (mask_yes _ _ _ h))))
 refine wpQuiet_nil ?_
 intro _ hw'
 obtain ⟨s',hw''⟩:=hw'
 subst hw''
 go_wp2
 go_ret
 exact Ret.int (by rw [putN_def]) (by repeat (first | exact ext_refl _ | apply ext_over | apply ext_alloc))
theorem put_at (a b x v:Int) (X V:BitVec 64) (w:World) (h:Fm a b) (hx:x = U X) (hv:v = U V) :
  Calls Tryz.prog 163 #[.agg #[.int .i64 a,.int .i64 b],.int .u64 x,.int .u64 v] w (Ret (.int .u64 (U (putN a b X V))) w):=by
 subst hx hv
 exact put_yes a b X V w h
theorem get_put (a b:Int) (w v:BitVec 64) (h:Fm a b):getN a b (putN a b w v) = v &&& mostN b:=by
 apply bv_eq;intro i hi
 rw [getN_bit a b _ _ h,BitVec.getLsbD_and,mostN_bit b i (by have:=h.2.2.1;omega) (by have:=h.1;have:=h.2.2.2;omega),Bool.and_comm]
 by_cases e:(i:Int) < b
 ·obtain ⟨h1,h2,h3,h4⟩:=h
  rw [putN_bit a b _ _ _ ⟨h1,h2,h3,h4⟩ (by omega),if_pos (by omega),show a.toNat+i - a.toNat = i by omega]
 ·simp [e]
def nameW (n:Int):BitVec 64:=BitVec.ofNat 64 (n+1).toNat
def nodeI (x:BitVec 64):Int:=U x - 1
def ndW (h:BitVec 64):BitVec 64:=getN 0 21 h
def tagW (h:BitVec 64):BitVec 64:=getN 21 43 h
def folW (h x:BitVec 64):BitVec 64:=putN 21 43 (putN 0 21 h x) (tagW h+1#64)
theorem U_nameW {n:Int} (h0:0 ≤ n) (h1:n < 4611686018427387904):U (nameW n) = n+1:=by
 rw [U_toNat]
 unfold nameW
 rw [BitVec.toNat_ofNat]
 omega
theorem fmN:Fm 0 21:=⟨by decide,by decide,by decide,by decide⟩
theorem fmT:Fm 21 43:=⟨by decide,by decide,by decide,by decide⟩
theorem getN_lt (a b:Int) (x:BitVec 64) (h:Fm a b):(getN a b x).toNat < 2 ^ b.toNat:=by
 apply Nat.lt_pow_two_of_testBit
 intro i hi
 have:=getN_bit a b x i h
 rw [BitVec.getLsbD] at this
 rw [this]
 obtain ⟨h1,h2,h3,h4⟩:=h
 have:decide ((i:Int) < b) = false:=by simp;omega
 rw [this]
 rfl
theorem ndW_lt (h:BitVec 64):U (ndW h) < 2097152:=by
 have:=getN_lt 0 21 h fmN
 rw [U_toNat]
 unfold ndW
 have e:(2:Nat) ^ (21:Int).toNat = 2097152:=by decide
 omega
def sw1T (n:Int) (anew:Tr Int) (done:Bool):Tr Int:=if done then .done n else anew
def swT (p:Pl) (h x:BitVec 64) (n:Int) (anew:Tr Int):Tr Int:=(tryT p.headF h (folW h x)).bind (sw1T n anew)
def pop1T (p:Pl) (anew:Tr Int) (h:BitVec 64):Tr Int:=
 if ndW h = 0#64 then .done (-1) else (getT (p.nxF (nodeI (ndW h)))).bind fun nx => swT p h nx (nodeI (ndW h)) anew
def popT (p:Pl):Nat → Tr Int
 | 0 => .more
 | N+1 => (getT p.headF).bind (pop1T p (popT p N))
def push1T (p:Pl) (n:Int) (anew:Tr Int) (h:BitVec 64):Tr Int:=(setT (p.nxF n) (ndW h)).bind fun _ => swT p h (nameW n) n anew
def pushT (p:Pl) (n:Int):Nat → Tr Int
 | 0 => if p.nxF n = -1 then .done (-1) else .more
 | N+1 => if p.nxF n = -1 then .done (-1) else (getT p.headF).bind (push1T p n (pushT p n N))
def fnxW (p:Pl) (n:Int):BitVec 64:=if n = p.n - 1 then 0#64 else nameW (n+1)
def freshT (p:Pl):Nat → Int → Tr Unit
 | 0,_ => setT p.headF (putN 0 21 0#64 (nameW 0))
 | k+1,n => (setT (p.nxF n) (fnxW p n)).bind fun _ => freshT p k (n+1)
attribute [irreducible] nameW ndW tagW folW nodeI
def PBox (B:Nat) (p:Pl) (w:World):Prop:=w.heap[B]? = some (.cells #[.int .i64 p.n,.int .i64 p.t,.int .i64 p.r,.int .i64 p.d,.int .i64 p.b,.int .i64 p.g] 23 (0,0))
structure Plc (B:Nat) (p:Pl) (w:World):Prop where
 c0:w.cell? ⟨B,0,none⟩ = some (.int .i64 p.n)
 c1:w.cell? ⟨B,1,none⟩ = some (.int .i64 p.t)
 c2:w.cell? ⟨B,2,none⟩ = some (.int .i64 p.r)
 c3:w.cell? ⟨B,3,none⟩ = some (.int .i64 p.d)
 c4:w.cell? ⟨B,4,none⟩ = some (.int .i64 p.b)
 c5:w.cell? ⟨B,5,none⟩ = some (.int .i64 p.g)
 lt:B < w.heap.size
theorem PBox.plc {B:Nat} {p:Pl} {w:World} (h:PBox B p w):Plc B p w:=⟨cell_at h rfl,cell_at h rfl,cell_at h rfl,cell_at h rfl,cell_at h rfl,cell_at h rfl,heap_lt h⟩
theorem PBox.ext {B:Nat} {p:Pl} {w w':World} (h:PBox B p w) (hx:Ext w w'):PBox B p w':=(hx.block _ (heap_lt h)).trans h
theorem nodeField_any (w:World):Calls Tryz.prog 89 #[] w (Ret (.agg #[.int .i64 0,.int .i64 21]) w):=by
 go_enter Tryz.func89,Tryz.ntmps89
 go_wp2
 exact bodyPost_ret (v:=.agg #[.int .i64 0,.int .i64 21]) (by simp [results,Tryz.results89,go_sem]) rfl (Ret.mk (by repeat (first | exact ext_refl _ | apply ext_alloc)))
theorem tagField_any (w:World):Calls Tryz.prog 247 #[] w (Ret (.agg #[.int .i64 21,.int .i64 43]) w):=by
 go_enter Tryz.func247,Tryz.ntmps247
 go_wp2
 exact bodyPost_ret (v:=.agg #[.int .i64 21,.int .i64 43]) (by simp [results,Tryz.results247,go_sem]) rfl (Ret.mk (by repeat (first | exact ext_refl _ | apply ext_alloc)))
theorem getNd_any (h:BitVec 64) (w:World):Calls Tryz.prog 90 #[.agg #[.int .i64 0,.int .i64 21],.int .u64 (U h)] w (Ret (.int .u64 (U (ndW h))) w):=by
 have:=get_yes 0 21 h w fmN
 unfold ndW
 exact this
theorem getTag_any (h:BitVec 64) (w:World):Calls Tryz.prog 90 #[.agg #[.int .i64 21,.int .i64 43],.int .u64 (U h)] w (Ret (.int .u64 (U (tagW h))) w):=by
 have:=get_yes 21 43 h w fmT
 unfold tagW
 exact this
theorem name_any (n:Int) (h0:0 ≤ n) (h1:n < 4611686018427387904) (w:World):Calls Tryz.prog 210 #[.int .i64 n] w (Ret (.int .u64 (U (nameW n))) w):=by
 rw [U_nameW h0 h1]
 go_enter Tryz.func210,Tryz.ntmps210
 go_wp2
 go_ret
 exact Ret.int (by first | rfl | omega | (simp;omega)) (by repeat (first | exact ext_refl _ | apply ext_alloc))
theorem node_PT (x:BitVec 64) (h0:x ≠ 0#64) (h1:U x < 4611686018427387904) (w:World):Calls Tryz.prog 93 #[.int .u64 (U x)] w (Ret (.int .i64 (nodeI x)) w):=by
 have h2:1 ≤ U x:=by
  have h3:=U_nonneg x
  have:U x ≠ 0:=fun e => h0 (U_inj (e.trans U_0.symm))
  omega
 go_enter Tryz.func93,Tryz.ntmps93
 go_wp2
 go_ret
 exact Ret.int (by unfold nodeI;first | rfl | omega | (simp;omega)) (by repeat (first | exact ext_refl _ | apply ext_alloc))
theorem fol_any (h x:BitVec 64) (w:World):Calls Tryz.prog 217 #[.int .u64 (U h),.int .u64 (U x)] w (Ret (.int .u64 (U (folW h x))) w):=by
 have e1:IntKind.u64.wrap (U (tagW h)+1) = U (tagW h+1#64):=by
  have:=U_add (tagW h) 1#64
  rwa [U_1] at this
 have e2:folW h x = putN 21 43 (putN 0 21 h x) (tagW h+1#64):=by unfold folW;rfl
 rw [e2]
 go_enter Tryz.func217,Tryz.ntmps217
 go_wp2_with (go_at_call 247;refine Hid.out ?_)
 refine Lib.hid ?_
 refine (tagField_any _).mono ?_
 rintro e w1 ⟨rfl,hx⟩
 have HXw1:=Lib.hid (hx)
 clear hx
 go_wp2_with (go_at_call 90;refine Hid.out ?_)
 refine Lib.hid ?_
 refine (getTag_any h _).mono ?_
 rintro e w2 ⟨rfl,hx⟩
 have HXw2:=Lib.hid (ext_trans HXw1.out hx)
 clear hx
 go_wp2_with (go_at_call 247;refine Hid.out ?_)
 refine Lib.hid ?_
 refine (tagField_any _).mono ?_
 rintro e w3 ⟨rfl,hx⟩
 have HXw3:=Lib.hid (ext_trans HXw2.out hx)
 clear hx
 go_wp2_with (go_at_call 89;refine Hid.out ?_)
 refine Lib.hid ?_
 refine (nodeField_any _).mono ?_
 rintro e w4 ⟨rfl,hx⟩
 have HXw4:=Lib.hid (ext_trans HXw3.out hx)
 clear hx
 go_wp2_with (go_at_call 163;refine Hid.out ?_)
 refine Lib.hid ?_
 refine (put_yes 0 21 h x _ fmN).mono ?_
 rintro e w5 ⟨rfl,hx⟩
 have HXw5:=Lib.hid (ext_trans HXw4.out hx)
 clear hx
 go_wp2_with (go_at_call 163;refine Hid.out ?_)
 refine Lib.hid ?_
 first | rw [e1] | skip
 refine (put_yes 21 43 (putN 0 21 h x) (tagW h+1#64) _ fmT).mono ?_
 rintro e w6 ⟨rfl,hx⟩
 have HXw6:=Lib.hid (ext_trans HXw5.out hx)
 clear hx
 go_wp2
 go_ret
 exact Ret.mk HXw6.out
theorem ndW_def (h:BitVec 64):ndW h = getN 0 21 h:=by unfold ndW;rfl
theorem tagW_def (h:BitVec 64):tagW h = getN 21 43 h:=by unfold tagW;rfl
theorem folW_def (h x:BitVec 64):folW h x = putN 21 43 (putN 0 21 h x) (tagW h+1#64):=by unfold folW;rfl
theorem nodeI_def (x:BitVec 64):nodeI x = U x - 1:=by unfold nodeI;rfl
theorem small_and (x:BitVec 64) (b:Int) (hb:Fm 0 b) (h:x.toNat < 2 ^ b.toNat):x &&& mostN b = x:=by
 apply bv_eq
 intro i hi
 rw [BitVec.getLsbD_and,mostN_bit b i (by have:=hb.2.2;omega) (by have:=hb.2.2;omega)]
 by_cases hlt:(i:Int) < b
 ·simp [hlt]
 ·have:x.getLsbD i = false:=by
   rw [BitVec.getLsbD]
   exact Nat.testBit_lt_two_pow (Nat.lt_of_lt_of_le h (Nat.pow_le_pow_right (by omega) (by omega)))
  rw [this]
  simp
theorem nd_fol (h x:BitVec 64) (hx:U x < 2097152):ndW (folW h x) = x:=by
 rw [ndW_def,folW_def]
 have h1:getN 0 21 (putN 21 43 (putN 0 21 h x) (tagW h+1#64)) = getN 0 21 (putN 0 21 h x):=by
  apply bv_eq
  intro i hi
  rw [getN_bit _ _ _ _ fmN,getN_bit _ _ _ _ fmN]
  by_cases hlt:(i:Int) < 21
  ·rw [putN_bit _ _ _ _ _ fmT (by simp;omega)]
   have:¬ (21 ≤ ((((0:Int).toNat+i:Nat)):Int) ∧ ((((0:Int).toNat+i:Nat)):Int) < 21+43):=by simp;omega
   simp only [this,if_false]
  ·simp [hlt]
 rw [h1,get_put 0 21 h x fmN]
 refine small_and x 21 fmN ?_
 rw [U_toNat] at hx
 have e:(2:Nat) ^ (21:Int).toNat = 2097152:=by decide
 omega
theorem tag_fol (h x:BitVec 64) (ht:U (tagW h) < 8796093022207):U (tagW (folW h x)) = U (tagW h)+1:=by
 have e0:tagW (folW h x) = (tagW h+1#64) &&& mostN 43:=by
  rw [tagW_def (folW h x),folW_def,get_put 21 43 _ _ fmT]
 have e1:(tagW h+1#64).toNat = (tagW h).toNat+1:=by
  rw [U_toNat] at ht
  rw [BitVec.toNat_add]
  have:(1#64).toNat = 1:=by decide
  rw [this]
  omega
 rw [e0,small_and _ 43 ⟨by decide,by decide,by decide,by decide⟩ ?_,U_toNat,e1,U_toNat]
 ·simp
 ·rw [e1]
  rw [U_toNat] at ht
  have e:(2:Nat) ^ (43:Int).toNat = 8796093022208:=by decide
  omega
theorem nd_fresh:ndW (putN 0 21 0#64 (nameW 0)) = nameW 0:=by
 rw [ndW_def,get_put 0 21 _ _ fmN]
 refine small_and _ 21 fmN ?_
 have h:=U_nameW (n:=0) (by omega) (by omega)
 rw [U_toNat] at h
 have e:(2:Nat) ^ (21:Int).toNat = 2097152:=by decide
 omega
theorem tag_fresh:U (tagW (putN 0 21 0#64 (nameW 0))) = 0:=by
 have:tagW (putN 0 21 0#64 (nameW 0)) = 0#64:=by
  rw [tagW_def]
  apply bv_eq
  intro i hi
  rw [getN_bit _ _ _ _ fmT]
  by_cases hlt:(i:Int) < 43
  ·rw [putN_bit _ _ _ _ _ fmN (by simp;omega)]
   have:¬ (0 ≤ ((((21:Int).toNat+i:Nat)):Int) ∧ ((((21:Int).toNat+i:Nat)):Int) < 0+21):=by simp;omega
   simp only [this,if_false]
   simp
  ·simp [hlt]
 rw [this,U_0]
theorem nameW_ne0 {n:Int} (h0:0 ≤ n) (h1:n < 4611686018427387904):nameW n ≠ 0#64:=fun e => by
 have:=U_nameW h0 h1
 rw [e,U_0] at this
 omega
theorem node_name {n:Int} (h0:0 ≤ n) (h1:n < 4611686018427387904):nodeI (nameW n) = n:=by
 rw [nodeI_def,U_nameW h0 h1]
 omega
theorem name_inj {n m:Int} (h0:0 ≤ n) (h1:n < 4611686018427387904) (g0:0 ≤ m) (g1:m < 4611686018427387904) (e:nameW n = nameW m):n = m:=by
 rw [← node_name h0 h1,e,node_name g0 g1]
def nxN (p:Pl) (n:Int):Nat:=(p.nxF n).toNat
def InR (p:Pl) (n:Int):Prop:=0 ≤ n ∧ n < p.n
theorem InR.lt {p:Pl} (hp:p.ok) {n:Int} (h:InR p n):n < 2097151:=by
 have:=hp.1
 have:=h.2
 omega
theorem nx_eq {p:Pl} (hp:p.ok) {n:Int} (h:InR p n):p.nxF n = p.cnt p.t+n * 5+1:=by
 unfold Pl.nxF
 rw [if_pos ⟨hp,h.1,h.2⟩]
 rfl
theorem nx_in {p:Pl} (hp:p.ok) {n:Int} (h:InR p n):1 ≤ p.nxF n ∧ p.nxF n < p.sizeF:=by
 have h1:=Pl.cnt_in hp (x:=p.t) (Pl.t_in hp).1 (Int.le_refl _)
 rw [nx_eq hp h]
 unfold Pl.sizeF
 rw [if_pos hp]
 unfold Pl.nod
 have:=h.1
 have:=h.2
 omega
theorem nxN_inj {p:Pl} (hp:p.ok) {n m:Int} (h:InR p n) (g:InR p m) (e:nxN p n = nxN p m):n = m:=by
 have h1:=nx_in hp h
 have h2:=nx_in hp g
 have h3:=nx_eq hp h
 have h4:=nx_eq hp g
 unfold nxN at e
 omega
theorem nxN_pos {p:Pl} (hp:p.ok) {n:Int} (h:InR p n):nxN p n ≠ 0:=by
 have h1:=nx_in hp h
 unfold nxN
 omega
theorem head_zero {p:Pl} (hp:p.ok):p.headF = 0:=by unfold Pl.headF;rw [if_pos hp]
theorem size_pos {p:Pl} (hp:p.ok):1 ≤ p.sizeF ∧ p.sizeF ≤ 5275777:=by
 unfold Pl.sizeF
 rw [if_pos hp]
 have h1:=Pl.nod_in hp (x:=p.n) (by have:=hp.1;omega) (Int.le_refl _)
 omega
structure Mg (p:Pl) (M:MS):Prop where
 n:M.n = 1
 s:M.sz 0 = p.sizeF.toNat
 e:M.ep 0 = 1#64
theorem Mg.done {p:Pl} {M:MS} (h:Mg p M) (r op at_:Int) (a b:BitVec 64):Mg p (M.done r op at_ a b):=⟨h.n,h.s,h.e⟩
theorem Mg.ok {p:Pl} {M:MS} (h:Mg p M) {op at_:Int} (h1:0 ≤ at_) (h2:at_ < p.sizeF) (h3:0 ≤ op) (h4:op ≤ 3):DoOk M 0 1#64 op at_:=by
 refine ⟨⟨by omega,by rw [h.n];omega,?_⟩,h1,?_,h3,h4⟩
 ·exact h.e
 ·show at_ < (M.sz 0:Int)
  rw [h.s]
  omega
theorem wd_done (M:MS) (op at_:Int) (a b:BitVec 64) (j:Nat):(M.done 0 op at_ a b).wd 0 j = if j = at_.toNat then nextW op (M.wd 0 at_.toNat) a b else M.wd 0 j:=by
 show (if (0:Nat) = (0:Int).toNat ∧ j = at_.toNat then _ else _) = _
 by_cases h:j = at_.toNat <;> simp [h]
theorem wd_load (M:MS) (at_:Int) (a b:BitVec 64) (j:Nat):(M.done 0 0 at_ a b).wd 0 j = M.wd 0 j:=by
 rw [wd_done]
 split
 ·rename_i h
  rw [h]
  rfl
 ·rfl
theorem wd_store (M:MS) (at_:Int) (a b:BitVec 64) (j:Nat):(M.done 0 1 at_ a b).wd 0 j = if j = at_.toNat then a else M.wd 0 j:=by
 rw [wd_done]
 rfl
theorem wd_swap (M:MS) (at_:Int) (a b:BitVec 64) (j:Nat):(M.done 0 2 at_ a b).wd 0 j = if j = at_.toNat then (if M.wd 0 at_.toNat = a then b else M.wd 0 at_.toNat) else M.wd 0 j:=by
 rw [wd_done]
 congr 1
 unfold nextW
 by_cases h:M.wd 0 at_.toNat = a <;> simp [h]
def nmL:List Int → BitVec 64
 | [] => 0#64
 | n :: _ => nameW n
def Ch (p:Pl) (M:MS):List Int → Prop
 | [] => True
 | n :: l => M.wd 0 (nxN p n) = nmL l ∧ Ch p M l
theorem Ch.congr {p:Pl} {M M':MS}:∀ {l:List Int},(∀ n ∈ l,M'.wd 0 (nxN p n) = M.wd 0 (nxN p n)) → Ch p M l → Ch p M' l
 | [],_,_ => trivial
 | n :: l,h,hc => ⟨(h n (by simp)).trans hc.1,Ch.congr (fun m hm => h m (by simp [hm])) hc.2⟩
structure FL (p:Pl) (M:MS) (l:List Int) (T:Nat):Prop where
 mg:Mg p M
 hd:ndW (M.wd 0 0) = nmL l
 tg:U (tagW (M.wd 0 0)) = T
 ch:Ch p M l
 nd:l.Nodup
 rg:∀ n ∈ l,InR p n
theorem nmL_lt {p:Pl} (hp:p.ok) {l:List Int} (h:∀ n ∈ l,InR p n):U (nmL l) < 2097152:=by
 cases l with
 | nil => rw [nmL,U_0];omega
 | cons n l =>
  have h1:=h n (by simp)
  have h2:=h1.lt hp
  rw [nmL,U_nameW h1.1 (by omega)]
  omega
inductive PS:Type
 | pl:PS
 | pn (h:BitVec 64):PS
 | ps (h nx:BitVec 64):PS
 | ql (n:Int):PS
 | qs (n:Int) (h:BitVec 64):PS
 | qw (n:Int) (h:BitVec 64):PS
 | dn (r:Int):PS
def trT (p:Pl) (N:Nat):PS → Tr Int
 | .pl => popT p (N+1)
 | .pn h => (getT (p.nxF (nodeI (ndW h)))).bind fun nx => swT p h nx (nodeI (ndW h)) (popT p N)
 | .ps h nx => swT p h nx (nodeI (ndW h)) (popT p N)
 | .ql n => pushT p n (N+1)
 | .qs n h => push1T p n (pushT p n N) h
 | .qw n h => swT p h (nameW n) n (pushT p n N)
 | .dn r => .done r
def StepT (p:Pl) (M:MS) (N:Nat) (s:PS) (M':MS) (N':Nat) (s':PS):Prop:=
 ∃ a f,trT p N s = .ask a f ∧ DoOk M 0 1#64 a.op a.at_ ∧ M' = M.done 0 a.op a.at_ a.a a.b ∧ f (M.wd (0:Int).toNat a.at_.toNat) = trT p N' s'
theorem runT_step {p:Pl} {M M':MS} {N N':Nat} {s s':PS} (h:StepT p M N s M' N' s') (k:Nat):runT 0 1#64 (k+1) (trT p N s) M = (runT 0 1#64 k (trT p N' s') M').map (fun x => (x.1,x.2.1+1,x.2.2)):=by
 obtain ⟨a,f,h1,h2,rfl,h4⟩:=h
 rw [h1,runT,if_pos h2,h4]
def HW (M:MS) (T:Nat) (h:BitVec 64):Prop:=h = M.wd 0 0 ∨ U (tagW h) < T
def Th (p:Pl) (M:MS) (T:Nat):PS → Prop
 | .pl => True
 | .pn h => HW M T h ∧ ∃ n,InR p n ∧ ndW h = nameW n
 | .ps h nx => HW M T h ∧ ∃ n,InR p n ∧ ndW h = nameW n ∧ (h = M.wd 0 0 → nx = M.wd 0 (nxN p n))
 | .ql n => InR p n
 | .qs n h => InR p n ∧ HW M T h
 | .qw n h => InR p n ∧ HW M T h ∧ M.wd 0 (nxN p n) = ndW h
 | .dn _ => True
def PS.node:PS → Option Int
 | .ql n => some n
 | .qs n _ => some n
 | .qw n _ => some n
 | _ => none
structure Eff (p:Pl) (M:MS) (T:Nat) (M':MS) (T':Nat) (w:Option Int):Prop where
 hd:(M'.wd 0 0 = M.wd 0 0 ∧ T' = T) ∨ T' = T+1
 nx:∀ n,InR p n → w ≠ some n → M'.wd 0 (nxN p n) = M.wd 0 (nxN p n)
theorem Th.frame {p:Pl} (hp:p.ok) {M M':MS} {l l':List Int} {T T':Nat} {w:Option Int} {s:PS} (hL:FL p M l T) (hL':FL p M' l' T') (hE:Eff p M T M' T' w) (hw:∀ n,w = some n → n ∉ l ∧ s.node ≠ some n) (h:Th p M T s):Th p M' T' s:=by
 have hHW:∀ x,HW M T x → HW M' T' x:=fun x hx => by
  rcases hE.hd with ⟨h1,h2⟩ | h1
  ·unfold HW;rw [h1,h2];exact hx
  ·refine .inr ?_
   rcases hx with rfl | hx
   ·rw [hL.tg];omega
   ·omega
 have hold:∀ x,HW M T x → x = M'.wd 0 0 → M'.wd 0 0 = M.wd 0 0:=fun x hx e => by
  rcases hE.hd with ⟨h1,_⟩ | h1
  ·exact h1
  ·exfalso
   have h2:=hL'.tg
   rw [← e] at h2
   rcases hx with rfl | hx
   ·have h3:=hL.tg
    omega
   ·omega
 cases s with
 | pl => trivial
 | pn x => exact ⟨hHW x h.1,h.2⟩
 | ps x nx =>
  obtain ⟨h1,n,h2,h3,h4⟩:=h
  refine ⟨hHW x h1,n,h2,h3,fun e => ?_⟩
  have e1:=hold x h1 e
  have e2:=h4 (e.trans e1)
  rw [e2]
  refine (hE.nx n h2 fun hwn => ?_).symm
  have hnl:=(hw n hwn).1
  have h5:=hL.hd
  rw [← e1,← e,h3] at h5
  cases l with
  | nil => exact nameW_ne0 h2.1 (by have:=h2.lt hp;omega) h5
  | cons m l =>
   have hm:=hL.rg m (by simp)
   have:n = m:=name_inj h2.1 (by have:=h2.lt hp;omega) hm.1 (by have:=hm.lt hp;omega) h5
   subst this
   exact hnl (by simp)
 | ql n => exact h
 | qs n x => exact ⟨h.1,hHW x h.2⟩
 | qw n x =>
  refine ⟨h.1,hHW x h.2.1,?_⟩
  rw [← h.2.2]
  exact hE.nx n h.1 fun hwn => (hw n hwn).2 rfl
 | dn r => trivial
theorem Eff.same {p:Pl} {M M':MS} {T:Nat} {w:Option Int} (h:∀ j,M'.wd 0 j = M.wd 0 j):Eff p M T M' T w:=⟨.inl ⟨h 0,rfl⟩,fun _ _ _ => h _⟩
theorem FL.same {p:Pl} {M M':MS} {l:List Int} {T:Nat} (h:FL p M l T) (hm:Mg p M') (hs:∀ j,M'.wd 0 j = M.wd 0 j):FL p M' l T:=
 ⟨hm,by rw [hs];exact h.hd,by rw [hs];exact h.tg,h.ch.congr fun n _ => hs _,h.nd,h.rg⟩
structure Nxt (p:Pl) (M:MS) (l:List Int) (T:Nat) (N:Nat) (s:PS) (M':MS) (l':List Int) (T':Nat) (N':Nat) (s':PS):Prop where
 st:StepT p M N s M' N' s'
 fl:FL p M' l' T'
 th:Th p M' T' s'
 ef:Eff p M T M' T' s.node
 N0:N ≤ N' + 1
 T0:T' ≤ T+1
section
variable {p:Pl} (hp:p.ok) {M:MS} {l:List Int} {T N:Nat} (hL:FL p M l T)
include hp hL
theorem go_pl:∃ M' s',Nxt p M l T N .pl M' l T N s' ∧ (l = [] → s' = .dn (-1)) ∧ (l ≠ [] → s' = .pn (M.wd 0 0)) ∧ (∀ j,M'.wd 0 j = M.wd 0 j):=by
 have hz:=head_zero hp
 have hok:DoOk M 0 1#64 0 p.headF:=by rw [hz];exact hL.mg.ok (by omega) (by have:=size_pos hp;omega) (by omega) (by omega)
 have hw:=wd_load M p.headF 0#64 0#64
 have hm:=hL.mg.done 0 0 p.headF 0#64 0#64
 have hfl:=hL.same hm hw
 have hst:∀ s',pop1T p (popT p N) (M.wd 0 0) = trT p N s' → StepT p M N .pl (M.done 0 0 p.headF 0#64 0#64) N s':=fun s' e => ⟨ldA p.headF,fun x => pop1T p (popT p N) x,rfl,hok,rfl,by
  rw [← e]
  show pop1T p _ (M.wd 0 p.headF.toNat) = _
  rw [hz]
  rfl⟩
 cases l with
 | nil =>
  refine ⟨_,.dn (-1),⟨hst _ ?_,hfl,trivial,Eff.same hw,by omega,by omega⟩,fun _ => rfl,fun h => absurd rfl h,hw⟩
  unfold pop1T
  have h0:ndW (M.wd 0 0) = 0#64:=hL.hd
  rw [if_pos h0]
  rfl
 | cons n l =>
  have hn:=hL.rg n (by simp)
  have h0:ndW (M.wd 0 0) ≠ 0#64:=by rw [hL.hd];exact nameW_ne0 hn.1 (by have:=hn.lt hp;omega)
  refine ⟨_,.pn (M.wd 0 0),⟨hst _ ?_,hfl,⟨.inl (hw 0).symm,n,hn,hL.hd⟩,Eff.same hw,by omega,by omega⟩,fun h => by simp at h,fun _ => rfl,hw⟩
  unfold pop1T
  rw [if_neg h0]
  rfl
theorem go_pn {h:BitVec 64} (ht:Th p M T (.pn h)):∃ M' nx,Nxt p M l T N (.pn h) M' l T N (.ps h nx) ∧ (∀ j,M'.wd 0 j = M.wd 0 j):=by
 obtain ⟨h1,n,h2,h3⟩:=ht
 have e:nodeI (ndW h) = n:=by rw [h3,node_name h2.1 (by have:=h2.lt hp;omega)]
 have hx:=nx_in hp h2
 have hok:DoOk M 0 1#64 0 (p.nxF n):=hL.mg.ok (by omega) hx.2 (by omega) (by omega)
 have hw:=wd_load M (p.nxF n) 0#64 0#64
 refine ⟨M.done 0 0 (p.nxF n) 0#64 0#64,M.wd 0 (nxN p n),⟨⟨ldA (p.nxF n),fun x => swT p h x n (popT p N),?_,hok,rfl,?_⟩,hL.same (hL.mg.done _ _ _ _ _) hw,⟨?_,n,h2,h3,fun _ => (hw _).symm⟩,Eff.same hw,by omega,by omega⟩,hw⟩
 ·show (getT _).bind _ = _
  rw [e]
  rfl
 ·show swT p h _ n _ = swT p h _ (nodeI (ndW h)) _
  rw [e]
  rfl
 ·unfold HW
  rw [hw]
  exact h1
theorem go_ps (hT:T < 8796093022207) {h nx:BitVec 64} (ht:Th p M T (.ps h nx)):∃ M' l' T' N' s',Nxt p M l T (N+1) (.ps h nx) M' l' T' N' s' ∧ ((∃ n,l = n :: l' ∧ s' = .dn n ∧ T' = T+1 ∧ h = M.wd 0 0) ∨ (l' = l ∧ s' = .pl ∧ T' = T ∧ h ≠ M.wd 0 0)):=by
 obtain ⟨h1,n,h2,h3,h4⟩:=ht
 have e:nodeI (ndW h) = n:=by rw [h3,node_name h2.1 (by have:=h2.lt hp;omega)]
 have hz:=head_zero hp
 have hok:DoOk M 0 1#64 2 p.headF:=by rw [hz];exact hL.mg.ok (by omega) (by have:=size_pos hp;omega) (by omega) (by omega)
 have hw:=wd_swap M p.headF h (folW h nx)
 rw [hz] at hw
 have hm:=hL.mg.done 0 2 p.headF h (folW h nx)
 have hst:∀ N' s',sw1T n (popT p (N+1)) (M.wd 0 0 == h) = trT p N' s' → StepT p M (N+1) (.ps h nx) (M.done 0 2 p.headF h (folW h nx)) N' s':=fun N' s' ee => ⟨swA p.headF h (folW h nx),fun z => sw1T (nodeI (ndW h)) (popT p (N+1)) (z == h),rfl,hok,rfl,by
  rw [← ee,e]
  show sw1T n _ (M.wd 0 p.headF.toNat == h) = _
  rw [hz]
  rfl⟩
 by_cases hh:h = M.wd 0 0
 ·have hnx:=h4 hh
  have hc:=hL.hd
  rw [← hh,h3] at hc
  cases l with
  | nil => exact absurd hc (nameW_ne0 h2.1 (by have:=h2.lt hp;omega))
  | cons m l =>
   have hmr:=hL.rg m (by simp)
   have:n = m:=name_inj h2.1 (by have:=h2.lt hp;omega) hmr.1 (by have:=hmr.lt hp;omega) hc
   subst this
   have hcl:=hL.ch.1
   rw [← hnx] at hcl
   have hrg:∀ k ∈ l,InR p k:=fun k hk => hL.rg k (by simp [hk])
   have w0:(M.done 0 2 p.headF h (folW h nx)).wd 0 0 = folW h nx:=by
    rw [hz]
    rw [hw 0]
    simp [hh]
   have wn:∀ k,InR p k → (M.done 0 2 p.headF h (folW h nx)).wd 0 (nxN p k) = M.wd 0 (nxN p k):=fun k hk => by
    rw [hz]
    rw [hw,if_neg (by simpa using nxN_pos hp hk)]
   refine ⟨_,l,T+1,N+1,.dn n,⟨hst _ _ ?_,⟨hm,?_,?_,hL.ch.2.congr fun k hk => wn k (hrg k hk),hL.nd.of_cons,hrg⟩,trivial,⟨.inr rfl,fun k hk _ => wn k hk⟩,by omega,by omega⟩,.inl ⟨n,rfl,rfl,rfl,hh⟩⟩
   ·rw [hh]
    simp [sw1T,trT]
   ·rw [w0,nd_fol _ _ (by rw [hcl];exact nmL_lt hp hrg),hcl]
   ·have:=hL.tg
    rw [← hh] at this
    rw [w0,tag_fol _ _ (by omega),this]
    omega
 ·have hsame:∀ j,(M.done 0 2 p.headF h (folW h nx)).wd 0 j = M.wd 0 j:=fun j => by
   rw [hz,hw]
   split
   ·rename_i hj
    rw [hj,if_neg (fun e => hh e.symm)]
   ·rfl
  refine ⟨_,l,T,N,.pl,⟨hst _ _ ?_,hL.same hm hsame,trivial,Eff.same hsame,by omega,by omega⟩,.inr ⟨rfl,rfl,rfl,hh⟩⟩
  have:(M.wd 0 0 == h) = false:=beq_eq_false_iff_ne.2 fun e => hh e.symm
  rw [this]
  simp [sw1T,trT]
end
end Go.Proofs.YthjklbonebnekaaGreat

