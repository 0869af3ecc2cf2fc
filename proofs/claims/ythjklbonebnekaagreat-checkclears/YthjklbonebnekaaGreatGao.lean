/-
  A list of fields in memory, and what a layout is: plain facts, nothing of the program. No conditions.
-/
import Derived.Test.YthjklbonebnekaaGreatGaa
import Derived.Test.YthjklbonebnekaaGreatGac
import Derived.Test.YthjklbonebnekaaGreatGak
import Derived.Test.YthjklbonebnekaaGreatGam
import Derived.Test.YthjklbonebnekaaGreatGan
set_option maxRecDepth 8000
set_option maxHeartbeats 4000000
namespace Go.Proofs.YthjklbonebnekaaGreat
open Go Go.RowKit
def fA (l:List (Int × Int)) (i:Nat):Int:=(l.getD i (0,0)).1
def fB (l:List (Int × Int)) (i:Nat):Int:=(l.getD i (0,0)).2
def Fs (w:World) (v:Value) (l:List (Int × Int)):Prop:=
 ∃ a0 cap,v = .slice a0 l.length cap ∧ l.length ≤ cap ∧ (0 < l.length → ∃ b off,a0 = some ⟨b,off,none⟩ ∧ b < w.heap.size ∧
  ∀ i,i < l.length → w.cell? ⟨b,off+i * 2,none⟩ = some (.int .i64 (fA l i)) ∧ w.cell? ⟨b,off+i * 2+1,none⟩ = some (.int .i64 (fB l i)))
theorem Fs.ext {w w':World} {v:Value} {l:List (Int × Int)} (h:Fs w v l) (hb:Below w.heap.size w w'):Fs w' v l:=by
 obtain ⟨a0,cap,e,hc,hr⟩:=h
 refine ⟨a0,cap,e,hc,fun hl => ?_⟩
 obtain ⟨b,off,ea,hlt,hcell⟩:=hr hl
 refine ⟨b,off,ea,Nat.lt_of_lt_of_le hlt hb.size,fun i hi => ?_⟩
 rw [hb.cell (p:=⟨b,off+i * 2,none⟩) hlt,hb.cell (p:=⟨b,off+i * 2+1,none⟩) hlt]
 exact hcell i hi
theorem Fs.at {w:World} {a0:Option Addr} {n cap:Nat} {l:List (Int × Int)} (h:Fs w (.slice a0 n cap) l) (hl:0 < l.length):∃ b off,a0 = some ⟨b,off,none⟩ ∧ b < w.heap.size ∧
  ∀ i,i < l.length → w.cell? ⟨b,off+i * 2,none⟩ = some (.int .i64 (fA l i)) ∧ w.cell? ⟨b,off+i * 2+1,none⟩ = some (.int .i64 (fB l i)):=by
 obtain ⟨a,c,e,_,hr⟩:=h
 simp at e
 obtain ⟨rfl,rfl,rfl⟩:=e
 exact hr hl
theorem Fs.over {w:World} {v:Value} {l:List (Int × Int)} (h:Fs w v l) (s:Sub w):Fs (YthjklbonebnekaaGreat.over w s) v l:=h.ext (over_below w s)
def Meet (a b c d:Int):Prop:=a < c+d ∧ c < a+b
def LayTo (l:List (Int × Int)) (k:Nat):Prop:=∀ i,i < k → Fm (fA l i) (fB l i) ∧ ∀ j,j < i → ¬ Meet (fA l j) (fB l j) (fA l i) (fB l i)
def LayF (l:List (Int × Int)):Prop:=LayTo l l.length
theorem LayTo.zero (l:List (Int × Int)):LayTo l 0:=fun _ h => absurd h (Nat.not_lt_zero _)
theorem LayTo.succ {l:List (Int × Int)} {k:Nat} (h:LayTo l k) (hf:Fm (fA l k) (fB l k)) (hm:∀ j,j < k → ¬ Meet (fA l j) (fB l j) (fA l k) (fB l k)):LayTo l (k+1):=fun i hi => by
 by_cases e:i = k
 ·subst e;exact ⟨hf,hm⟩
 ·exact h i (by omega)
theorem LayTo.mono {l:List (Int × Int)} {k m:Nat} (h:LayTo l k) (hm:m ≤ k):LayTo l m:=fun i hi => h i (by omega)
def covTo (l:List (Int × Int)):Nat → BitVec 64
 | 0 => 0#64
 | k+1 => covTo l k ||| maskN (fA l k) (fB l k)
theorem covTo_bit (l:List (Int × Int)) (i:Nat) (hi:i < 64):∀ k,LayTo l k → ((covTo l k).getLsbD i = true ↔ ∃ j,j < k ∧ fA l j ≤ i ∧ (i:Int) < fA l j+fB l j)
 | 0,_ => by simp [covTo]
 | k+1,h => by
  unfold covTo
  rw [BitVec.getLsbD_or,maskN_bit _ _ _ (h k (by omega)).1 hi,Bool.or_eq_true,covTo_bit l i hi k (h.mono (by omega)),decide_eq_true_eq]
  constructor
  ·rintro (⟨j,h1,h2,h3⟩ | ⟨h2,h3⟩)
   ·exact ⟨j,by omega,h2,h3⟩
   ·exact ⟨k,by omega,h2,h3⟩
  ·rintro ⟨j,h1,h2,h3⟩
   by_cases e:j = k
   ·subst e;exact .inr ⟨h2,h3⟩
   ·exact .inl ⟨j,by omega,h2,h3⟩
theorem cov_meet (l:List (Int × Int)) (k:Nat) (h:LayTo l k) (hf:Fm (fA l k) (fB l k)) :
  covTo l k &&& maskN (fA l k) (fB l k) = 0#64 ↔ ∀ j,j < k → ¬ Meet (fA l j) (fB l j) (fA l k) (fB l k):=by
 constructor
 ·intro e j hj hm
  have hj':=(h j hj).1
  obtain ⟨m1,m2⟩:=hm
  obtain ⟨a1,a2,a3,a4⟩:=hf
  obtain ⟨b1,b2,b3,b4⟩:=hj'
  have key:∀ i:Nat,fA l j ≤ i → (i:Int) < fA l j+fB l j → fA l k ≤ i → (i:Int) < fA l k+fB l k → False:=fun i p1 p2 p3 p4 => by
   have hi:i < 64:=by omega
   have h1:(covTo l k).getLsbD i = true:=(covTo_bit l i hi k h).2 ⟨j,hj,p1,p2⟩
   have h2:(maskN (fA l k) (fB l k)).getLsbD i = true:=by rw [maskN_bit _ _ _ ⟨a1,a2,a3,a4⟩ hi];simp;omega
   have h3:(covTo l k &&& maskN (fA l k) (fB l k)).getLsbD i = (0#64).getLsbD i:=by rw [e]
   rw [BitVec.getLsbD_and,h1,h2] at h3
   simp at h3
  by_cases c:fA l j ≤ fA l k
  ·exact key (fA l k).toNat (by omega) (by omega) (by omega) (by omega)
  ·exact key (fA l j).toNat (by omega) (by omega) (by omega) (by omega)
 ·intro hm
  apply bv_eq;intro i hi
  rw [BitVec.getLsbD_and,maskN_bit _ _ _ hf hi]
  by_cases c:(covTo l k).getLsbD i = true
  ·obtain ⟨j,hj,p1,p2⟩:=(covTo_bit l i hi k h).1 c
   have hn:=hm j hj
   have:¬ (fA l k ≤ i ∧ (i:Int) < fA l k+fB l k):=fun ⟨q1,q2⟩ => hn ⟨by omega,by omega⟩
   simp [this]
  ·simp [c]
theorem U_ne0 (x:BitVec 64) (h:x ≠ 0#64):(U x != 0) = true:=by
 rw [bne_iff_ne];intro e;exact h (U_inj (by rw [e,U_0]))
theorem U_eq0 (x:BitVec 64) (h:x = 0#64):(U x != 0) = false:=by rw [h,U_0];rfl
def packTo (l:List (Int × Int)) (v:List (BitVec 64)):Nat → BitVec 64
 | 0 => 0#64
 | k+1 => putN (fA l k) (fB l k) (packTo l v k) (uN v k)
def FitTo (l:List (Int × Int)) (v:List (BitVec 64)) (k:Nat):Prop:=∀ i,i < k → U (uN v i) ≤ U (mostN (fB l i))
theorem FitTo.zero (l:List (Int × Int)) (v:List (BitVec 64)):FitTo l v 0:=fun _ h => absurd h (Nat.not_lt_zero _)
theorem FitTo.succ {l:List (Int × Int)} {v:List (BitVec 64)} {k:Nat} (h:FitTo l v k) (hf:U (uN v k) ≤ U (mostN (fB l k))):FitTo l v (k+1):=fun i hi => by
 by_cases e:i = k
 ·subst e;exact hf
 ·exact h i (by omega)
def PackOk (l:List (Int × Int)) (v:List (BitVec 64)):Prop:=LayF l ∧ l.length = v.length ∧ FitTo l v l.length
def PackSpec (l:List (Int × Int)) (v:List (BitVec 64)) (x:BitVec 64) (e:Int):Prop:=
 (PackOk l v → x = packTo l v l.length ∧ e = 0) ∧ (¬ PackOk l v → x = 0#64 ∧ e = 1)
theorem PackSpec.no {l:List (Int × Int)} {v:List (BitVec 64)} {x:BitVec 64} {e:Int} (hs:PackSpec l v x e) (h:¬ PackOk l v):Hid (Value.int .u64 0 = Value.int .u64 (U x) ∧ Value.int .i64 1 = Value.int .i64 e):=
 ⟨by rw [(hs.2 h).1,U_0],by rw [(hs.2 h).2]⟩
theorem PackSpec.yes {l:List (Int × Int)} {v:List (BitVec 64)} {x:BitVec 64} {e:Int} (hs:PackSpec l v x e) (h:PackOk l v):Hid (Value.int .u64 (U (packTo l v l.length)) = Value.int .u64 (U x) ∧ Value.int .i64 0 = Value.int .i64 e):=
 ⟨by rw [(hs.1 h).1],by rw [(hs.1 h).2]⟩
theorem own_ext {w w':World} {base:Nat} {e:TypeId} {size:Nat} {v:Value} {n:Nat} {xs:List Value} (h:w.ownsRow base e size v n xs) (hb:Ext w w'):w'.ownsRow base e size v n xs:=by
 obtain ⟨h1,h2⟩:=h
 refine ⟨h1,?_⟩
 rcases h2 with h2 | ⟨g,cap,cur,hv,hg,hh,r⟩
 ·exact .inl h2
 ·have hlt:g < w.heap.size:=(Array.getElem?_eq_some_iff.1 hh).1
  exact .inr ⟨g,cap,cur,hv,hg,by rw [hb.block g hlt];exact hh,r⟩
theorem ext_grown0 {w u u':World} (h:Ext w u) (hg:u.grownBy u' none):Ext w u':=h.grown hg h.size fun k hk => by cases hk
def F2 (p:Int × Int):List Value:=[.int .i64 p.1,.int .i64 p.2]
def WU (x:BitVec 64):Value:=.int .u64 (U x)
theorem us_of_own {w:World} {base:Nat} {e:TypeId} {v:Value} {l:List (BitVec 64)} (h:w.ownsRow base e 1 v l.length (l.map WU)):Us w v l:=by
 obtain ⟨h1,h2⟩:=h
 rcases h2 with ⟨rfl,hn⟩ | ⟨g,cap,cur,rfl,hg,hh,hc,hm,hs,ht⟩
 ·have:l = []:=List.eq_nil_of_length_eq_zero hn
  subst this
  exact ⟨none,0,rfl,Nat.le_refl _,fun h => absurd h (Nat.not_lt_zero _)⟩
 ·refine ⟨some ⟨g,0,none⟩,cap,rfl,hc,fun _ => ⟨g,0,rfl,(Array.getElem?_eq_some_iff.1 hh).1,fun i hi => ?_⟩⟩
  rw [cell_of_row w g (0+i) cur e (0,0) hh,Nat.zero_add]
  have h3:(cur.toList.take (l.length * 1))[i]? = (l.map WU)[i]?:=by rw [ht]
  rw [List.getElem?_take,if_pos (by omega),List.getElem?_map] at h3
  rw [← Array.getElem?_toList,h3,List.getElem?_eq_getElem hi]
  unfold uN WU
  rw [List.getD_eq_getElem?_getD,List.getElem?_eq_getElem hi]
  rfl
def In (l:List (Int × Int)) (j i:Nat):Prop:=fA l j ≤ i ∧ (i:Int) < fA l j+fB l j
theorem packTo_bit (l:List (Int × Int)) (v:List (BitVec 64)) (i:Nat) (hi:i < 64):∀ k,LayTo l k →
  (∀ j,j < k → In l j i → (packTo l v k).getLsbD i = (uN v j).getLsbD (i - (fA l j).toNat)) ∧ ((∀ j,j < k → ¬ In l j i) → (packTo l v k).getLsbD i = false)
 | 0,_ => ⟨fun j hj => absurd hj (Nat.not_lt_zero _),fun _ => by simp [packTo]⟩
 | k+1,h => by
  have ih:=packTo_bit l v i hi k (h.mono (by omega))
  have hk:=h k (by omega)
  unfold packTo
  rw [putN_bit _ _ _ _ i hk.1 hi]
  constructor
  ·intro j hj hin
   by_cases e:j = k
   ·subst e;exact if_pos hin
   ·rw [if_neg ?_]
    ·exact ih.1 j (by omega) hin
    ·intro hin'
     refine hk.2 j (by omega) ?_
     have h1:=(h j hj).1
     have h2:=hk.1
     unfold Meet
     unfold In at hin
     omega
  ·intro hno
   have hk':¬ (fA l k ≤ i ∧ (i:Int) < fA l k+fB l k):=hno k (by omega)
   rw [if_neg hk']
   exact ih.2 fun j hj => hno j (by omega)
def splitL (l:List (Int × Int)) (x:BitVec 64):List (BitVec 64):=(List.range l.length).map fun i => getN (fA l i) (fB l i) x
def SplitSpec (l:List (Int × Int)) (x:BitVec 64) (r:List (BitVec 64)) (e:Int):Prop:=
 (¬ LayF l → r = [] ∧ e = 1) ∧ (LayF l → x &&& ~~~ (covTo l l.length) ≠ 0#64 → r = [] ∧ e = 10) ∧ (LayF l → x &&& ~~~ (covTo l l.length) = 0#64 → r = splitL l x ∧ e = 0)
def RetSp (r:List (BitVec 64)) (x:Int) (w:World) (e:Ending) (w':World):Prop:=∃ sv,e = .returned (.tuple #[sv,.int .i64 x]) ∧ Ext w w' ∧ Us w' sv r
theorem RetSp.over {r:List (BitVec 64)} {x:Int} {w:World} {e:Ending} {w':World} (h:RetSp r x w e w'):∃ sv,e = .returned (.tuple #[sv,.int .i64 x]) ∧ ∃ s,w' = YthjklbonebnekaaGreat.over w s ∧ Hid (Us (YthjklbonebnekaaGreat.over w s) sv r):=by
 obtain ⟨sv,he,hx,hu⟩:=h
 obtain ⟨s,rfl⟩:=over_of hx
 exact ⟨sv,he,s,rfl,hu⟩
theorem us_nil (w:World):Us w (.slice none 0 0) []:=⟨none,0,rfl,Nat.le_refl _,fun h => absurd h (Nat.not_lt_zero _)⟩
theorem RetSp.none {r:List (BitVec 64)} {x y:Int} {w w':World} (hr:r = []) (hx:y = x) (h:Ext w w'):RetSp r x w (.returned (.tuple #[.slice Option.none 0 0,.int .i64 y])) w':=by
 subst hr hx
 exact ⟨_,rfl,h,us_nil w'⟩
theorem RetSp.some {r:List (BitVec 64)} {x y:Int} {sv:Value} {w w':World} (hx:y = x) (h:Ext w w') (hu:Us w' sv r):RetSp r x w (.returned (.tuple #[sv,.int .i64 y])) w':=by
 subst hx
 exact ⟨_,rfl,h,hu⟩
theorem splitL_len (l:List (Int × Int)) (x:BitVec 64):(splitL l x).length = l.length:=by simp [splitL]
theorem splitL_at (l:List (Int × Int)) (x:BitVec 64) (k:Nat) (h:k < l.length):uN (splitL l x) k = getN (fA l k) (fB l k) x:=by
 unfold uN splitL
 rw [List.getD_eq_getElem?_getD,List.getElem?_map,List.getElem?_range h];rfl
def fillTo (l:List (BitVec 64)) (k:Nat):List Value:=(List.range l.length).map fun i => if i < k then WU (uN l i) else .int .u64 0
theorem fill_zero (l:List (BitVec 64)):fillTo l 0 = List.replicate l.length (.int .u64 0):=by
 unfold fillTo
 apply List.ext_getElem
 ·simp
 ·intro i h1 h2;simp
theorem fill_all (l:List (BitVec 64)):fillTo l l.length = l.map WU:=by
 unfold fillTo
 apply List.ext_getElem
 ·simp
 ·intro i h1 h2
  simp at h1
  simp only [List.getElem_map,List.getElem_range,if_pos h1]
  unfold uN
  rw [List.getD_eq_getElem?_getD,List.getElem?_eq_getElem h1];rfl
theorem fill_set (l:List (BitVec 64)) (k:Nat):(fillTo l k).set k (WU (uN l k)) = fillTo l (k+1):=by
 unfold fillTo
 apply List.ext_getElem
 ·simp
 ·intro i h1 h2
  rw [List.getElem_set]
  simp only [List.getElem_map,List.getElem_range]
  by_cases e:k = i
  ·subst e;rw [if_pos rfl,if_pos (by omega)]
  ·rw [if_neg e]
   by_cases e2:i < k
   ·rw [if_pos e2,if_pos (by omega)]
   ·rw [if_neg e2,if_neg (by omega)]
theorem fill_len (l:List (BitVec 64)) (k:Nat):(fillTo l k).length = l.length:=by simp [fillTo]
def bvI (x:Int):BitVec 64:=BitVec.ofNat 64 x.toNat
theorem U_bvI (x:Int) (h1:0 ≤ x) (h2:x < 18446744073709551616):U (bvI x) = x:=by
 rw [U_toNat]
 unfold bvI
 rw [BitVec.toNat_ofNat]
 omega
theorem bvI_bit (x j:Nat):(bvI (x:Int)).getLsbD j = (decide (j < 64) && x.testBit j):=by
 unfold bvI
 rw [BitVec.getLsbD_ofNat,Int.toNat_natCast]
theorem U_getN (a b:Int) (x:BitVec 64) (h:Fm a b):U (getN a b x) = U x / 2 ^ a.toNat % 2 ^ b.toNat:=by
 have e:(getN a b x).toNat = x.toNat / 2 ^ a.toNat % 2 ^ b.toNat:=by
  apply Nat.eq_of_testBit_eq
  intro i
  rw [Nat.testBit_mod_two_pow,Nat.testBit_div_two_pow]
  have:=getN_bit a b x i h
  rw [BitVec.getLsbD,BitVec.getLsbD] at this
  rw [this,Nat.add_comm]
  congr 1
  obtain ⟨h1,h2,h3,h4⟩:=h
  simp only [decide_eq_decide]
  omega
 rw [U_toNat,U_toNat,e]
 simp
def upF (n most:Int):Bool:=decide (0 ≤ n ∧ n ≤ most)
theorem upF_yes {n most:Int} (h1:0 ≤ n) (h2:n ≤ most):upF n most = true:=decide_eq_true ⟨h1,h2⟩
theorem upF_no {n most:Int} (h:¬ (0 ≤ n ∧ n ≤ most)):upF n most = false:=decide_eq_false h
attribute [irreducible] upF
def Made (Y:World) (b:Nat) (c:Array Value) (t:TypeId) (Z:World):Prop:=Z.heap[b]? = some (.cells c t (0,0)) ∧ Y.heap.size ≤ b
theorem Made.ext {Y Z Z':World} {b:Nat} {c:Array Value} {t:TypeId} (h:Made Y b c t Z) (hb:Ext Z Z'):Made Y b c t Z':=⟨by rw [hb.block _ (hp_lt h.1)];exact h.1,h.2⟩
theorem Made.over {Y Z:World} {b:Nat} {c:Array Value} {t:TypeId} (h:Made Y b c t Z) (s:Sub Z):Made Y b c t (YthjklbonebnekaaGreat.over Z s):=h.ext (over_below Z s)
theorem Made.alloc {Y Z:World} {b:Nat} {c:Array Value} {t:TypeId} (h:Made Y b c t Z) (o:Obj):Made Y b c t (Z.alloc o):=h.ext (ext_alloc o (ext_refl Z))
theorem Made.mk {Y Z:World} (c:Array Value) (t:TypeId) (h:Ext Y Z):Made Y Z.heap.size c t (Z.alloc (.cells c t)):=⟨hp_at _ _ _ rfl,h.size⟩
theorem Made.set {Y Z:World} {b:Nat} {c:Array Value} {t:TypeId} (h:Made Y b c t Z) (i:Nat) (x:Value):Made Y b (c.setIfInBounds i x) t (Z.setCell ⟨b,i,none⟩ x):=⟨set_same x h.1,h.2⟩
theorem Made.far {Y Z:World} {b b':Nat} {c:Array Value} {t:TypeId} (h:Made Y b c t Z) (hne:b ≠ b') (i:Nat) (x:Value):Made Y b c t (Z.setCell ⟨b',i,none⟩ x):=⟨by rw [set_other x hne];exact h.1,h.2⟩
theorem Made.ne {Y Z:World} {b:Nat} {c:Array Value} {t:TypeId} (h:Made Y b c t Z):b ≠ Z.heap.size:=fun e => by
 have:=hp_lt h.1
 omega
def RetFs (l:List (Int × Int)) (w:World) (e:Ending) (w':World):Prop:=∃ sv,e = .returned sv ∧ Ext w w' ∧ Fs w' sv l
theorem RetFs.over {l:List (Int × Int)} {w:World} {e:Ending} {w':World} (h:RetFs l w e w'):∃ sv,e = .returned sv ∧ ∃ s,w' = YthjklbonebnekaaGreat.over w s ∧ Hid (Fs (YthjklbonebnekaaGreat.over w s) sv l):=by
 obtain ⟨sv,he,hx,hu⟩:=h
 obtain ⟨s,rfl⟩:=over_of hx
 exact ⟨sv,he,s,rfl,Lib.hid hu⟩
def RetRow (l:List (BitVec 64)) (w:World) (e:Ending) (w':World):Prop:=∃ sv,e = .returned sv ∧ Ext w w' ∧ Us w' sv l
theorem RetRow.over {l:List (BitVec 64)} {w:World} {e:Ending} {w':World} (h:RetRow l w e w'):∃ sv,e = .returned sv ∧ ∃ s,w' = YthjklbonebnekaaGreat.over w s ∧ Hid (Us (YthjklbonebnekaaGreat.over w s) sv l):=by
 obtain ⟨sv,he,hx,hu⟩:=h
 obtain ⟨s,rfl⟩:=over_of hx
 exact ⟨sv,he,s,rfl,Lib.hid hu⟩
structure St where
 g:Int
 m:Int
 k:Int
deriving DecidableEq
def St.ok (s:St):Prop:=0 ≤ s.g ∧ s.g ≤ 1073741823 ∧ 0 ≤ s.m ∧ s.m ≤ 3 ∧ 0 ≤ s.k ∧ s.k ≤ 2
instance stOkDec (s:St):Decidable s.ok:=by unfold St.ok;exact inferInstance
def St.num (s:St):Int:=s.g+s.m * 1073741824+s.k * 4294967296
def St.word (s:St):BitVec 64:=if s.ok then BitVec.ofNat 64 s.num.toNat else 0#64
def stL:List (Int × Int):=[(0,30),(30,2),(32,2)]
def St.ns (s:St):List (BitVec 64):=[bvI s.g,bvI s.m,bvI s.k]
theorem stL_lay:LayF stL:=by
 intro i hi
 have h:i < 3:=hi
 have e:i = 0 ∨ i = 1 ∨ i = 2:=by omega
 rcases e with rfl | rfl | rfl
 ·exact ⟨⟨by decide,by decide,by decide,by decide⟩,fun j hj => absurd hj (Nat.not_lt_zero _)⟩
 ·refine ⟨⟨by decide,by decide,by decide,by decide⟩,fun j hj => ?_⟩
  obtain rfl:j = 0:=by omega
  unfold Meet
  decide
 ·refine ⟨⟨by decide,by decide,by decide,by decide⟩,fun j hj => ?_⟩
  have e:j = 0 ∨ j = 1:=by omega
  unfold Meet
  rcases e with rfl | rfl <;> decide
theorem U_word (s:St) (h:s.ok):U s.word = s.num:=by
 unfold St.word
 rw [if_pos h]
 have h':=h
 unfold St.ok at h'
 exact U_bvI s.num (by unfold St.num;omega) (by unfold St.num;omega)
theorem word_no (s:St) (h:¬ s.ok):s.word = 0#64:=by unfold St.word;rw [if_neg h]
theorem U_most30:U (mostN 30) = 1073741823:=by rw [mostN_def];exact U_of _ _ (by decide)
theorem U_most2:U (mostN 2) = 3:=by rw [mostN_def];exact U_of _ _ (by decide)
theorem st_fit (s:St) (h:s.ok):PackOk stL s.ns:=by
 refine ⟨stL_lay,rfl,?_⟩
 intro i hi
 have hi':i < 3:=hi
 unfold St.ok at h
 have e:i = 0 ∨ i = 1 ∨ i = 2:=by omega
 rcases e with rfl | rfl | rfl
 ·show U (bvI s.g) ≤ U (mostN 30)
  rw [U_most30,U_bvI _ (by omega) (by omega)];omega
 ·show U (bvI s.m) ≤ U (mostN 2)
  rw [U_most2,U_bvI _ (by omega) (by omega)];omega
 ·show U (bvI s.k) ≤ U (mostN 2)
  rw [U_most2,U_bvI _ (by omega) (by omega)];omega
theorem st_pack (s:St) (h:s.ok):packTo stL s.ns 3 = s.word:=by
 have h':=h
 unfold St.ok at h'
 obtain ⟨g,m,k⟩:=s
 simp only at h'
 obtain ⟨G,rfl⟩:=Int.eq_ofNat_of_zero_le (show 0 ≤ g by omega)
 obtain ⟨M,rfl⟩:=Int.eq_ofNat_of_zero_le (show 0 ≤ m by omega)
 obtain ⟨K,rfl⟩:=Int.eq_ofNat_of_zero_le (show 0 ≤ k by omega)
 apply bv_eq
 intro i hi
 have hp:=packTo_bit stL (St.ns ⟨G,M,K⟩) i hi 3 stL_lay
 unfold St.word
 rw [if_pos h,BitVec.getLsbD_ofNat]
 have en:(St.num ⟨(G:Int),(M:Int),(K:Int)⟩).toNat = 2 ^ 32 * K+(2 ^ 30 * M+G):=by
  unfold St.num;simp only;omega
 rw [en,Nat.testBit_two_pow_mul_add K (by omega),decide_eq_true hi,Bool.true_and]
 have b:∀ (x j:Nat),(bvI (x:Int)).getLsbD j = (decide (j < 64) && x.testBit j):=fun x j => by
  unfold bvI
  rw [BitVec.getLsbD_ofNat,Int.toNat_natCast]
 by_cases c1:i < 30
 ·rw [hp.1 0 (by omega) ⟨by show (0:Int) ≤ i;omega,by show (i:Int) < 0+30;omega⟩,if_pos (by omega),Nat.testBit_two_pow_mul_add M (by omega),if_pos c1]
  show (bvI (G:Int)).getLsbD (i - 0) = _
  rw [b,decide_eq_true (by omega),Bool.true_and,Nat.sub_zero]
 ·by_cases c2:i < 32
  ·rw [hp.1 1 (by omega) ⟨by show (30:Int) ≤ i;omega,by show (i:Int) < 30+2;omega⟩,if_pos (by omega),Nat.testBit_two_pow_mul_add M (by omega),if_neg c1]
   show (bvI (M:Int)).getLsbD (i - 30) = _
   rw [b,decide_eq_true (by omega),Bool.true_and]
  ·rw [if_neg c2]
   by_cases c3:i < 34
   ·rw [hp.1 2 (by omega) ⟨by show (32:Int) ≤ i;omega,by show (i:Int) < 32+2;omega⟩]
    show (bvI (K:Int)).getLsbD (i - 32) = _
    rw [b,decide_eq_true (by omega),Bool.true_and]
   ·rw [hp.2 ?_]
    ·symm
     apply Nat.testBit_lt_two_pow
     have e1:2 ^ 2 ≤ 2 ^ (i - 32):=Nat.pow_le_pow_right (by decide) (by omega)
     omega
    ·intro j hj hin
     have e:j = 0 ∨ j = 1 ∨ j = 2:=by omega
     rcases e with rfl | rfl | rfl
     ·have:(i:Int) < 0+30:=hin.2;omega
     ·have:(i:Int) < 30+2:=hin.2;omega
     ·have:(i:Int) < 32+2:=hin.2;omega
theorem U_get0 (x:BitVec 64):U (getN 0 30 x) = U x % 1073741824:=by
 rw [U_getN 0 30 x ⟨by decide,by decide,by decide,by decide⟩]
 show U x / 1 % 1073741824 = _
 rw [Int.ediv_one]
theorem U_get1 (x:BitVec 64):U (getN 30 2 x) = U x / 1073741824 % 4:=U_getN 30 2 x ⟨by decide,by decide,by decide,by decide⟩
theorem U_get2 (x:BitVec 64):U (getN 32 2 x) = U x / 4294967296 % 4:=U_getN 32 2 x ⟨by decide,by decide,by decide,by decide⟩
theorem st_split (x:BitVec 64):splitL stL x = [getN 0 30 x,getN 30 2 x,getN 32 2 x]:=rfl
theorem st_cov:covTo stL 3 = 17179869183#64:=by
 show ((0#64 ||| maskN 0 30) ||| maskN 30 2) ||| maskN 32 2 = _
 simp only [maskN_def,mostN_def]
 decide
theorem st_out (x:BitVec 64):x &&& ~~~ (covTo stL 3) = 0#64 ↔ U x < 17179869184:=by
 rw [st_cov,U_toNat]
 have e:(x &&& ~~~ 17179869183#64 = 0#64) ↔ x >>> 34 = 0#64:=by
  constructor
  ·intro h
   apply bv_eq
   intro i hi
   have h1:(x &&& ~~~ 17179869183#64).getLsbD (34+i) = (0#64).getLsbD (34+i):=by rw [h]
   rw [BitVec.getLsbD_ushiftRight]
   by_cases c:34+i < 64
   ·rw [BitVec.getLsbD_and,BitVec.getLsbD_not,show 17179869183#64 = BitVec.allOnes 64 >>> 30 from by decide,BitVec.getLsbD_ushiftRight,BitVec.getLsbD_allOnes] at h1
    have c2:¬ (30+(34+i) < 64):=by omega
    simpa [c,c2] using h1
   ·rw [BitVec.getLsbD_of_ge x _ (by omega)];simp
  ·intro h
   apply bv_eq
   intro i hi
   rw [BitVec.getLsbD_and,BitVec.getLsbD_not,show 17179869183#64 = BitVec.allOnes 64 >>> 30 from by decide,BitVec.getLsbD_ushiftRight,BitVec.getLsbD_allOnes]
   by_cases c:30+i < 64
   ·simp [c]
   ·have h1:(x >>> 34).getLsbD (i - 34) = (0#64).getLsbD (i - 34):=by rw [h]
    rw [BitVec.getLsbD_ushiftRight,show 34+(i - 34) = i by omega] at h1
    rw [h1]
    simp
 rw [e]
 constructor
 ·intro h
  have h1:(x >>> 34).toNat = 0:=by rw [h];rfl
  rw [BitVec.toNat_ushiftRight,Nat.shiftRight_eq_div_pow] at h1
  have h2:x.toNat / 17179869184 = 0:=h1
  omega
 ·intro h
  apply BitVec.eq_of_toNat_eq
  rw [BitVec.toNat_ushiftRight,Nat.shiftRight_eq_div_pow]
  show x.toNat / 17179869184 = 0
  omega
def stN (x:BitVec 64):St:=⟨U x % 1073741824,U x / 1073741824 % 4,U x / 4294967296 % 4⟩
def isW (x:BitVec 64):Prop:=U x < 17179869184 ∧ (stN x).ok
instance isWDec (x:BitVec 64):Decidable (isW x):=by unfold isW;exact inferInstance
def ofS (x:BitVec 64):St:=if isW x then stN x else ⟨0,0,0⟩
theorem isW_num (x:BitVec 64):isW x ↔ ((stN x).ok ∧ (stN x).num = U x):=by
 have h0:=U_nonneg x
 have h1:=U_lt x
 unfold isW
 constructor
 ·rintro ⟨h,k⟩
  refine ⟨k,?_⟩
  unfold St.num stN
  simp only
  omega
 ·rintro ⟨k,h⟩
  refine ⟨?_,k⟩
  unfold St.ok at k
  unfold St.num at h
  omega
theorem isW_word (s:St) (h:s.ok):isW s.word ∧ ofS s.word = s:=by
 have e:stN s.word = s:=by
  have h':=h
  unfold St.ok at h'
  unfold stN
  rw [U_word s h]
  obtain ⟨g,m,k⟩:=s
  unfold St.num
  simp only at h' ⊢
  have e1:(g+m * 1073741824+k * 4294967296) % 1073741824 = g:=by omega
  have e2:(g+m * 1073741824+k * 4294967296) / 1073741824 % 4 = m:=by omega
  have e3:(g+m * 1073741824+k * 4294967296) / 4294967296 % 4 = k:=by omega
  rw [e1,e2,e3]
 have hw:isW s.word:=(isW_num _).2 (by rw [e];exact ⟨h,(U_word s h).symm⟩)
 refine ⟨hw,?_⟩
 unfold ofS
 rw [if_pos hw,e]
theorem word_inj {s t:St} (hs:s.ok) (ht:t.ok) (h:s.word = t.word):s = t:=by
 rw [← (isW_word s hs).2,← (isW_word t ht).2,h]
def St.freed (s:St) (most:Int):St:=if most ≤ s.g then ⟨s.g,3,0⟩ else ⟨wrap64 (s.g+1),0,0⟩
theorem six_at {w:World} {b:Nat} {x0 x1 x2 x3 x4 x5:Value} {t:TypeId} (h:w.heap[b]? = some (.cells #[x0,x1,x2,x3,x4,x5] t (0,0))):w.cell? ⟨b,0,none⟩ = some x0 ∧ w.cell? ⟨b,1,none⟩ = some x1 ∧ w.cell? ⟨b,2,none⟩ = some x2 ∧
  w.cell? ⟨b,3,none⟩ = some x3 ∧ w.cell? ⟨b,4,none⟩ = some x4 ∧ w.cell? ⟨b,5,none⟩ = some x5 ∧ (∀ o,w.frozen? ⟨b,o,none⟩ = false) ∧ b < w.heap.size:=
 ⟨cell_at h rfl,cell_at h rfl,cell_at h rfl,cell_at h rfl,cell_at h rfl,cell_at h rfl,fun _ => free_at h,hp_lt h⟩
def Pl.wdsF (p:Pl) (x:Int):List Int:=if p.ok ∧ 0 ≤ x ∧ x < p.n then [p.fdF x 0,p.fdF x 1,p.fdF x 2] else []
def RetWds (p:Pl) (x:Int) (w:World) (e:Ending) (w':World):Prop:=∃ v,e = .returned v ∧ Ext w w' ∧ Is w' v (p.wdsF x)
theorem Tryz.infoIntP:(Tryz.prog.info? 3).map (fun i => (i.zero,i.size,i.bytes)) = some (some (.int .i64 0),1,8):=by kernel_rfl
theorem int_info:∃ i,Tryz.prog.info? 3 = some i ∧ i.zero = some (.int .i64 0) ∧ i.size = 1 ∧ i.bytes = 8:=by
 have h:=Tryz.infoIntP
 cases hi:Tryz.prog.info? 3 with
 | none => rw [hi] at h;cases h
 | some i =>
  rw [hi] at h
  simp at h
  exact ⟨i,rfl,h.1,h.2.1,h.2.2⟩
theorem made3 {w:World} {base g:Nat} {t:TypeId} (h:w.ownsRow base t 1 (.slice (some ⟨g,0,none⟩) 3 3) 3 (madeCells (Value.int .i64 0).cells (3 * 1)).toList) :
  w.heap[g]? = some (.cells #[.int .i64 0,.int .i64 0,.int .i64 0] t (0,0)):=by
 rcases h.2 with ⟨h1,_⟩ | ⟨g',cap,cur,h1,_,hh,_,_,hs,ht⟩
 ·cases h1
 ·simp at h1
  obtain ⟨rfl,rfl⟩:=h1
  have e1:(madeCells (Value.int IntKind.i64 0).cells 3).toList = List.replicate 3 (Value.int .i64 0):=toList_madeCells_one _ _
  rw [Nat.mul_one,e1,List.take_of_length_le (by simp;omega)] at ht
  have:cur = #[.int .i64 0,.int .i64 0,.int .i64 0]:=by
   apply Array.toList_inj.1
   rw [ht]
   rfl
  rw [hh,this]
def fdA (p:Pl) (x:Int) (k:Nat):Array Value:=#[.int .i64 (if 0 < k then p.fdF x 0 else 0),.int .i64 (if 1 < k then p.fdF x 1 else 0),.int .i64 (if 2 < k then p.fdF x 2 else 0)]
theorem fdA_at (p:Pl) (x:Int) (k:Nat) (h:k < 3):∃ y,(fdA p x k)[k]? = some (.int .i64 y):=by
 rcases (show k = 0 ∨ k = 1 ∨ k = 2 by omega) with rfl | rfl | rfl <;> exact ⟨_,rfl⟩
theorem fdA_set (p:Pl) (x:Int) (k:Nat) (h:k < 3):(fdA p x k).setIfInBounds k (.int .i64 (p.fdF x (k:Int))) = fdA p x (k+1):=by
 rcases (show k = 0 ∨ k = 1 ∨ k = 2 by omega) with rfl | rfl | rfl <;> rfl
structure WdIn (p:Pl) (x:Int) (W:World) (bl k:Nat) (wr:World):Prop where
 ext:Ext W wr
 row:wr.heap[bl]? = some (.cells (fdA p x k) 3 (0,0))
def WdRel (p:Pl) (x:Int) (W:World) (bl:Nat) (i:Value) (wr:World):Prop:=∃ k:Nat,k ≤ 3 ∧ i = .int .i64 (k:Int) ∧ WdIn p x W bl k wr
theorem wds_any (p:Pl) (x:Int) (w:World):Calls Tryz.prog 271 #[plV p,.int .i64 x] w (RetWds p x w):=by
 by_cases hq:p.ok ∧ 0 ≤ x ∧ x < p.n
 ·have E:p.stF x = p.nod x:=by unfold Pl.stF;rw [if_pos hq]
  have hb:=Pl.nod_in hq.1 hq.2.1 (Int.le_of_lt hq.2.2)
  have Q:=Lib.hid hq
  clear hq
  go_enter Tryz.func271,Tryz.ntmps271
  obtain ⟨iU,hiU,hy0,hy1,hy2⟩:=int_info
  go_wp2_with (first
   | (go_at_call 21;refine (state_any p _ _).mono ?_;rintro e w' hr';obtain ⟨rfl,s,rfl⟩:=hr'.over;clear hr')
   | (at_make;refine Hid.out ?_))
  refine Lib.hid ?_
  have HX:Hid (Ext w (over (w.alloc (.cells #[.int .i64 p.n,.int .i64 p.t,.int .i64 p.r,.int .i64 p.d,.int .i64 p.b,.int .i64 p.g] 23)) s)):=Lib.hid (ext_over s (ext_alloc _ (ext_refl w)))
  obtain ⟨bp,hbp⟩ : ∃ bp,bp = w.heap.size:=⟨_,rfl⟩
  have HB:Hid ((over (w.alloc (.cells #[.int .i64 p.n,.int .i64 p.t,.int .i64 p.r,.int .i64 p.d,.int .i64 p.b,.int .i64 p.g] 23)) s).heap[bp]? = some (.cells #[.int .i64 p.n,.int .i64 p.t,.int .i64 p.r,.int .i64 p.d,.int .i64 p.b,.int .i64 p.g] 23 (0,0))):=Lib.hid (by subst hbp;rw [(over_below _ _).block _ (by simp)];exact hp_at _ _ _ rfl)
  rw [← hbp]
  generalize (over (w.alloc (.cells #[.int .i64 p.n,.int .i64 p.t,.int .i64 p.r,.int .i64 p.d,.int .i64 p.b,.int .i64 p.g] 23)) s) = W at HX HB ⊢
  clear hbp
  have hbp:=hp_lt HB.out
  refine wpList_make_full _ rfl (.const (.int .i64 3)) (.const (.int .i64 3)) 29 rfl W.heap.size 3 iU (.int .i64 0) 1 Tryz.underlying29 hiU hy0 hy1 .i64 .i64 3 3 3 rfl rfl rfl rfl (by rw [hy2];omega) (by unfold maxLen;omega) (Nat.le_refl _) ?_
  intro w1 ho1 hg1
  have HR:Hid (WdIn p x W W.heap.size 0 w1):=Lib.hid ⟨(ext_refl W).grown hg1 (Nat.le_refl _) (fun k hk => by cases hk),made3 ho1⟩
  clear ho1 hg1
  obtain ⟨bl,hbl⟩ : ∃ bl,bl = W.heap.size:=⟨_,rfl⟩
  rw [← hbl] at HR ⊢
  have n1:bl ≠ bp:=by omega
  have n2:bp ≠ bl:=by omega
  have HBL:=Lib.hid hbl
  clear hbl
  go_wp2
  go_loopw [12] (fun i wr => WdRel p x W bl i wr) (fun i _ => (3 - intOf i).toNat)
  case atStart => exact ⟨0,Nat.zero_le _,rfl,HR.out⟩
  case round =>
   clear HR
   obtain ⟨k,hk,rfl,hR⟩:=hrel
   have HR:=Lib.hid hR
   clear hR
   obtain ⟨p0,p1,p2,p3,p4,p5,pz,pl⟩:=six_at ((HR.out.ext.block bp hbp).trans HB.out)
   have bz:∀ o,wr.frozen? ⟨bl,o,none⟩ = false:=fun _ => free_at HR.out.row
   have bll:=hp_lt HR.out.row
   by_cases hlt:k < 3
   ·obtain ⟨y,hy⟩:=fdA_at p x k hlt
    have bc:=cell_at HR.out.row hy
    clear hy
    go_wp2_with (go_at_call 99;refine (field_any p _ _ _).mono ?_;rintro e w' hr';obtain ⟨rfl,s1,rfl⟩:=hr'.over;clear hr')
    refine ⟨⟨k+1,by omega,by go_num,?_⟩,by simp [intOf];omega⟩
    refine ⟨ext_set _ (by show W.heap.size ≤ bl;have:=HBL.out;omega) (ext_over s1 HR.out.ext),?_⟩
    rw [← fdA_set p x k hlt]
    exact set_same _ (((over_below wr s1).block bl bll).trans HR.out.row)
   ·obtain rfl:k = 3:=by omega
    go_wp2
    go_ret
    refine ⟨_,rfl,ext_trans HX.out HR.out.ext,?_⟩
    unfold Pl.wdsF
    rw [if_pos Q.out]
    refine ⟨_,_,rfl,Nat.le_refl _,fun _ => ⟨bl,0,rfl,bll,fun i hi => ?_⟩⟩
    rw [Nat.zero_add]
    refine cell_at HR.out.row ?_
    rcases (show i = 0 ∨ i = 1 ∨ i = 2 by simp at hi;omega) with rfl | rfl | rfl <;> rfl
 ·have E:p.stF x = -1:=by unfold Pl.stF;rw [if_neg hq]
  have Q:=Lib.hid hq
  clear hq
  go_enter Tryz.func271,Tryz.ntmps271
  go_wp2_with (first | (go_at_call 21;refine (state_any p _ _).mono ?_;rintro e w' hr';obtain ⟨rfl,s,rfl⟩:=hr'.over;clear hr'))
  go_ret
  refine ⟨_,rfl,by repeat (first | exact ext_refl _ | apply ext_over | apply ext_alloc),?_⟩
  unfold Pl.wdsF
  rw [if_neg Q.out]
  exact ⟨none,0,rfl,Nat.le_refl _,fun h => absurd h (Nat.not_lt_zero _)⟩
def cntW (m:Int):BitVec 64:=nameW (m - 1)
theorem U_cntW {m:Int} (h0:0 ≤ m) (h1:m < 4611686018427387904):U (cntW m) = m:=by
 unfold cntW
 rw [U_nameH (by omega) (by omega)]
 omega
def cntR (p:Pl) (x:BitVec 64):Int:=if p.r < U x then p.r else U x
def nmdR (p:Pl) (x:BitVec 64):Int:=if U x = 0 ∨ p.n < U x then -1 else U x - 1
theorem cntR_in {p:Pl} (hp:p.ok) (x:BitVec 64):0 ≤ cntR p x ∧ cntR p x ≤ p.r:=by
 have h0:=U_nonneg x
 unfold Pl.ok at hp
 unfold cntR
 split <;> omega
theorem nmdR_in (p:Pl) (x:BitVec 64):nmdR p x = -1 ∨ (0 ≤ nmdR p x ∧ nmdR p x < p.n):=by
 have h0:=U_nonneg x
 unfold nmdR
 split
 ·exact .inl rfl
 ·omega
theorem cntR_cntW {p:Pl} {m:Int} (h0:0 ≤ m) (h1:m ≤ p.r) (h2:p.r ≤ 1024):cntR p (cntW m) = m:=by
 unfold cntR
 rw [U_cntW h0 (by omega)]
 split <;> omega
theorem nmdR_nameW {p:Pl} {n:Int} (h0:0 ≤ n) (h1:n < p.n) (h2:p.n ≤ 1048576):nmdR p (nameW n) = n:=by
 unfold nmdR
 rw [U_nameW h0 (by omega),if_neg (by omega)]
 omega
def put2T (p:Pl) (t m:Int):Tr Int:=(setT (p.cntF t) (cntW (m+1))).bind fun _ => .done (m+1)
def put1T (p:Pl) (t n:Int) (x:BitVec 64):Tr Int:=if cntR p x = p.r then .done (-1) else (setT (p.retF t (cntR p x)) (nameW n)).bind fun _ => put2T p t (cntR p x)
def putT (p:Pl) (t n:Int):Tr Int:=(getT (p.cntF t)).bind (put1T p t n)
def wipeL (p:Pl) (n:Int):List Acc:=(p.wdsF n).map fun at_ => stA at_ 0#64
def frd2T (p:Pl) (n:Int) (s:St) (N:Nat):Tr Int:=if s.m = 3 then .done (-1) else pushT p n N
def frdT (p:Pl) (n:Int) (N:Nat) (x:BitVec 64):Tr Int:=(setT (p.stF n) ((ofS x).freed p.g).word).bind fun _ => frd2T p n ((ofS x).freed p.g) N
def rcl1T (p:Pl) (n:Int) (N:Nat):Tr Int:=(getT (p.stF n)).bind (frdT p n N)
def rclT (p:Pl) (n:Int) (N:Nat):Tr Int:=lsT (wipeL p n) (rcl1T p n N)
def fillT (p:Pl) (t i last:Int):Tr Unit:=if i = last then .done () else (getT (p.retF t last)).bind fun x => setT (p.retF t i) x
def lv3T (p:Pl) (n:Int) (N:Nat) (tr:Tr Int):Tr Int:=(rclT p n N).bind fun _ => tr
def lv2T (p:Pl) (t n:Int) (N:Nat) (left:Int) (tr:Tr Int):Tr Int:=(setT (p.cntF t) (cntW left)).bind fun _ => lv3T p n N tr
def lv1T (p:Pl) (t i n:Int) (N:Nat) (left:Int) (tr:Tr Int):Tr Int:=(fillT p t i left).bind fun _ => lv2T p t n N left tr
def sc3T (p:Pl) (t i n:Int) (N:Nat) (were left:Int) (go:Int → Int → Tr Int) (b:Bool):Tr Int:=if b then go were left else lv1T p t i n N (left - 1) (go were (left - 1))
def stysT (p:Pl) (n:Int):Tr Bool:=if n = -1 then .done true else hldT p n (p.t * 3 - 1).toNat 0
def sc2T (p:Pl) (t i:Int) (N:Nat) (were left:Int) (go:Int → Int → Tr Int) (x:BitVec 64):Tr Int:=(stysT p (nmdR p x)).bind (sc3T p t i (nmdR p x) N were left go)
def scnT (p:Pl) (t:Int) (N:Nat):Nat → Int → Int → Tr Int
 | 0,were,left => .done (were - left)
 | k+1,were,left => (getT (p.retF t k)).bind (sc2T p t k N were left (scnT p t N k))
def sc1T (p:Pl) (t:Int) (N:Nat) (x:BitVec 64):Tr Int:=scnT p t N (cntR p x).toNat (cntR p x) (cntR p x)
def scanT (p:Pl) (t:Int) (N:Nat):Tr Int:=(getT (p.cntF t)).bind (sc1T p t N)
end Go.Proofs.YthjklbonebnekaaGreat

