/-
  What the calls of slices.Clone, own, Over and Access come to. Conditions: those of each theorem.
-/
import Derived.Test.YthjklbonebnekaaGreatGad
import Derived.Shelf.Abstract
import Derived.Laws.Tables
set_option maxRecDepth 8000
set_option maxHeartbeats 4000000
namespace Go.Proofs.YthjklbonebnekaaGreat
open Go Go.RowKit
theorem eql_slice (P:Program) (w:World) (t e:TypeId) (a:Option Addr) (n c:Nat) (h:P.underlying t = some (.slice e)):(binOp .eql t (.slice a n c) (.slice none 0 0)).run P w = .ok (.bool a.isNone) w:=by
 have h1:∀ d,(Op.equalIn (d+1) t (.slice a n c) (.slice none 0 0)).run P w = .ok a.isNone w:=by
  intro d
  cases a <;> simp [Op.equalIn,run_underlying h]
 simp only [binOp]
 simp [show Op.equal t (.slice a n c) (.slice none 0 0) = Op.equalIn (9999+1) t (.slice a n c) (.slice none 0 0) from rfl,h1 9999]
theorem news_us {w:World} {ad:Addr} {n c:Nat} {l:List (BitVec 64)} (h:Us w (.slice (some ad) n c) l):∀ j u,(l.map W1)[j]? = some u → w.cell? (ad.add j) = some u:=by
 intro j u hj
 have hlt:j < l.length:=by
  have:=(List.getElem?_eq_some_iff.1 hj).1
  simpa using this
 obtain ⟨b,off,ea,_,hc⟩:=h.at (by omega)
 cases ea
 rw [add_at',hc j hlt]
 rw [List.getElem?_map,List.getElem?_eq_getElem hlt] at hj
 simp [W1] at hj
 rw [← hj]
 simp [uN,List.getD_eq_getElem?_getD,hlt]
theorem ones_us (l:List (BitVec 64)):∀ u ∈ l.map W1,u.oneCell' = true:=by
 intro u hu
 obtain ⟨i,_,rfl⟩:=List.mem_map.1 hu
 rfl
theorem usB_of_own {D:Nat → Prop} {base:Nat} {w:World} {v:Value} {l:List (BitVec 64)} (h:w.ownsRow base 40 1 v l.length (l.map W1)) (hb:∀ k,D k → k < base):UsB D w v l:=by
 rcases row_of_own h with ⟨rfl,rfl⟩ | ⟨g,cap,rfl,hc,hg,hlt,hR⟩
 ·exact UsB.nil _ _
 ·exact ⟨_,cap,rfl,hc,fun _ => ⟨g,0,rfl,fun x => Nat.not_lt.2 hg (hb _ x),hlt,fun i hi => by rw [Nat.zero_add];exact hR.cell hi⟩⟩
def RetUs (D:Nat → Prop) (l:List (BitVec 64)) (w:World) (e:Ending) (w':World):Prop:=∃ v,e = .returned v ∧ UsB D w' v l ∧ Ext w w'
theorem cloneU_any (D:Nat → Prop) (l:List (BitVec 64)) (v:Value) (w:World) (hU:Us w v l) (hl:l.length ≤ 1000) (hb:∀ k,D k → k < w.heap.size) :
  Calls Tryz.prog 175 #[v] w (RetUs D l w):=by
 have HU:=Lib.hid hU
 obtain ⟨a0,cap,rfl,hc,hcell⟩:=hU
 have hq:∀ a n c w,(binOp .eql 87 (.slice a n c) (.slice none 0 0)).run Tryz.prog w = .ok (.bool a.isNone) w:=fun a n c w => eql_slice _ w _ _ a n c Tryz.underlying87
 obtain ⟨iU,hiU,hy0,hy1,hy2⟩:=info_parts Tryz.infoU64t
 cases a0 with
 | none =>
  have e0:l = []:=by
   cases l with
   | nil => rfl
   | cons x l => obtain ⟨b,off,ea,_⟩:=hcell (by simp);cases ea
  subst e0
  clear hcell HU
  go_enter Tryz.func175,Tryz.ntmps175
  go_wp2
  go_ret
  exact ⟨_,rfl,UsB.nil _ _,ext_refl _⟩
 | some ad =>
  clear hcell
  go_enter Tryz.func175,Tryz.ntmps175
  go_wp2_with (at_builtin;refine wpList_append_own _ rfl (.tmp 5) (.tmp 6) 87 rfl w.heap.size 40 iU (.int .u64 0) 1 8 Tryz.underlying87 hiU hy0 hy1 hy2 rfl (by decide) (.slice (some ⟨w.heap.size,0,none⟩) 0 0) 0 [] rfl (own_none _ _ _ _ _ rfl (Nat.le_refl _)) ad l.length cap (l.map W1) rfl (by simp) (news_us (HU.out.ext (ext_alloc _ (ext_refl w)))) (ones_us l) (by unfold maxLen;omega) (by omega) (by simp) ?_;intro v2 w2 hv2 hg2 hn2;have HV:=Lib.hid hv2;have HX2:=Lib.hid (ext_own (w:=w) (ext_alloc _ (ext_refl w)) (own_none _ _ _ 1 _ rfl (Nat.le_refl _)) hg2);clear hv2 hg2 hn2)
  go_ret
  refine ⟨_,rfl,?_,HX2.out⟩
  have hv:=HV.out
  rw [Nat.zero_add,List.nil_append] at hv
  exact usB_of_own hv hb
theorem ownU_any (D:Nat → Prop) (l:List (BitVec 64)) (v:Value) (w:World) (hU:Us w v l) (hl:l.length ≤ 1000) (hb:∀ k,D k → k < w.heap.size) :
  Calls Tryz.prog 276 #[v] w (RetUs D l w):=by
 have HU:=Lib.hid hU
 have ta:∀ v w,(Instr.typeAssert (.iface 250 v) 20 250 true).run Tryz.prog w = .ok (.tuple #[v,.bool true]) w:=assert_yes
 obtain ⟨a0,cap,rfl,hc,hcell⟩:=hU
 clear hcell
 go_enter Tryz.func276,Tryz.ntmps276
 go_wp2_with (go_at_call 175;refine (cloneU_any (fun k => k < w.heap.size+1) l _ _ (HU.out.ext (ext_alloc _ (ext_refl w))) hl (fun k hk => by simpa using hk)).mono ?_;rintro e w' ⟨v',rfl,hu,hx⟩;obtain ⟨a1,cap1,rfl,_⟩:=id hu;have HU':=Lib.hid hu;have hbx:=(hx.block w.heap.size (by simp)).trans (heap_alloc_new w _);have HX:=Lib.hid hx;have cb:=cell_at (o:=0) hbx rfl;have cz:=free_at (o:=0) hbx;have hlt:=heap_lt hbx;clear hu hx hbx)
 go_ret
 refine ⟨_,rfl,?_,ext_set _ (Nat.le_refl _) (ext_trans (ext_alloc _ (ext_refl w)) HX.out)⟩
 exact (HU'.out.fr (FD.of_fr ((Fr.refl 0 (w.heap.size+1) w').set (p:=⟨w.heap.size,0,none⟩) _ (Nat.zero_le _) (Nat.lt_succ_self _)) fun k _ h => h)).mono fun k hk => Nat.lt_succ_of_lt (hb k hk)
def A4 (a:Acc):List Value:=[.int .i64 a.op,.int .i64 a.at_,.int .u64 (U a.a),.int .u64 (U a.b)]
theorem a4_len (l:List Acc):(l.flatMap A4).length = l.length * 4:=by
 induction l with
 | nil => rfl
 | cons p l ih => rw [List.flatMap_cons,List.length_append,ih];simp [A4];omega
theorem a4_get (l:List Acc):∀ i,i < l.length → ∀ j,j < 4 → (l.flatMap A4)[i * 4+j]? = (A4 (aN l i))[j]?:=by
 induction l with
 | nil => intro i hi;exact absurd hi (Nat.not_lt_zero _)
 | cons p l ih =>
  intro i hi j hj
  rw [List.flatMap_cons]
  cases i with
  | zero =>
   rw [List.getElem?_append_left (by simp [A4];omega),Nat.zero_mul,Nat.zero_add]
   rfl
  | succ k =>
   have h:=ih k (by simpa using hi) j hj
   rw [show (k+1) * 4+j = 4+(k * 4+j) by omega,List.getElem?_append_right (by simp [A4])]
   simp only [A4,List.length_cons,List.length_nil,Nat.zero_add,Nat.reduceAdd,Nat.add_sub_cancel_left]
   exact h
theorem news_as {D:Nat → Prop} {w:World} {ad:Addr} {n c:Nat} {l:List Acc} (h:AsB D w (.slice (some ad) n c) l):∀ j u,(l.flatMap A4)[j]? = some u → w.cell? (ad.add j) = some u:=by
 intro j u hj
 have hlt:j < l.length * 4:=by
  have:=(List.getElem?_eq_some_iff.1 hj).1
  rwa [a4_len] at this
 obtain ⟨b,off,ea,_,_,hc⟩:=h.at (by omega)
 cases ea
 obtain ⟨i,k,hk,rfl⟩ : ∃ i k,k < 4 ∧ j = i * 4+k:=⟨j / 4,j % 4,by omega,by omega⟩
 rw [a4_get l i (by omega) k hk] at hj
 obtain ⟨h0,h1,h2,h3⟩:=hc i (by omega)
 rw [add_at',← Nat.add_assoc]
 rcases (show k = 0 ∨ k = 1 ∨ k = 2 ∨ k = 3 by omega) with rfl | rfl | rfl | rfl <;> simp [A4] at hj <;> subst hj
 ·exact h0
 ·exact h1
 ·exact h2
 ·exact h3
theorem ones_as (l:List Acc):∀ u ∈ l.flatMap A4,u.oneCell' = true:=by
 intro u hu
 obtain ⟨a,_,hu⟩:=List.mem_flatMap.1 hu
 simp [A4] at hu
 rcases hu with rfl | rfl | rfl | rfl <;> rfl
theorem asB_of_own {D:Nat → Prop} {base:Nat} {w:World} {e:TypeId} {v:Value} {l:List Acc} (h:w.ownsRow base e 4 v l.length (l.flatMap A4)) (hb:∀ k,D k → k < base):AsB D w v l:=by
 rcases h.2 with ⟨rfl,h2⟩ | ⟨g,cap,cur,rfl,hg,hh,hc,hm,hs,ht⟩
 ·have:l = []:=List.eq_nil_of_length_eq_zero h2
  subst this
  exact ⟨none,0,rfl,Nat.le_refl _,fun h => absurd h (Nat.not_lt_zero _)⟩
 ·refine ⟨_,cap,rfl,hc,fun _ => ⟨g,0,rfl,fun x => Nat.not_lt.2 hg (hb _ x),heap_lt hh,fun i hi => ?_⟩⟩
  have h3:∀ j,j < 4 → cur[i * 4+j]? = (A4 (aN l i))[j]?:=by
   intro j hj
   rw [← a4_get l i hi j hj,← ht,List.getElem?_take,if_pos (by omega),Array.getElem?_toList]
  rw [Nat.zero_add]
  exact ⟨cell_at hh (h3 0 (by omega)),cell_at hh (h3 1 (by omega)),cell_at hh (h3 2 (by omega)),cell_at hh (h3 3 (by omega))⟩
def RetAs (D:Nat → Prop) (l:List Acc) (w:World) (e:Ending) (w':World):Prop:=∃ v,e = .returned v ∧ AsB D w' v l ∧ Ext w w'
theorem Tryz.infoAcc:(Tryz.prog.info? 42).map (fun i => (i.zero,i.size,i.bytes)) = some (some (.agg #[.int .i64 0,.int .i64 0,.int .u64 0,.int .u64 0]),4,32):=by kernel_rfl
theorem cloneA_any (D:Nat → Prop) (l:List Acc) (v:Value) (w:World) (hU:AsB (fun _ => False) w v l) (hl:l.length ≤ 1000) (hb:∀ k,D k → k < w.heap.size) :
  Calls Tryz.prog 278 #[v] w (RetAs D l w):=by
 have HU:=Lib.hid hU
 obtain ⟨a0,cap,rfl,hc,hcell⟩:=hU
 have hq:∀ a n c w,(binOp .eql 310 (.slice a n c) (.slice none 0 0)).run Tryz.prog w = .ok (.bool a.isNone) w:=fun a n c w => eql_slice _ w _ _ a n c Tryz.underlying310
 obtain ⟨iU,hiU,hy0,hy1,hy2⟩:=info_parts Tryz.infoAcc
 cases a0 with
 | none =>
  have e0:l = []:=by
   cases l with
   | nil => rfl
   | cons x l => obtain ⟨b,off,ea,_⟩:=hcell (by simp);cases ea
  subst e0
  clear hcell HU
  go_enter Tryz.func278,Tryz.ntmps278
  go_wp2
  go_ret
  exact ⟨_,rfl,⟨none,0,rfl,Nat.le_refl _,fun h => absurd h (Nat.not_lt_zero _)⟩,ext_refl _⟩
 | some ad =>
  clear hcell
  go_enter Tryz.func278,Tryz.ntmps278
  go_wp2_with (at_builtin;refine wpList_append_own _ rfl (.tmp 5) (.tmp 6) 310 rfl w.heap.size 42 iU _ 4 32 Tryz.underlying310 hiU hy0 hy1 hy2 rfl (by decide) (.slice (some ⟨w.heap.size,0,none⟩) 0 0) 0 [] rfl (own_none _ _ _ _ _ rfl (Nat.le_refl _)) ad l.length cap (l.flatMap A4) rfl (a4_len l) (news_as (HU.out.ext (ext_alloc _ (ext_refl w)))) (ones_as l) (by unfold maxLen;omega) (by omega) (by simp) ?_;intro v2 w2 hv2 hg2 hn2;have HV:=Lib.hid hv2;have HX2:=Lib.hid (ext_own (w:=w) (ext_alloc _ (ext_refl w)) (own_none _ _ _ 1 _ rfl (Nat.le_refl _)) hg2);clear hv2 hg2 hn2)
  go_ret
  refine ⟨_,rfl,?_,HX2.out⟩
  have hv:=HV.out
  rw [Nat.zero_add,List.nil_append] at hv
  exact asB_of_own hv hb
def RetOver (D:Nat → Prop) (t:List (BitVec 64)) (w:World) (e:Ending) (w':World):Prop:=∃ v,e = .returned (.tuple #[v,.bool true]) ∧ UsB D w' v t ∧ Ext w w'
def RetPL (D:Nat → Prop) (l:List Acc) (t:List (BitVec 64)) (w:World) (e:Ending) (w':World):Prop:=∃ v,e = .returned v ∧ Ext w w' ∧ PL D l t v w'
theorem listed_none (D:Nat → Prop) (t:List (BitVec 64)) (v lv:Value) (w:World) (hT:Told D w t.reverse v) (hA:AsB D w lv []) (hl:t.length ≤ 1000) (hb:∀ k,D k → k < w.heap.size) :
  Calls Tryz.prog 277 #[v,lv] w (RetPL D [] t w):=by
 obtain ⟨a0,cap,rfl,_⟩:=hA
 have HT:=Lib.hid hT
 obtain ⟨p,rfl⟩:=hT.ptr
 clear hT
 simp only [List.length_nil] at *
 go_enter Tryz.func277,Tryz.ntmps277
 go_wp2_with (go_at_call 282;refine (words_any D t.reverse _ _ (HT.out.ext (ext_alloc _ (ext_alloc _ (ext_alloc _ (ext_refl w))))) (by simpa using hl)).mono ?_;rintro e w' ⟨v',rfl,hu,hx⟩;obtain ⟨a1,cap1,rfl,_⟩:=id hu;have hbx:=(hx.block (w.heap.size+1+1) (by simp)).trans (heap_at _ _ _ (by simp));obtain ⟨cc0,cc1,cc2,cc3,cc4,cc5,cc6,cz,ll⟩:=sev_of hbx;have HBX:=Lib.hid hbx;have HU':=Lib.hid hu;have HX:=Lib.hid (ext_trans (ext_alloc _ (ext_alloc _ (ext_alloc _ (ext_refl w)))) hx);clear hu hx hbx)
 clear cc0 cc1 cc2 cc3 cc4 cc5 cc6 cz ll
 have hB:=put7_block (.slice a1 t.reverse.reverse.length cap1) (.int .i64 0) (.int .i64 0) (.int .u64 0) (.int .u64 0) .nilFunc (.pointer none) HBX.out
 have hX:=put7_ext (b:=w.heap.size+1+1) (.slice a1 t.reverse.reverse.length cap1) (.int .i64 0) (.int .i64 0) (.int .u64 0) (.int .u64 0) .nilFunc (.pointer none) HX.out (by omega)
 have hF:=put7_fr (w:=w') (b:=w.heap.size+1+1) (.slice a1 t.reverse.reverse.length cap1) (.int .i64 0) (.int .i64 0) (.int .u64 0) (.int .u64 0) .nilFunc (.pointer none)
 rw [put7] at hB hX hF
 rw [List.reverse_reverse] at hB hX hF
 generalize (World.setCell _ (⟨w.heap.size+1+1,6,none⟩ : Addr) _) = Z at hB hX hF ⊢
 obtain ⟨c0,c1,c2,c3,c4,c5,c6,cz,ll⟩:=sev_of hB
 have hu:=(HU'.out.fr (FD.of_fr hF fun k _ h => by simpa using h)).mono (D:=D) (fun k hk => by have:=hb k hk;simp;omega)
 rw [List.reverse_reverse] at hu
 exact bodyPost_ret (v:=.agg #[.slice a1 t.length cap1,.int .i64 0,.int .i64 0,.int .u64 0,.int .u64 0,.nilFunc,.pointer none]) (by simp [results,Tryz.results277,go_sem,c0,c1,c2,c3,c4,c5,c6]) rfl ⟨_,rfl,hX,_,by unfold pV accZ;rw [U_0],hu⟩
theorem AsB.tail {D:Nat → Prop} {w:World} {b o cap:Nat} {a:Acc} {l:List Acc} (h:AsB D w (.slice (some ⟨b,o,none⟩) (l.length+1) cap) (a :: l)) (v:Option Addr) (c:Nat) (hv:0 < l.length → v = some ⟨b,o+4,none⟩) (hc:l.length ≤ c):AsB D w (.slice v l.length c) l:=by
 obtain ⟨b',o',e,h0,hlt,hcell⟩:=h.at (by simp)
 cases e
 refine ⟨v,c,rfl,hc,fun hl => ⟨b,o+4,hv hl,h0,hlt,fun i hi => ?_⟩⟩
 have:=hcell (i+1) (by simpa using hi)
 rw [show o+(i+1) * 4 = o+4+i * 4 by omega] at this
 exact this
theorem put7_frNew {lo hi:Nat} {a w:World} {b:Nat} (x0 x1 x2 x3 x4 x5 x6:Value) (h:Fr lo hi a w) (hb:a.heap.size ≤ b):Fr lo hi a (put7 b x0 x1 x2 x3 x4 x5 x6 w):=
 ((((((h.setNew (p:=⟨b,0,none⟩) x0 hb).setNew (p:=⟨b,1,none⟩) x1 hb).setNew (p:=⟨b,2,none⟩) x2 hb).setNew (p:=⟨b,3,none⟩) x3 hb).setNew (p:=⟨b,4,none⟩) x4 hb).setNew (p:=⟨b,5,none⟩) x5 hb).setNew (p:=⟨b,6,none⟩) x6 hb
theorem put7_mem {lo hi:Nat} {L:Lay} {M:MS} {w:World} {b:Nat} (x0 x1 x2 x3 x4 x5 x6:Value) (h:MemIn lo hi L M w) (hb:hi ≤ b):MemIn lo hi L M (put7 b x0 x1 x2 x3 x4 x5 x6 w):=
 ((((((h.setFar (p:=⟨b,0,none⟩) x0 (.inr hb)).setFar (p:=⟨b,1,none⟩) x1 (.inr hb)).setFar (p:=⟨b,2,none⟩) x2 (.inr hb)).setFar (p:=⟨b,3,none⟩) x3 (.inr hb)).setFar (p:=⟨b,4,none⟩) x4 (.inr hb)).setFar (p:=⟨b,5,none⟩) x5 (.inr hb)).setFar (p:=⟨b,6,none⟩) x6 (.inr hb)
instance doOkDec (M:MS) (r:Int) (e:BitVec 64) (op at_:Int):Decidable (DoOk M r e op at_):=by
 unfold DoOk Good
 infer_instance
theorem store_fn {fn:Value} (h:fn = .nilFunc ∨ ∃ g caps,fn = .func (.func g) #[] caps):∀ a m w,(store a fn m).run Tryz.prog w = stored Tryz.prog w a fn m:=by
 intro a m w
 rcases h with rfl | ⟨g,caps,rfl⟩
 ·exact run_store Tryz.prog w a _ m rfl
 ·exact run_store Tryz.prog w a _ m rfl
section
variable {lo hi B:Nat} {v:Value} {wr wr':World}
end
def put6 (b:Nat) (x0 x1 x2 x3 x4 x5:Value) (w:World):World:=
 ((((((w.setCell ⟨b,0,none⟩ x0).setCell ⟨b,1,none⟩ x1).setCell ⟨b,2,none⟩ x2).setCell ⟨b,3,none⟩ x3).setCell ⟨b,4,none⟩ x4).setCell ⟨b,5,none⟩ x5)
theorem put6_ext {u w:World} {b:Nat} (x0 x1 x2 x3 x4 x5:Value) (h:Ext u w) (hb:u.heap.size ≤ b):Ext u (put6 b x0 x1 x2 x3 x4 x5 w):=
 ext_set _ hb (ext_set _ hb (ext_set _ hb (ext_set _ hb (ext_set _ hb (ext_set _ hb h)))))
theorem put6_block {w:World} {b:Nat} {c0 c1 c2 c3 c4 c5:Value} {t:TypeId} {f:Nat × Nat} (x0 x1 x2 x3 x4 x5:Value) (h:w.heap[b]? = some (.cells #[c0,c1,c2,c3,c4,c5] t f)) :
  (put6 b x0 x1 x2 x3 x4 x5 w).heap[b]? = some (.cells #[x0,x1,x2,x3,x4,x5] t f):=by
 have h0:=set_same (o:=0) x0 h
 have h1:=set_same (o:=1) x1 h0
 have h2:=set_same (o:=2) x2 h1
 have h3:=set_same (o:=3) x3 h2
 have h4:=set_same (o:=4) x4 h3
 have h5:=set_same (o:=5) x5 h4
 unfold put6
 rw [h5]
 simp
theorem put6_other {w:World} {b k:Nat} (x0 x1 x2 x3 x4 x5:Value) (h:k ≠ b):(put6 b x0 x1 x2 x3 x4 x5 w).heap[k]? = w.heap[k]?:=by
 unfold put6
 rw [set_other _ h,set_other _ h,set_other _ h,set_other _ h,set_other _ h,set_other _ h]
theorem put6_size {w:World} {b:Nat} (x0 x1 x2 x3 x4 x5:Value):(put6 b x0 x1 x2 x3 x4 x5 w).heap.size = w.heap.size:=by
 unfold put6
 rw [set_size,set_size,set_size,set_size,set_size,set_size]
theorem put6_frNew {lo hi:Nat} {a w:World} {b:Nat} (x0 x1 x2 x3 x4 x5:Value) (h:Fr lo hi a w) (hb:a.heap.size ≤ b):Fr lo hi a (put6 b x0 x1 x2 x3 x4 x5 w):=
 (((((h.setNew (p:=⟨b,0,none⟩) x0 hb).setNew (p:=⟨b,1,none⟩) x1 hb).setNew (p:=⟨b,2,none⟩) x2 hb).setNew (p:=⟨b,3,none⟩) x3 hb).setNew (p:=⟨b,4,none⟩) x4 hb).setNew (p:=⟨b,5,none⟩) x5 hb
theorem put6_mem {lo hi:Nat} {L:Lay} {M:MS} {w:World} {b:Nat} (x0 x1 x2 x3 x4 x5:Value) (h:MemIn lo hi L M w) (hb:hi ≤ b):MemIn lo hi L M (put6 b x0 x1 x2 x3 x4 x5 w):=
 (((((h.setFar (p:=⟨b,0,none⟩) x0 (.inr hb)).setFar (p:=⟨b,1,none⟩) x1 (.inr hb)).setFar (p:=⟨b,2,none⟩) x2 (.inr hb)).setFar (p:=⟨b,3,none⟩) x3 (.inr hb)).setFar (p:=⟨b,4,none⟩) x4 (.inr hb)).setFar (p:=⟨b,5,none⟩) x5 (.inr hb)
structure Six (b:Nat) (x0 x1 x2 x3 x4 x5:Value) (w:World):Prop where
 c0:w.cell? ⟨b,0,none⟩ = some x0
 c1:w.cell? ⟨b,1,none⟩ = some x1
 c2:w.cell? ⟨b,2,none⟩ = some x2
 c3:w.cell? ⟨b,3,none⟩ = some x3
 c4:w.cell? ⟨b,4,none⟩ = some x4
 c5:w.cell? ⟨b,5,none⟩ = some x5
 cz:∀ o,w.frozen? ⟨b,o,none⟩ = false
 lt:b < w.heap.size
theorem shape00 {w:World} {b:Nat} {c:Array Value} {t:TypeId} {f:Nat × Nat} (h:w.heap[b]? = some (.cells c t f)):w.shape? b = some (t,c.size):=by
 simp [World.shape?,h]
theorem part00 {w:World} {b:Nat} {c:Array Value} {f:Nat × Nat} (h:w.heap[b]? = some (.cells c 137 f)):(partAt ⟨b,0,none⟩ 0 0).run Tryz.prog w = .ok ⟨b,0,none⟩ w:=by
 have h0:=shape00 h
 have h1:(Tryz.prog.cellsOf 137) = 6:=by kernel_rfl
 have h2:byteOfCell Tryz.prog Tryz.prog.depth 137 0 = some 0:=by kernel_rfl
 simp [partAt,byteOf,noView,viewAt,h0,h1,h2,run_program]
theorem six_of {w:World} {b:Nat} {x0 x1 x2 x3 x4 x5:Value} {t:TypeId} (h:w.heap[b]? = some (.cells #[x0,x1,x2,x3,x4,x5] t (0,0))):Six b x0 x1 x2 x3 x4 x5 w:=
 ⟨cell_at h rfl,cell_at h rfl,cell_at h rfl,cell_at h rfl,cell_at h rfl,cell_at h rfl,fun _ => free_at h,(Array.getElem?_eq_some_iff.1 h).1⟩
theorem fnU:Tryz.prog.underlying 206 = some (.func #[40] #[208] false):=by kernel_rfl
theorem ownU (x:Int) (w:World):Calls Tryz.prog 195 #[.int .u64 x] w (Ret (.int .u64 x) w):=by
 have ta:∀ v w,(Instr.typeAssert (.iface 291 v) 20 250 true).run Tryz.prog w = .ok (.tuple #[.pointer none,.bool false]) w:=fun v w => assert_no _ v w (by decide)
 go_enter Tryz.func195,Tryz.ntmps195
 go_wp2
 go_ret
 exact Ret.mk (by repeat (first | exact ext_refl _ | apply ext_alloc))
theorem doneU (x:Int) (w:World):Calls Tryz.prog 122 #[.int .u64 x] w (Ret (.agg #[.int .u64 x,.int .i64 0,.int .i64 0,.int .u64 0,.int .u64 0,.nilFunc,.pointer none]) w):=by
 go_enter Tryz.func122,Tryz.ntmps122
 go_wp2_with (go_at_call 195;refine (ownU x _).mono ?_;rintro e w' ⟨rfl,hx⟩;refine Hid.out ?_)
 refine Lib.hid ?_
 have hblk:=(hx.block (w.heap.size) (by simp)).trans (heap_at w _ _ (by simp))
 have hE:Ext w w':=by
  refine ext_trans ?_ hx
  repeat (first | exact ext_refl _ | apply ext_alloc)
 have hX:=put7_ext (b:=w.heap.size) (.int .u64 x) (.int .i64 0) (.int .i64 0) (.int .u64 0) (.int .u64 0) (.nilFunc) (.pointer none) hE (by omega)
 have hB:=put7_block (.int .u64 x) (.int .i64 0) (.int .i64 0) (.int .u64 0) (.int .u64 0) (.nilFunc) (.pointer none) hblk
 obtain ⟨c0,c1,c2,c3,c4,c5,c6,cz,ll⟩:=sev_of hblk
 rw [put7] at hX hB
 have HX:=Lib.hid hX
 have HB:=Lib.hid hB
 clear hX hB hx hE hblk
 go_wp2
 replace HX:=HX.out
 replace HB:=HB.out
 clear c0 c1 c2 c3 c4 c5 c6 cz ll
 generalize (World.setCell _ (⟨w.heap.size,6,none⟩ : Addr) _) = Z at HB HX ⊢
 obtain ⟨c0,c1,c2,c3,c4,c5,c6,cz,ll⟩:=sev_of HB
 exact bodyPost_ret (by simp only [results,Tryz.results122,go_sem];simp [go_sem,c0,c1,c2,c3,c4,c5,c6]) rfl (Ret.mk HX)
theorem overYU (x:Int) (a1 a2 a3 a4:Int) (w:World):Calls Tryz.prog 214 #[.agg #[.int .u64 x,.int .i64 a1,.int .i64 a2,.int .u64 a3,.int .u64 a4,.nilFunc,.pointer none]] w (Ret (.tuple #[.int .u64 x,.bool true]) w):=by
 have n0:∀ w,(binOp .neq 206 .nilFunc .nilFunc).run Tryz.prog w = .ok (.bool false) w:=fun w => neq_nil w fnU
 go_enter Tryz.func214,Tryz.ntmps214
 go_wp2_with (go_at_call 195;refine (ownU x _).mono ?_;rintro e w' ⟨rfl,hx⟩;have HX:=Lib.hid hx;clear hx)
 exact bodyPost_ret (v:=.tuple #[.int .u64 x,.bool true]) (by simp [results,Tryz.results214,go_sem]) rfl (Ret.mk (by first | exact ext_trans (ext_alloc _ (ext_refl w)) HX.out | exact ext_trans (ext_alloc _ (ext_alloc _ (ext_refl w))) HX.out))
theorem fnB:Tryz.prog.underlying 216 = some (.func #[40] #[218] false):=by kernel_rfl
theorem ownB (x:Bool) (w:World):Calls Tryz.prog 242 #[.bool x] w (Ret (.bool x) w):=by
 have ta:∀ v w,(Instr.typeAssert (.iface 298 v) 20 250 true).run Tryz.prog w = .ok (.tuple #[.pointer none,.bool false]) w:=fun v w => assert_no _ v w (by decide)
 go_enter Tryz.func242,Tryz.ntmps242
 go_wp2
 go_ret
 exact Ret.mk (by repeat (first | exact ext_refl _ | apply ext_alloc))
theorem doneB (x:Bool) (w:World):Calls Tryz.prog 207 #[.bool x] w (Ret (.agg #[.bool x,.int .i64 0,.int .i64 0,.int .u64 0,.int .u64 0,.nilFunc,.pointer none]) w):=by
 go_enter Tryz.func207,Tryz.ntmps207
 go_wp2_with (go_at_call 242;refine (ownB x _).mono ?_;rintro e w' ⟨rfl,hx⟩;refine Hid.out ?_)
 refine Lib.hid ?_
 have hblk:=(hx.block (w.heap.size) (by simp)).trans (heap_at w _ _ (by simp))
 have hE:Ext w w':=by
  refine ext_trans ?_ hx
  repeat (first | exact ext_refl _ | apply ext_alloc)
 have hX:=put7_ext (b:=w.heap.size) (.bool x) (.int .i64 0) (.int .i64 0) (.int .u64 0) (.int .u64 0) (.nilFunc) (.pointer none) hE (by omega)
 have hB:=put7_block (.bool x) (.int .i64 0) (.int .i64 0) (.int .u64 0) (.int .u64 0) (.nilFunc) (.pointer none) hblk
 obtain ⟨c0,c1,c2,c3,c4,c5,c6,cz,ll⟩:=sev_of hblk
 rw [put7] at hX hB
 have HX:=Lib.hid hX
 have HB:=Lib.hid hB
 clear hX hB hx hE hblk
 go_wp2
 replace HX:=HX.out
 replace HB:=HB.out
 clear c0 c1 c2 c3 c4 c5 c6 cz ll
 generalize (World.setCell _ (⟨w.heap.size,6,none⟩ : Addr) _) = Z at HB HX ⊢
 obtain ⟨c0,c1,c2,c3,c4,c5,c6,cz,ll⟩:=sev_of HB
 exact bodyPost_ret (by simp only [results,Tryz.results207,go_sem];simp [go_sem,c0,c1,c2,c3,c4,c5,c6]) rfl (Ret.mk HX)
theorem overYB (x:Bool) (a1 a2 a3 a4:Int) (w:World):Calls Tryz.prog 203 #[.agg #[.bool x,.int .i64 a1,.int .i64 a2,.int .u64 a3,.int .u64 a4,.nilFunc,.pointer none]] w (Ret (.tuple #[.bool x,.bool true]) w):=by
 have n0:∀ w,(binOp .neq 216 .nilFunc .nilFunc).run Tryz.prog w = .ok (.bool false) w:=fun w => neq_nil w fnB
 go_enter Tryz.func203,Tryz.ntmps203
 go_wp2_with (go_at_call 242;refine (ownB x _).mono ?_;rintro e w' ⟨rfl,hx⟩;have HX:=Lib.hid hx;clear hx)
 exact bodyPost_ret (v:=.tuple #[.bool x,.bool true]) (by simp [results,Tryz.results203,go_sem]) rfl (Ret.mk (by first | exact ext_trans (ext_alloc _ (ext_refl w)) HX.out | exact ext_trans (ext_alloc _ (ext_alloc _ (ext_refl w))) HX.out))
theorem fnN:Tryz.prog.underlying 135 = some (.func #[40] #[137] false):=by kernel_rfl
theorem ownN  (w:World):Calls Tryz.prog 209 #[.agg #[]] w (Ret (.agg #[]) w):=by
 have ta:∀ v w,(Instr.typeAssert (.iface 293 v) 20 250 true).run Tryz.prog w = .ok (.tuple #[.pointer none,.bool false]) w:=fun v w => assert_no _ v w (by decide)
 go_enter Tryz.func209,Tryz.ntmps209
 go_wp2
 exact bodyPost_ret (v:=.agg #[]) (by simp [results,Tryz.results209,go_sem]) rfl (Ret.mk (by repeat (first | exact ext_refl _ | apply ext_alloc)))
theorem doneN  (w:World):Calls Tryz.prog 194 #[.agg #[]] w (Ret (.agg #[.int .i64 0,.int .i64 0,.int .u64 0,.int .u64 0,.nilFunc,.pointer none]) w):=by
 have hbd:∀ v w,v = .agg #[] → (Instr.build 137 #[(0,v)]).run Tryz.prog w = .ok (.agg #[.int .i64 0,.int .i64 0,.int .u64 0,.int .u64 0,.nilFunc,.pointer none]) w:=fun v w hv => by subst hv;exact run_build w _ _ #[.int .i64 0,.int .i64 0,.int .u64 0,.int .u64 0,.nilFunc,.pointer none] (by kernel_rfl)
 go_enter Tryz.func194,Tryz.ntmps194
 go_wp2_with (go_at_call 209;refine (ownN  _).mono ?_;rintro e w' ⟨rfl,hx⟩;refine Hid.out ?_)
 refine Lib.hid ?_
 have hblk:=(hx.block (w.heap.size+1) (by simp)).trans (heap_at (w.alloc (.cells #[] 132)) _ _ (by simp))
 have hE:Ext w w':=by
  refine ext_trans ?_ hx
  repeat (first | exact ext_refl _ | apply ext_alloc)
 have hX:=put6_ext (b:=w.heap.size+1) (.int .i64 0) (.int .i64 0) (.int .u64 0) (.int .u64 0) (.nilFunc) (.pointer none) hE (by omega)
 have hB:=put6_block (.int .i64 0) (.int .i64 0) (.int .u64 0) (.int .u64 0) (.nilFunc) (.pointer none) hblk
 obtain ⟨c0,c1,c2,c3,c4,c5,cz,ll⟩:=six_of hblk
 rw [put6] at hX hB
 have HX:=Lib.hid hX
 have HB:=Lib.hid hB
 clear hX hB hx hE hblk
 rename_i K hK
 refine hK _ _ ?_
 refine wpList_plain rfl fun K' hK' => ?_
 unfold Oper.wp execOp
 simp only [Sem.run_bind,Sem.run_pure,List.map_toArray,List.map_cons,List.map_nil]
 rw [hbd]
 rotate_left
 ·rfl
 clear hbd
 go_wp2
 replace HX:=HX.out
 replace HB:=HB.out
 clear c0 c1 c2 c3 c4 c5 cz ll
 generalize (World.setCell _ (⟨w.heap.size+1,5,none⟩ : Addr) _) = Z at HB HX ⊢
 obtain ⟨c0,c1,c2,c3,c4,c5,cz,ll⟩:=six_of HB
 exact bodyPost_ret (by simp only [results,Tryz.results194,go_sem];simp [go_sem,c0,c1,c2,c3,c4,c5]) rfl (Ret.mk HX)
theorem overYN  (a1 a2 a3 a4:Int) (w:World):Calls Tryz.prog 135 #[.agg #[.int .i64 a1,.int .i64 a2,.int .u64 a3,.int .u64 a4,.nilFunc,.pointer none]] w (Ret (.tuple #[.agg #[],.bool true]) w):=by
 have n0:∀ w,(binOp .neq 135 .nilFunc .nilFunc).run Tryz.prog w = .ok (.bool false) w:=fun w => neq_nil w fnN
 have hp:∀ o2,(partAt ⟨w.heap.size,0,none⟩ 0 0).run Tryz.prog ((w.alloc (.cells #[.int .i64 a1,.int .i64 a2,.int .u64 a3,.int .u64 a4,.nilFunc,.pointer none] 137)).alloc o2) = .ok ⟨w.heap.size,0,none⟩ ((w.alloc (.cells #[.int .i64 a1,.int .i64 a2,.int .u64 a3,.int .u64 a4,.nilFunc,.pointer none] 137)).alloc o2):=fun o2 => part00 ((Below.heap_alloc _ _ _ (by simp)).trans (heap_at w _ _ rfl))
 go_enter Tryz.func135,Tryz.ntmps135
 go_wp2_with (go_at_call 209;refine (ownN  _).mono ?_;rintro e w' ⟨rfl,hx⟩;have HX:=Lib.hid hx;clear hx)
 exact bodyPost_ret (v:=.tuple #[.agg #[],.bool true]) (by simp [results,Tryz.results135,go_sem]) rfl (Ret.mk (by first | exact ext_trans (ext_alloc _ (ext_refl w)) HX.out | exact ext_trans (ext_alloc _ (ext_alloc _ (ext_refl w))) HX.out))
end Go.Proofs.YthjklbonebnekaaGreat

