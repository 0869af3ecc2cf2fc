/-
  What the calls of List come to. Conditions: those of each theorem.
-/
import Derived.Test.YthjklbonebnekaaGreatGad
import Derived.Shelf.Abstract
import Derived.Laws.Tables
set_option maxRecDepth 8000
set_option maxHeartbeats 4000000
namespace Go.Proofs.YthjklbonebnekaaGreat
open Go Go.RowKit
def RetPL (D:Nat → Prop) (l:List Acc) (t:List (BitVec 64)) (w:World) (e:Ending) (w':World):Prop:=∃ v,e = .returned v ∧ Ext w w' ∧ PL D l t v w'
theorem listed_none (D:Nat → Prop) (t:List (BitVec 64)) (v lv:Value) (w:World) (hT:Told D w t.reverse v) (hA:AsB D w lv []) (hl:t.length ≤ 1000) (hb:∀ k,D k → k < w.heap.size) :
  Calls Tryz.prog 277 #[v,lv] w (RetPL D [] t w):=by
 obtain ⟨a0,cap,rfl,_⟩:=hA
 have HT:=Lib.hid hT
 obtain ⟨p,rfl⟩:=hT.ptr
 clear hT
 simp only [List.length_nil] at *
 go_enter Tryz.func277,Tryz.ntmps277
 go_wp2_with (go_at_call 282;refine (words_any D t.reverse _ _ (HT.out.ext (ext_alloc _ (ext_alloc _ (ext_alloc _ (ext_refl w))))) (by simpa using hl)).mono ?_;rintro e w' ⟨v',rfl,hu,hx⟩;obtain ⟨a1,cap1,rfl,_⟩:=id hu;have hbx:=(hx.block (w.heap.size+1+1) (by simp)).trans (heap_at _ _ _ (by simp));obtain ⟨cc0,cc1,cc2,cc3,cc4,cc5,cc6,cz,ll⟩:=sev_of hbx;have HBX:=Lib.hid hbx;have HU':=Lib.hid hu;have HX:=Lib.hid (ext_trans (ext_alloc _ (ext_alloc _ (ext_alloc _ (ext_refl w)))) hx);clear hu hx hbx)
 clear cc0 cc1 cc2 cc3 cc4 cc5 cc6 cz ll
 have hB:=put7_block (.slice a1 t.reverse.reverse.length cap1) (.int .i64 0) (.int .i64 0) (.int .u64 0) (.int .u64 0) .nilFunc (.pointer none) HBX.out
 have hX:=put7_ext (b:=w.heap.size+1+1) (.slice a1 t.reverse.reverse.length cap1) (.int .i64 0) (.int .i64 0) (.int .u64 0) (.int .u64 0) .nilFunc (.pointer none) HX.out (by omega)
 have hF:=put7_fr (w:=w') (b:=w.heap.size+1+1) (.slice a1 t.reverse.reverse.length cap1) (.int .i64 0) (.int .i64 0) (.int .u64 0) (.int .u64 0) .nilFunc (.pointer none)
 rw [put7] at hB hX hF
 rw [List.reverse_reverse] at hB hX hF
 generalize (World.setCell _ (⟨w.heap.size+1+1,6,none⟩ : Addr) _) = Z at hB hX hF ⊢
 obtain ⟨c0,c1,c2,c3,c4,c5,c6,cz,ll⟩:=sev_of hB
 have hu:=(HU'.out.fr (FD.of_fr hF fun k _ h => by simpa using h)).mono (D:=D) (fun k hk => by have:=hb k hk;simp;omega)
 rw [List.reverse_reverse] at hu
 exact bodyPost_ret (v:=.agg #[.slice a1 t.length cap1,.int .i64 0,.int .i64 0,.int .u64 0,.int .u64 0,.nilFunc,.pointer none]) (by simp [results,Tryz.results277,go_sem,c0,c1,c2,c3,c4,c5,c6]) rfl ⟨_,rfl,hX,_,by unfold pV accZ;rw [U_0],hu⟩
theorem AsB.tail {D:Nat → Prop} {w:World} {b o cap:Nat} {a:Acc} {l:List Acc} (h:AsB D w (.slice (some ⟨b,o,none⟩) (l.length+1) cap) (a :: l)) (v:Option Addr) (c:Nat) (hv:0 < l.length → v = some ⟨b,o+4,none⟩) (hc:l.length ≤ c):AsB D w (.slice v l.length c) l:=by
 obtain ⟨b',o',e,h0,hlt,hcell⟩:=h.at (by simp)
 cases e
 refine ⟨v,c,rfl,hc,fun hl => ⟨b,o+4,hv hl,h0,hlt,fun i hi => ?_⟩⟩
 have:=hcell (i+1) (by simpa using hi)
 rw [show o+(i+1) * 4 = o+4+i * 4 by omega] at this
 exact this
theorem put7_frNew {lo hi:Nat} {a w:World} {b:Nat} (x0 x1 x2 x3 x4 x5 x6:Value) (h:Fr lo hi a w) (hb:a.heap.size ≤ b):Fr lo hi a (put7 b x0 x1 x2 x3 x4 x5 x6 w):=
 ((((((h.setNew (p:=⟨b,0,none⟩) x0 hb).setNew (p:=⟨b,1,none⟩) x1 hb).setNew (p:=⟨b,2,none⟩) x2 hb).setNew (p:=⟨b,3,none⟩) x3 hb).setNew (p:=⟨b,4,none⟩) x4 hb).setNew (p:=⟨b,5,none⟩) x5 hb).setNew (p:=⟨b,6,none⟩) x6 hb
theorem put7_mem {lo hi:Nat} {L:Lay} {M:MS} {w:World} {b:Nat} (x0 x1 x2 x3 x4 x5 x6:Value) (h:MemIn lo hi L M w) (hb:hi ≤ b):MemIn lo hi L M (put7 b x0 x1 x2 x3 x4 x5 x6 w):=
 ((((((h.setFar (p:=⟨b,0,none⟩) x0 (.inr hb)).setFar (p:=⟨b,1,none⟩) x1 (.inr hb)).setFar (p:=⟨b,2,none⟩) x2 (.inr hb)).setFar (p:=⟨b,3,none⟩) x3 (.inr hb)).setFar (p:=⟨b,4,none⟩) x4 (.inr hb)).setFar (p:=⟨b,5,none⟩) x5 (.inr hb)).setFar (p:=⟨b,6,none⟩) x6 (.inr hb)
instance doOkDec (M:MS) (r:Int) (e:BitVec 64) (op at_:Int):Decidable (DoOk M r e op at_):=by
 unfold DoOk Good
 infer_instance
def put6 (b:Nat) (x0 x1 x2 x3 x4 x5:Value) (w:World):World:=
 ((((((w.setCell ⟨b,0,none⟩ x0).setCell ⟨b,1,none⟩ x1).setCell ⟨b,2,none⟩ x2).setCell ⟨b,3,none⟩ x3).setCell ⟨b,4,none⟩ x4).setCell ⟨b,5,none⟩ x5)
theorem put6_ext {u w:World} {b:Nat} (x0 x1 x2 x3 x4 x5:Value) (h:Ext u w) (hb:u.heap.size ≤ b):Ext u (put6 b x0 x1 x2 x3 x4 x5 w):=
 ext_set _ hb (ext_set _ hb (ext_set _ hb (ext_set _ hb (ext_set _ hb (ext_set _ hb h)))))
theorem put6_block {w:World} {b:Nat} {c0 c1 c2 c3 c4 c5:Value} {t:TypeId} {f:Nat × Nat} (x0 x1 x2 x3 x4 x5:Value) (h:w.heap[b]? = some (.cells #[c0,c1,c2,c3,c4,c5] t f)) :
  (put6 b x0 x1 x2 x3 x4 x5 w).heap[b]? = some (.cells #[x0,x1,x2,x3,x4,x5] t f):=by
 have h0:=set_same (o:=0) x0 h
 have h1:=set_same (o:=1) x1 h0
 have h2:=set_same (o:=2) x2 h1
 have h3:=set_same (o:=3) x3 h2
 have h4:=set_same (o:=4) x4 h3
 have h5:=set_same (o:=5) x5 h4
 unfold put6
 rw [h5]
 simp
theorem put6_other {w:World} {b k:Nat} (x0 x1 x2 x3 x4 x5:Value) (h:k ≠ b):(put6 b x0 x1 x2 x3 x4 x5 w).heap[k]? = w.heap[k]?:=by
 unfold put6
 rw [set_other _ h,set_other _ h,set_other _ h,set_other _ h,set_other _ h,set_other _ h]
theorem put6_size {w:World} {b:Nat} (x0 x1 x2 x3 x4 x5:Value):(put6 b x0 x1 x2 x3 x4 x5 w).heap.size = w.heap.size:=by
 unfold put6
 rw [set_size,set_size,set_size,set_size,set_size,set_size]
theorem put6_frNew {lo hi:Nat} {a w:World} {b:Nat} (x0 x1 x2 x3 x4 x5:Value) (h:Fr lo hi a w) (hb:a.heap.size ≤ b):Fr lo hi a (put6 b x0 x1 x2 x3 x4 x5 w):=
 (((((h.setNew (p:=⟨b,0,none⟩) x0 hb).setNew (p:=⟨b,1,none⟩) x1 hb).setNew (p:=⟨b,2,none⟩) x2 hb).setNew (p:=⟨b,3,none⟩) x3 hb).setNew (p:=⟨b,4,none⟩) x4 hb).setNew (p:=⟨b,5,none⟩) x5 hb
theorem put6_mem {lo hi:Nat} {L:Lay} {M:MS} {w:World} {b:Nat} (x0 x1 x2 x3 x4 x5:Value) (h:MemIn lo hi L M w) (hb:hi ≤ b):MemIn lo hi L M (put6 b x0 x1 x2 x3 x4 x5 w):=
 (((((h.setFar (p:=⟨b,0,none⟩) x0 (.inr hb)).setFar (p:=⟨b,1,none⟩) x1 (.inr hb)).setFar (p:=⟨b,2,none⟩) x2 (.inr hb)).setFar (p:=⟨b,3,none⟩) x3 (.inr hb)).setFar (p:=⟨b,4,none⟩) x4 (.inr hb)).setFar (p:=⟨b,5,none⟩) x5 (.inr hb)
structure Six (b:Nat) (x0 x1 x2 x3 x4 x5:Value) (w:World):Prop where
 c0:w.cell? ⟨b,0,none⟩ = some x0
 c1:w.cell? ⟨b,1,none⟩ = some x1
 c2:w.cell? ⟨b,2,none⟩ = some x2
 c3:w.cell? ⟨b,3,none⟩ = some x3
 c4:w.cell? ⟨b,4,none⟩ = some x4
 c5:w.cell? ⟨b,5,none⟩ = some x5
 cz:∀ o,w.frozen? ⟨b,o,none⟩ = false
 lt:b < w.heap.size
theorem shape00 {w:World} {b:Nat} {c:Array Value} {t:TypeId} {f:Nat × Nat} (h:w.heap[b]? = some (.cells c t f)):w.shape? b = some (t,c.size):=by
 simp [World.shape?,h]
theorem part00 {w:World} {b:Nat} {c:Array Value} {f:Nat × Nat} (h:w.heap[b]? = some (.cells c 137 f)):(partAt ⟨b,0,none⟩ 0 0).run Tryz.prog w = .ok ⟨b,0,none⟩ w:=by
 have h0:=shape00 h
 have h1:(Tryz.prog.cellsOf 137) = 6:=by kernel_rfl
 have h2:byteOfCell Tryz.prog Tryz.prog.depth 137 0 = some 0:=by kernel_rfl
 simp [partAt,byteOf,noView,viewAt,h0,h1,h2,run_program]
theorem six_of {w:World} {b:Nat} {x0 x1 x2 x3 x4 x5:Value} {t:TypeId} (h:w.heap[b]? = some (.cells #[x0,x1,x2,x3,x4,x5] t (0,0))):Six b x0 x1 x2 x3 x4 x5 w:=
 ⟨cell_at h rfl,cell_at h rfl,cell_at h rfl,cell_at h rfl,cell_at h rfl,cell_at h rfl,fun _ => free_at h,(Array.getElem?_eq_some_iff.1 h).1⟩
theorem fnU:Tryz.prog.underlying 206 = some (.func #[40] #[208] false):=by kernel_rfl
theorem ownU (x:Int) (w:World):Calls Tryz.prog 195 #[.int .u64 x] w (Ret (.int .u64 x) w):=by
 have ta:∀ v w,(Instr.typeAssert (.iface 291 v) 20 250 true).run Tryz.prog w = .ok (.tuple #[.pointer none,.bool false]) w:=fun v w => assert_no _ v w (by decide)
 go_enter Tryz.func195,Tryz.ntmps195
 go_wp2
 go_ret
 exact Ret.mk (by repeat (first | exact ext_refl _ | apply ext_alloc))
theorem doneU (x:Int) (w:World):Calls Tryz.prog 122 #[.int .u64 x] w (Ret (.agg #[.int .u64 x,.int .i64 0,.int .i64 0,.int .u64 0,.int .u64 0,.nilFunc,.pointer none]) w):=by
 go_enter Tryz.func122,Tryz.ntmps122
 go_wp2_with (go_at_call 195;refine (ownU x _).mono ?_;rintro e w' ⟨rfl,hx⟩;refine Hid.out ?_)
 refine Lib.hid ?_
 have hblk:=(hx.block (w.heap.size) (by simp)).trans (heap_at w _ _ (by simp))
 have hE:Ext w w':=by
  refine ext_trans ?_ hx
  repeat (first | exact ext_refl _ | apply ext_alloc)
 have hX:=put7_ext (b:=w.heap.size) (.int .u64 x) (.int .i64 0) (.int .i64 0) (.int .u64 0) (.int .u64 0) (.nilFunc) (.pointer none) hE (by omega)
 have hB:=put7_block (.int .u64 x) (.int .i64 0) (.int .i64 0) (.int .u64 0) (.int .u64 0) (.nilFunc) (.pointer none) hblk
 obtain ⟨c0,c1,c2,c3,c4,c5,c6,cz,ll⟩:=sev_of hblk
 rw [put7] at hX hB
 have HX:=Lib.hid hX
 have HB:=Lib.hid hB
 clear hX hB hx hE hblk
 go_wp2
 replace HX:=HX.out
 replace HB:=HB.out
 clear c0 c1 c2 c3 c4 c5 c6 cz ll
 generalize (World.setCell _ (⟨w.heap.size,6,none⟩ : Addr) _) = Z at HB HX ⊢
 obtain ⟨c0,c1,c2,c3,c4,c5,c6,cz,ll⟩:=sev_of HB
 exact bodyPost_ret (by simp only [results,Tryz.results122,go_sem];simp [go_sem,c0,c1,c2,c3,c4,c5,c6]) rfl (Ret.mk HX)
theorem overYU (x:Int) (a1 a2 a3 a4:Int) (w:World):Calls Tryz.prog 214 #[.agg #[.int .u64 x,.int .i64 a1,.int .i64 a2,.int .u64 a3,.int .u64 a4,.nilFunc,.pointer none]] w (Ret (.tuple #[.int .u64 x,.bool true]) w):=by
 have n0:∀ w,(binOp .neq 206 .nilFunc .nilFunc).run Tryz.prog w = .ok (.bool false) w:=fun w => neq_nil w fnU
 go_enter Tryz.func214,Tryz.ntmps214
 go_wp2_with (go_at_call 195;refine (ownU x _).mono ?_;rintro e w' ⟨rfl,hx⟩;have HX:=Lib.hid hx;clear hx)
 exact bodyPost_ret (v:=.tuple #[.int .u64 x,.bool true]) (by simp [results,Tryz.results214,go_sem]) rfl (Ret.mk (by first | exact ext_trans (ext_alloc _ (ext_refl w)) HX.out | exact ext_trans (ext_alloc _ (ext_alloc _ (ext_refl w))) HX.out))
theorem fnB:Tryz.prog.underlying 216 = some (.func #[40] #[218] false):=by kernel_rfl
theorem ownB (x:Bool) (w:World):Calls Tryz.prog 242 #[.bool x] w (Ret (.bool x) w):=by
 have ta:∀ v w,(Instr.typeAssert (.iface 298 v) 20 250 true).run Tryz.prog w = .ok (.tuple #[.pointer none,.bool false]) w:=fun v w => assert_no _ v w (by decide)
 go_enter Tryz.func242,Tryz.ntmps242
 go_wp2
 go_ret
 exact Ret.mk (by repeat (first | exact ext_refl _ | apply ext_alloc))
theorem doneB (x:Bool) (w:World):Calls Tryz.prog 207 #[.bool x] w (Ret (.agg #[.bool x,.int .i64 0,.int .i64 0,.int .u64 0,.int .u64 0,.nilFunc,.pointer none]) w):=by
 go_enter Tryz.func207,Tryz.ntmps207
 go_wp2_with (go_at_call 242;refine (ownB x _).mono ?_;rintro e w' ⟨rfl,hx⟩;refine Hid.out ?_)
 refine Lib.hid ?_
 have hblk:=(hx.block (w.heap.size) (by simp)).trans (heap_at w _ _ (by simp))
 have hE:Ext w w':=by
  refine ext_trans ?_ hx
  repeat (first | exact ext_refl _ | apply ext_alloc)
 have hX:=put7_ext (b:=w.heap.size) (.bool x) (.int .i64 0) (.int .i64 0) (.int .u64 0) (.int .u64 0) (.nilFunc) (.pointer none) hE (by omega)
 have hB:=put7_block (.bool x) (.int .i64 0) (.int .i64 0) (.int .u64 0) (.int .u64 0) (.nilFunc) (.pointer none) hblk
 obtain ⟨c0,c1,c2,c3,c4,c5,c6,cz,ll⟩:=sev_of hblk
 rw [put7] at hX hB
 have HX:=Lib.hid hX
 have HB:=Lib.hid hB
 clear hX hB hx hE hblk
 go_wp2
 replace HX:=HX.out
 replace HB:=HB.out
 clear c0 c1 c2 c3 c4 c5 c6 cz ll
 generalize (World.setCell _ (⟨w.heap.size,6,none⟩ : Addr) _) = Z at HB HX ⊢
 obtain ⟨c0,c1,c2,c3,c4,c5,c6,cz,ll⟩:=sev_of HB
 exact bodyPost_ret (by simp only [results,Tryz.results207,go_sem];simp [go_sem,c0,c1,c2,c3,c4,c5,c6]) rfl (Ret.mk HX)
theorem overYB (x:Bool) (a1 a2 a3 a4:Int) (w:World):Calls Tryz.prog 203 #[.agg #[.bool x,.int .i64 a1,.int .i64 a2,.int .u64 a3,.int .u64 a4,.nilFunc,.pointer none]] w (Ret (.tuple #[.bool x,.bool true]) w):=by
 have n0:∀ w,(binOp .neq 216 .nilFunc .nilFunc).run Tryz.prog w = .ok (.bool false) w:=fun w => neq_nil w fnB
 go_enter Tryz.func203,Tryz.ntmps203
 go_wp2_with (go_at_call 242;refine (ownB x _).mono ?_;rintro e w' ⟨rfl,hx⟩;have HX:=Lib.hid hx;clear hx)
 exact bodyPost_ret (v:=.tuple #[.bool x,.bool true]) (by simp [results,Tryz.results203,go_sem]) rfl (Ret.mk (by first | exact ext_trans (ext_alloc _ (ext_refl w)) HX.out | exact ext_trans (ext_alloc _ (ext_alloc _ (ext_refl w))) HX.out))
theorem fnN:Tryz.prog.underlying 135 = some (.func #[40] #[137] false):=by kernel_rfl
theorem ownN  (w:World):Calls Tryz.prog 209 #[.agg #[]] w (Ret (.agg #[]) w):=by
 have ta:∀ v w,(Instr.typeAssert (.iface 293 v) 20 250 true).run Tryz.prog w = .ok (.tuple #[.pointer none,.bool false]) w:=fun v w => assert_no _ v w (by decide)
 go_enter Tryz.func209,Tryz.ntmps209
 go_wp2
 exact bodyPost_ret (v:=.agg #[]) (by simp [results,Tryz.results209,go_sem]) rfl (Ret.mk (by repeat (first | exact ext_refl _ | apply ext_alloc)))
theorem doneN  (w:World):Calls Tryz.prog 194 #[.agg #[]] w (Ret (.agg #[.int .i64 0,.int .i64 0,.int .u64 0,.int .u64 0,.nilFunc,.pointer none]) w):=by
 have hbd:∀ v w,v = .agg #[] → (Instr.build 137 #[(0,v)]).run Tryz.prog w = .ok (.agg #[.int .i64 0,.int .i64 0,.int .u64 0,.int .u64 0,.nilFunc,.pointer none]) w:=fun v w hv => by subst hv;exact run_build w _ _ #[.int .i64 0,.int .i64 0,.int .u64 0,.int .u64 0,.nilFunc,.pointer none] (by kernel_rfl)
 go_enter Tryz.func194,Tryz.ntmps194
 go_wp2_with (go_at_call 209;refine (ownN  _).mono ?_;rintro e w' ⟨rfl,hx⟩;refine Hid.out ?_)
 refine Lib.hid ?_
 have hblk:=(hx.block (w.heap.size+1) (by simp)).trans (heap_at (w.alloc (.cells #[] 132)) _ _ (by simp))
 have hE:Ext w w':=by
  refine ext_trans ?_ hx
  repeat (first | exact ext_refl _ | apply ext_alloc)
 have hX:=put6_ext (b:=w.heap.size+1) (.int .i64 0) (.int .i64 0) (.int .u64 0) (.int .u64 0) (.nilFunc) (.pointer none) hE (by omega)
 have hB:=put6_block (.int .i64 0) (.int .i64 0) (.int .u64 0) (.int .u64 0) (.nilFunc) (.pointer none) hblk
 obtain ⟨c0,c1,c2,c3,c4,c5,cz,ll⟩:=six_of hblk
 rw [put6] at hX hB
 have HX:=Lib.hid hX
 have HB:=Lib.hid hB
 clear hX hB hx hE hblk
 rename_i K hK
 refine hK _ _ ?_
 refine wpList_plain rfl fun K' hK' => ?_
 unfold Oper.wp execOp
 simp only [Sem.run_bind,Sem.run_pure,List.map_toArray,List.map_cons,List.map_nil]
 rw [hbd]
 rotate_left
 ·rfl
 clear hbd
 go_wp2
 replace HX:=HX.out
 replace HB:=HB.out
 clear c0 c1 c2 c3 c4 c5 cz ll
 generalize (World.setCell _ (⟨w.heap.size+1,5,none⟩ : Addr) _) = Z at HB HX ⊢
 obtain ⟨c0,c1,c2,c3,c4,c5,cz,ll⟩:=six_of HB
 exact bodyPost_ret (by simp only [results,Tryz.results194,go_sem];simp [go_sem,c0,c1,c2,c3,c4,c5]) rfl (Ret.mk HX)
theorem overYN  (a1 a2 a3 a4:Int) (w:World):Calls Tryz.prog 135 #[.agg #[.int .i64 a1,.int .i64 a2,.int .u64 a3,.int .u64 a4,.nilFunc,.pointer none]] w (Ret (.tuple #[.agg #[],.bool true]) w):=by
 have n0:∀ w,(binOp .neq 135 .nilFunc .nilFunc).run Tryz.prog w = .ok (.bool false) w:=fun w => neq_nil w fnN
 have hp:∀ o2,(partAt ⟨w.heap.size,0,none⟩ 0 0).run Tryz.prog ((w.alloc (.cells #[.int .i64 a1,.int .i64 a2,.int .u64 a3,.int .u64 a4,.nilFunc,.pointer none] 137)).alloc o2) = .ok ⟨w.heap.size,0,none⟩ ((w.alloc (.cells #[.int .i64 a1,.int .i64 a2,.int .u64 a3,.int .u64 a4,.nilFunc,.pointer none] 137)).alloc o2):=fun o2 => part00 ((Below.heap_alloc _ _ _ (by simp)).trans (heap_at w _ _ rfl))
 go_enter Tryz.func135,Tryz.ntmps135
 go_wp2_with (go_at_call 209;refine (ownN  _).mono ?_;rintro e w' ⟨rfl,hx⟩;have HX:=Lib.hid hx;clear hx)
 exact bodyPost_ret (v:=.tuple #[.agg #[],.bool true]) (by simp [results,Tryz.results135,go_sem]) rfl (Ret.mk (by first | exact ext_trans (ext_alloc _ (ext_refl w)) HX.out | exact ext_trans (ext_alloc _ (ext_alloc _ (ext_refl w))) HX.out))
inductive Tr (α:Type):Type
 | done (r:α):Tr α
 | ask (a:Acc) (k:BitVec 64 → Tr α):Tr α
 | more:Tr α
def Tr.bind {α β:Type}:Tr α → (α → Tr β) → Tr β
 | .done r,f => f r
 | .ask a k,f => .ask a fun x => (k x).bind f
 | .more,_ => .more
structure Kd (α:Type) where
 S:Value → Acc → Value → Value
 z:Value
 enc:α → Value
def vS (r:Value) (a:Acc) (fn:Value):Value:=.agg #[r,.int .i64 a.op,.int .i64 a.at_,.int .u64 (U a.a),.int .u64 (U a.b),fn,.pointer none]
def vS0 (_:Value) (a:Acc) (fn:Value):Value:=.agg #[.int .i64 a.op,.int .i64 a.at_,.int .u64 (U a.a),.int .u64 (U a.b),fn,.pointer none]
def kU:Kd (BitVec 64):=⟨vS,.int .u64 0,fun x => .int .u64 (U x)⟩
def kB:Kd Bool:=⟨vS,.bool false,fun x => .bool x⟩
def kI:Kd Int:=⟨vS,.int .i64 0,fun x => .int .i64 x⟩
def kN:Kd Unit:=⟨vS0,.agg #[],fun _ => .agg #[]⟩
def Agr (F:Nat → Prop) (w w':World):Prop:=∀ j,F j → w'.heap[j]? = w.heap[j]?
theorem Agr.trans {F:Nat → Prop} {a b c:World} (h:Agr F a b) (k:Agr F b c):Agr F a c:=fun j hj => (k j hj).trans (h j hj)
theorem Agr.sub {F G:Nat → Prop} {a b:World} (h:Agr F a b) (hs:∀ j,G j → F j):Agr G a b:=fun j hj => h j (hs j hj)
def Bnd (F:Nat → Prop) (w:World):Prop:=∀ j,F j → j < w.heap.size
theorem Bnd.ext {F:Nat → Prop} {w w':World} (h:Bnd F w) (hs:w.heap.size ≤ w'.heap.size):Bnd F w':=fun j hj => Nat.lt_of_lt_of_le (h j hj) hs
theorem Agr.of_ext {F:Nat → Prop} {w w':World} (h:Ext w w') (hF:Bnd F w):Agr F w w':=fun j hj => h.block j (hF j hj)
theorem Agr.of_fr {F:Nat → Prop} {lo hi:Nat} {w w':World} (h:Fr lo hi w w') (hF:Bnd F w) (hn:∀ j,F j → j < lo ∨ hi ≤ j):Agr F w w':=fun j hj => h.block j (hF j hj) (hn j hj)
theorem Agr.of_put7 {F:Nat → Prop} {w:World} {b:Nat} (x0 x1 x2 x3 x4 x5 x6:Value) (hn:¬ F b):Agr F w (put7 b x0 x1 x2 x3 x4 x5 x6 w):=fun _ hj => put7_other _ _ _ _ _ _ _ fun e => hn (e ▸ hj)
theorem Agr.of_put6 {F:Nat → Prop} {w:World} {b:Nat} (x0 x1 x2 x3 x4 x5:Value) (hn:¬ F b):Agr F w (put6 b x0 x1 x2 x3 x4 x5 w):=fun _ hj => put6_other _ _ _ _ _ _ fun e => hn (e ▸ hj)
def noF:Nat → Prop:=fun _ => False
theorem bnd_no (w:World):Bnd noF w:=fun _ h => h.elim
def RetP (Q:(Nat → Prop) → Value → World → Prop) (F0:Nat → Prop) (w:World) (e:Ending) (w':World):Prop:=
 ∃ v F,e = .returned v ∧ Ext w w' ∧ Q F v w' ∧ Bnd F w' ∧ ∀ j,F j → F0 j ∨ w.heap.size ≤ j
def Enters (g:FuncId):Prop:=∀ args w,(callFunc g args).run Tryz.prog w = .ok (.enter g args) w
def PT {α:Type} (k:Kd α):Tr α → (Nat → Prop) → Value → World → Prop
 | .done r => fun _ v _ => v = k.S (k.enc r) accZ .nilFunc
 | .ask a f => fun F v w => ∃ g caps,v = k.S k.z a (.func (.func g) #[] caps) ∧ Enters g ∧ ∀ (x:BitVec 64) (w':World),Agr F w w' → Calls Tryz.prog g (#[.int .u64 (U x)] ++ caps) w' (RetP (PT k (f x)) F w')
 | .more => fun _ v _ => ∃ a g caps,v = k.S k.z a (.func (.func g) #[] caps) ∧ Enters g
theorem PT.agr {α:Type} {k:Kd α} {t:Tr α} {F:Nat → Prop} {v:Value} {w w':World} (h:PT k t F v w) (ha:Agr F w w'):PT k t F v w':=by
 cases t with
 | done r => exact h
 | ask a f => obtain ⟨g,caps,e,he,hc⟩:=h;exact ⟨g,caps,e,he,fun x u hu => hc x u (ha.trans hu)⟩
 | more => exact h
theorem PT.more {α:Type} {k:Kd α} {a:Acc} {f:BitVec 64 → Tr α} {F:Nat → Prop} {v:Value} {w:World} (h:PT k (.ask a f) F v w):PT k .more F v w:=by
 obtain ⟨g,caps,e,he,_⟩:=h
 exact ⟨a,g,caps,e,he⟩
theorem RetP.mono {Q:(Nat → Prop) → Value → World → Prop} {F G:Nat → Prop} {w:World} {e:Ending} {w':World} (h:RetP Q F w e w') (hs:∀ j,F j → G j):RetP Q G w e w':=by
 obtain ⟨v,F',e1,h1,h2,h3,h4⟩:=h
 exact ⟨v,F',e1,h1,h2,h3,fun j hj => (h4 j hj).imp_left (hs j)⟩
theorem RetP.tail {Q:(Nat → Prop) → Value → World → Prop} {F G:Nat → Prop} {u w:World} {e:Ending} {w':World} (h:RetP Q F w e w') (RB:Nat) (hu:Ext u w) (hb:RB < w.heap.size) (hn:¬ F RB) (hs:∀ j,F j → G j ∨ u.heap.size ≤ j) :
  ∃ v F',e = .returned v ∧ Ext u w' ∧ Q F' v w' ∧ Bnd F' w' ∧ (∀ j,F' j → G j ∨ u.heap.size ≤ j) ∧ ¬ F' RB ∧ w'.heap[RB]? = w.heap[RB]?:=by
 obtain ⟨v,F',e1,h1,h2,h3,h4⟩:=h
 refine ⟨v,F',e1,ext_trans hu h1,h2,h3,fun j hj => ?_,fun hj => ?_,h1.block RB hb⟩
 ·rcases h4 j hj with h | h
  ·exact hs j h
  ·exact .inr (Nat.le_trans hu.size h)
 ·rcases h4 RB hj with h | h
  ·exact hn h
  ·omega
def CT {α β:Type} (ka:Kd α) (kb:Kd β) (f:α → Tr β) (F:Nat → Prop) (fn:Value) (w:World):Prop:=
 ∃ g caps,fn = .func (.func g) #[] caps ∧ Enters g ∧ ∀ (r:α) (w':World),Agr F w w' → Calls Tryz.prog g (#[ka.enc r] ++ caps) w' (RetP (PT kb (f r)) F w')
theorem CT.agr {α β:Type} {ka:Kd α} {kb:Kd β} {f:α → Tr β} {F:Nat → Prop} {fn:Value} {w w':World} (h:CT ka kb f F fn w) (ha:Agr F w w'):CT ka kb f F fn w':=by
 obtain ⟨g,caps,e,he,hc⟩:=h
 exact ⟨g,caps,e,he,fun r u hu => hc r u (ha.trans hu)⟩
def runT {α:Type} (r:Int) (e:BitVec 64):Nat → Tr α → MS → Option (MS × Nat × Tr α)
 | 0,t,M => some (M,0,t)
 | _+1,.done x,M => some (M,0,.done x)
 | _+1,.more,_ => none
 | n+1,.ask a f,M => if DoOk M r e a.op a.at_ then (runT r e n (f (M.wd r.toNat a.at_.toNat)) (M.done r a.op a.at_ a.a a.b)).map (fun x => (x.1,x.2.1+1,x.2.2)) else some (M,0,.ask a f)
theorem al1 (w:World) (o0:Obj):Ext w (w.alloc o0) ∧ (w.alloc o0).heap[w.heap.size]? = some o0 ∧ (w.alloc o0).heap.size = w.heap.size+1:=
 ⟨(by repeat (first | exact ext_refl _ | apply ext_alloc)),heap_at _ _ _ (by simp),by simp⟩
theorem al2 (w:World) (o0 o1:Obj):Ext w ((w.alloc o0).alloc o1) ∧ ((w.alloc o0).alloc o1).heap[w.heap.size]? = some o0 ∧ ((w.alloc o0).alloc o1).heap[w.heap.size+1]? = some o1 ∧ ((w.alloc o0).alloc o1).heap.size = w.heap.size+1+1:=
 ⟨(by repeat (first | exact ext_refl _ | apply ext_alloc)),(Below.heap_alloc _ _ _ (by simp <;> omega)).trans (heap_at _ _ _ (by simp)),heap_at _ _ _ (by simp),by simp⟩
theorem al3 (w:World) (o0 o1 o2:Obj):Ext w (((w.alloc o0).alloc o1).alloc o2) ∧ (((w.alloc o0).alloc o1).alloc o2).heap[w.heap.size]? = some o0 ∧ (((w.alloc o0).alloc o1).alloc o2).heap[w.heap.size+1]? = some o1 ∧ (((w.alloc o0).alloc o1).alloc o2).heap[w.heap.size+1+1]? = some o2 ∧ (((w.alloc o0).alloc o1).alloc o2).heap.size = w.heap.size+1+1+1:=
 ⟨(by repeat (first | exact ext_refl _ | apply ext_alloc)),(Below.heap_alloc _ _ _ (by simp <;> omega)).trans ((Below.heap_alloc _ _ _ (by simp <;> omega)).trans (heap_at _ _ _ (by simp))),(Below.heap_alloc _ _ _ (by simp <;> omega)).trans (heap_at _ _ _ (by simp)),heap_at _ _ _ (by simp),by simp⟩
theorem al4 (w:World) (o0 o1 o2 o3:Obj):Ext w ((((w.alloc o0).alloc o1).alloc o2).alloc o3) ∧ ((((w.alloc o0).alloc o1).alloc o2).alloc o3).heap[w.heap.size]? = some o0 ∧ ((((w.alloc o0).alloc o1).alloc o2).alloc o3).heap[w.heap.size+1]? = some o1 ∧ ((((w.alloc o0).alloc o1).alloc o2).alloc o3).heap[w.heap.size+1+1]? = some o2 ∧ ((((w.alloc o0).alloc o1).alloc o2).alloc o3).heap[w.heap.size+1+1+1]? = some o3 ∧ ((((w.alloc o0).alloc o1).alloc o2).alloc o3).heap.size = w.heap.size+1+1+1+1:=
 ⟨(by repeat (first | exact ext_refl _ | apply ext_alloc)),(Below.heap_alloc _ _ _ (by simp <;> omega)).trans ((Below.heap_alloc _ _ _ (by simp <;> omega)).trans ((Below.heap_alloc _ _ _ (by simp <;> omega)).trans (heap_at _ _ _ (by simp)))),(Below.heap_alloc _ _ _ (by simp <;> omega)).trans ((Below.heap_alloc _ _ _ (by simp <;> omega)).trans (heap_at _ _ _ (by simp))),(Below.heap_alloc _ _ _ (by simp <;> omega)).trans (heap_at _ _ _ (by simp)),heap_at _ _ _ (by simp),by simp⟩
theorem al5 (w:World) (o0 o1 o2 o3 o4:Obj):Ext w (((((w.alloc o0).alloc o1).alloc o2).alloc o3).alloc o4) ∧ (((((w.alloc o0).alloc o1).alloc o2).alloc o3).alloc o4).heap[w.heap.size]? = some o0 ∧ (((((w.alloc o0).alloc o1).alloc o2).alloc o3).alloc o4).heap[w.heap.size+1]? = some o1 ∧ (((((w.alloc o0).alloc o1).alloc o2).alloc o3).alloc o4).heap[w.heap.size+1+1]? = some o2 ∧ (((((w.alloc o0).alloc o1).alloc o2).alloc o3).alloc o4).heap[w.heap.size+1+1+1]? = some o3 ∧ (((((w.alloc o0).alloc o1).alloc o2).alloc o3).alloc o4).heap[w.heap.size+1+1+1+1]? = some o4 ∧ (((((w.alloc o0).alloc o1).alloc o2).alloc o3).alloc o4).heap.size = w.heap.size+1+1+1+1+1:=
 ⟨(by repeat (first | exact ext_refl _ | apply ext_alloc)),(Below.heap_alloc _ _ _ (by simp <;> omega)).trans ((Below.heap_alloc _ _ _ (by simp <;> omega)).trans ((Below.heap_alloc _ _ _ (by simp <;> omega)).trans ((Below.heap_alloc _ _ _ (by simp <;> omega)).trans (heap_at _ _ _ (by simp))))),(Below.heap_alloc _ _ _ (by simp <;> omega)).trans ((Below.heap_alloc _ _ _ (by simp <;> omega)).trans ((Below.heap_alloc _ _ _ (by simp <;> omega)).trans (heap_at _ _ _ (by simp)))),(Below.heap_alloc _ _ _ (by simp <;> omega)).trans ((Below.heap_alloc _ _ _ (by simp <;> omega)).trans (heap_at _ _ _ (by simp))),(Below.heap_alloc _ _ _ (by simp <;> omega)).trans (heap_at _ _ _ (by simp)),heap_at _ _ _ (by simp),by simp⟩
end Go.Proofs.YthjklbonebnekaaGreat

