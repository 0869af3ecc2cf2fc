/-
  What the call of Do comes to, where the access may be done. Conditions: those of the theorem.
-/
import Derived.Test.YthjklbonebnekaaGreatGaa
import Derived.Test.YthjklbonebnekaaGreatGab
import Derived.ProofKit
import Derived.OpenShut
import Derived.Deep.Slices
set_option maxRecDepth 8000
set_option maxHeartbeats 4000000
namespace Go.Proofs.YthjklbonebnekaaGreat
open Go Go.RowKit
section
variable {lo hi:Nat} {L:Lay} {M:MS} {w:World}
structure DoSees (w X:World) (L:Lay) (M:MS) (q j:Nat) (op:Int) (e a b:BitVec 64):Prop where
 d0:X.cell? ⟨w.heap.size,0,none⟩ = some (.int .i64 (q:Int))
 d2:X.cell? ⟨w.heap.size+1,0,none⟩ = some (.int .i64 op)
 d3:X.cell? ⟨w.heap.size+1,1,none⟩ = some (.int .i64 (j:Int))
 d4:X.cell? ⟨w.heap.size+1,2,none⟩ = some (.int .u64 (U a))
 d5:X.cell? ⟨w.heap.size+1,3,none⟩ = some (.int .u64 (U b))
 x0:X.cell? ⟨L.rb q,0,none⟩ = some (.slice (some ⟨L.wb q,0,none⟩) (M.sz q) (L.wc q))
 x1:X.cell? ⟨L.wb q,j,none⟩ = some (.int .u64 (U (M.wd q j)))
 x2:X.cell? ⟨L.bm,1,none⟩ = some (.int .i64 M.ct)
 z1:X.frozen? ⟨L.wb q,j,none⟩ = false
 z2:X.frozen? ⟨L.bm,1,none⟩ = false
 l1:w.heap.size+1 < X.heap.size
 l0:w.heap.size < X.heap.size
 l2:L.rb q < X.heap.size
 l3:L.wb q < X.heap.size
 l4:L.bm < X.heap.size
theorem DoSees.ext {w X Y:World} {q j:Nat} {op:Int} {e a b:BitVec 64} (h:DoSees w X L M q j op e a b) (hb:Ext X Y):DoSees w Y L M q j op e a b:=
 ⟨ext_cell hb h.d0,ext_cell hb h.d2,ext_cell hb h.d3,ext_cell hb h.d4,ext_cell hb h.d5,ext_cell hb h.x0,ext_cell hb h.x1,ext_cell hb h.x2,
  by rw [hb.frozen (p:=⟨L.wb q,j,none⟩) h.l3];exact h.z1,by rw [hb.frozen (p:=⟨L.bm,1,none⟩) h.l4];exact h.z2,
  Nat.lt_of_lt_of_le h.l1 hb.size,Nat.lt_of_lt_of_le h.l0 hb.size,Nat.lt_of_lt_of_le h.l2 hb.size,Nat.lt_of_lt_of_le h.l3 hb.size,Nat.lt_of_lt_of_le h.l4 hb.size⟩
theorem DoSees.mk0 (h:MemIn lo hi L M w) {q j:Nat} {op:Int} {e a b:BitVec 64} (hr':q < M.n) (hj':j < M.sz q) (t t':TypeId) :
  DoSees w ((w.alloc (.cells #[.int .i64 (q:Int),.int .u64 (U e)] t)).alloc (.cells #[.int .i64 op,.int .i64 (j:Int),.int .u64 (U a),.int .u64 (U b)] t')) L M q j op e a b:=by
 have h':=(h.alloc (.cells #[.int .i64 (q:Int),.int .u64 (U e)] t)).alloc (.cells #[.int .i64 op,.int .i64 (j:Int),.int .u64 (U a),.int .u64 (U b)] t')
 refine ⟨?_,?_,?_,?_,?_,h'.r0 hr',h'.x hr' hj',h'.m1,h'.xz hr' j,h'.mz 1,?_,?_,h'.lt (h'.reg q hr').2.1,h'.lt (h'.wds q hr').2.1,h'.lt h'.mIn.2⟩ <;> simp [go_sem]
theorem do_nat (h:MemIn lo hi L M w) (q j:Nat) (op:Int) (e a b:BitVec 64) (hr':q < M.n) (HE:Hid (M.ep q = e)) (hj':j < M.sz q) (ho:0 ≤ op) (ho3:op ≤ 3) :
  Calls Tryz.prog 100 #[.pointer (some ⟨L.bm,0,none⟩),.agg #[.int .i64 (q:Int),.int .u64 (U e)],.agg #[.int .i64 op,.int .i64 (j:Int),.int .u64 (U a),.int .u64 (U b)]] w
   (RetM lo hi L (M.put q j (nextW op (M.wd q j) a b)).tick (.tuple #[.int .u64 (U (M.wd q j)),.bool true]) w):=by
 have H:=Lib.hid h
 have hs:=h.small q hr'
 have hne:L.rb q ≠ L.wb q:=by
  obtain ⟨_,_,cur,h3,_⟩:=h.wds q hr'
  exact block_ne (h.reg q hr').2.2 h3 (by decide)
 have hnm:L.wb q ≠ L.bm:=by
  obtain ⟨_,_,cur,h3,_⟩:=h.wds q hr'
  exact block_ne h3 h.m (by decide)
 have n0:w.heap.size ≠ L.wb q:=Nat.ne_of_gt (h.lt (h.wds q hr').2.1)
 have n1:w.heap.size+1 ≠ L.wb q:=Nat.ne_of_gt (Nat.lt_succ_of_lt (h.lt (h.wds q hr').2.1))
 have hs1:(j:Int) < (M.sz q:Int):=by omega
 have hs0:(0:Int) ≤ (j:Int):=by omega
 clear h
 go_enter Tryz.func100,Tryz.ntmps100
 go_wp2_with (first
  | (go_at_call 171;refine (good_yes ((H.out.alloc _).alloc _) q e hr' HE).mono ?_;rintro e X ⟨rfl,hX⟩;have HX:=Lib.hid (ext_trans (ext_alloc _ (ext_alloc _ (ext_refl w))) hX);have HD:=(DoSees.mk0 (op:=op) (a:=a) (b:=b) H.out hr' hj' _ _).ext hX;clear hX;obtain ⟨d0,d2,d3,d4,d5,x0,x1,x2,z1,z2,l1,l0,l2,l3,l4⟩:=HD)
  | (go_at_call 74;refine (find_yes (H.out.ext HX.out) q hr').mono ?_;rintro e w' ⟨rfl,rfl⟩)
  | (go_at_call 76;refine (has_yes (H.out.ext HX.out) q hr' j hj').mono ?_;rintro e w' ⟨rfl,rfl⟩))
 refine wp_region_over (by kernel_rfl) (by kernel_rfl) ?_
 repeat (go_big_quiet_step (fail))
 refine wpQuiet_nil ?_
 intro _ hw'
 obtain ⟨s1,hw''⟩:=hw'
 subst hw''
 have HD:=(DoSees.mk d0 d2 d3 d4 d5 x0 x1 x2 z1 z2 l1 l0 l2 l3 l4:DoSees w X L M q j op e a b).ext (over_below X s1)
 have HY:=Lib.hid (ext_over s1 HX.out)
 generalize over X s1 = Y at HD HY ⊢
 clear d0 d2 d3 d4 d5 x0 x1 x2 z1 z2 l1 l0 l2 l3 l4 HX
 obtain ⟨d0,d2,d3,d4,d5,x0,x1,x2,z1,z2,l1,l0,l2,l3,l4⟩:=HD
 go_wp2
 refine wp_region_mix (fun w' => ∃ s,w' = off1 (L.wb q) Y s) [(0,[0,1,2,3,4,5,6,7]),(1,[8]),(0,[9]),(1,[10])] (by kernel_rfl) (by kernel_rfl) (off1_of (Fr.refl _ _ Y).drew) ?_
 simp only [pieces,pickL,List.map_cons,List.map_nil,List.getD_cons_zero,List.getD_cons_succ]
 refine mix_reads ?_
 repeat (go_big_quiet_step (fail))
 refine wpQuiet_nil ?_
 have HS:=Lib.hid (DoSees.mk d0 d2 d3 d4 d5 x0 x1 x2 z1 z2 l1 l0 l2 l3 l4:DoSees w Y L M q j op e a b)
 clear d0 d2 d3 d4 d5 x0 x1 x2 z1 z2 l1 l0 l2 l3 l4
 refine mix_acts ?_
 go_wp2_with (go_at_call 172;refine (behind_any _ _ _ _ _ _).mono ?_;rintro e Z ⟨rfl,hZ⟩;have HD:=HS.out.ext (ext_trans (ext_drew (ext_refl Y)) hZ);have HZ:=Lib.hid (ext_trans (ext_drew HY.out) hZ);have HZ':=Lib.hid (ext_trans (ext_drew (ext_refl Y)) hZ);clear hZ;obtain ⟨d0,d2,d3,d4,d5,x0,x1,x2,z1,z2,l1,l0,l2,l3,l4⟩:=HD)
 refine mixQ_mk (off1_of (Fr.of_ext HZ'.out)) (mix_reads ?_)
 repeat (go_big_quiet_step (fail))
 refine wpQuiet_nil (mix_acts ?_)
 go_wp2
 refine mixQ_mk (off1_of (Fr.set _ (Fr.of_ext HZ'.out) (Nat.le_refl _) (Nat.lt_succ_self _))) (mix_end ?_)
 have cc:L.wb q ≠ L.bm:=hnm
 go_wp2
 go_ret2
 refine ⟨rfl,?_,?_⟩
 ·exact ((H.out.ext HZ.out).setWord hr' hj' _).setCount
 ·exact Fr.set _ (Fr.set _ (Fr.of_ext HZ.out) (H.out.wds q hr').1 (H.out.wds q hr').2.1) H.out.mIn.1 H.out.mIn.2
theorem do_yes (h:MemIn lo hi L M w) (r op at_:Int) (e a b:BitVec 64) (hd:DoOk M r e op at_) :
  Calls Tryz.prog 100 #[.pointer (some ⟨L.bm,0,none⟩),.agg #[.int .i64 r,.int .u64 (U e)],.agg #[.int .i64 op,.int .i64 at_,.int .u64 (U a),.int .u64 (U b)]] w
   (RetM lo hi L (M.done r op at_ a b) (.tuple #[.int .u64 (U (M.wd r.toNat at_.toNat)),.bool true]) w):=by
 obtain ⟨⟨h1,h2,h3⟩,h4,h5,h6,h7⟩:=hd
 obtain ⟨q,rfl⟩:=Int.eq_ofNat_of_zero_le h1
 obtain ⟨j,rfl⟩:=Int.eq_ofNat_of_zero_le h4
 unfold MS.done
 rw [show ((q:Nat):Int).toNat = q by omega] at h3 h5 ⊢
 rw [show ((j:Nat):Int).toNat = j by omega]
 exact do_nat h q j op e a b (by omega) (Lib.hid h3) (by omega) h6 h7
end
end Go.Proofs.YthjklbonebnekaaGreat
namespace Go.Proofs.YthjklbonebnekaaGreat
open Go Go.ChangeShapes Go.WideShapes Go.RowKit
def iN (l:List Int) (i:Nat):Int:=l.getD i 0
def Is (w:World) (v:Value) (l:List Int):Prop:=
 ∃ a0 cap,v = .slice a0 l.length cap ∧ l.length ≤ cap ∧ (0 < l.length → ∃ b off,a0 = some ⟨b,off,none⟩ ∧ b < w.heap.size ∧ ∀ i,i < l.length → w.cell? ⟨b,off+i,none⟩ = some (.int .i64 (iN l i)))
theorem Is.ext {w w':World} {v:Value} {l:List Int} (h:Is w v l) (hb:Below w.heap.size w w'):Is w' v l:=by
 obtain ⟨a0,cap,e,hc,hr⟩:=h
 refine ⟨a0,cap,e,hc,fun hl => ?_⟩
 obtain ⟨b,off,ea,hlt,hcell⟩:=hr hl
 refine ⟨b,off,ea,Nat.lt_of_lt_of_le hlt hb.size,fun i hi => ?_⟩
 rw [hb.cell (p:=⟨b,off+i,none⟩) hlt]
 exact hcell i hi
theorem Is.at {w:World} {a0:Option Addr} {n cap:Nat} {l:List Int} (h:Is w (.slice a0 n cap) l) (hl:0 < l.length):∃ b off,a0 = some ⟨b,off,none⟩ ∧ b < w.heap.size ∧
  ∀ i,i < l.length → w.cell? ⟨b,off+i,none⟩ = some (.int .i64 (iN l i)):=by
 obtain ⟨a,c,e,_,hr⟩:=h
 simp at e
 obtain ⟨rfl,rfl,rfl⟩:=e
 exact hr hl
theorem is_new (w:World) (l:List Int) (t:TypeId):Is (w.alloc (.cells (l.map fun x => Value.int .i64 x).toArray t)) (.slice (some ⟨w.heap.size,0,none⟩) l.length l.length) l:=by
 refine ⟨_,_,rfl,Nat.le_refl _,fun _ => ⟨_,_,rfl,by simp,fun i hi => ?_⟩⟩
 have hb:(w.alloc (.cells (l.map fun x => Value.int .i64 x).toArray t)).heap[w.heap.size]? = some (.cells (l.map fun x => Value.int .i64 x).toArray t (0,0)):=by
  show (w.heap.push _)[w.heap.size]? = _
  simp
 refine cell_at hb ?_
 rw [Nat.zero_add,List.getElem?_toArray,List.getElem?_map]
 unfold iN
 rw [List.getD_eq_getElem?_getD,List.getElem?_eq_getElem hi]
 rfl
def sumTo (l:List Int):Nat → Int
 | 0 => 0
 | k+1 => sumTo l k+iN l k
def FitTo' (l:List Int) (k:Nat):Prop:=∀ i,i < k → 0 ≤ iN l i ∧ iN l i ≤ 16777216 - sumTo l i
theorem FitTo'.zero (l:List Int):FitTo' l 0:=fun _ h => absurd h (Nat.not_lt_zero _)
theorem FitTo'.succ {l:List Int} {k:Nat} (h:FitTo' l k) (h0:0 ≤ iN l k) (h1:iN l k ≤ 16777216 - sumTo l k):FitTo' l (k+1):=fun i hi => by
 by_cases e:i = k
 ·subst e;exact ⟨h0,h1⟩
 ·exact h i (by omega)
theorem FitTo'.sum {l:List Int}:∀ {k:Nat},FitTo' l k → 0 ≤ sumTo l k ∧ sumTo l k ≤ 16777216
 | 0,_ => by unfold sumTo;omega
 | k+1,h => by
  have ih:=FitTo'.sum (k:=k) fun i hi => h i (by omega)
  have:=h k (by omega)
  unfold sumTo
  omega
def SizesOk (l:List Int):Prop:=l.length ≤ 65 ∧ FitTo' l l.length
section
variable {H:Type} {enc:TypeId × Value → H} {P:Program} {w:World} {base:Nat} {held:Bool}
theorem spot_none' {w:World} {a:Addr} {v:Value} (h:w.cell? a = some v):a = ⟨a.block,a.off,none⟩:=by
 obtain ⟨b,o,s⟩:=a
 cases s with
 | none => rfl
 | some x =>
  unfold World.cell? at h
  split at h <;> simp at h
theorem add_at' (b o n:Nat):(⟨b,o,none⟩ : Addr).add n = ⟨b,o+n,none⟩:=by
 unfold Addr.add
 by_cases h:n = 0
 ·rw [if_pos h,h];rfl
 ·rw [if_neg h]
end
end Go.Proofs.YthjklbonebnekaaGreat
namespace Go.Proofs.YthjklbonebnekaaGreat
open Go Go.RowKit
def FitRel (l:List Int) (left i:Value):Prop:=∃ k:Nat,k ≤ l.length ∧ i = .int .i64 (k:Int) ∧ left = .int .i64 (16777216 - sumTo l k) ∧ FitTo' l k
theorem fit_any (l:List Int) (v:Value) (w:World) (r:Bool) (hr:Hid (r = true ↔ FitTo' l l.length)) (hl:l.length ≤ 65) (hI:Is w v l) :
  Calls Tryz.prog 133 #[v] w (Ret (.bool r) w):=by
 have HI:=Lib.hid hI
 obtain ⟨a0,cap,rfl,hc,hcell⟩:=hI
 clear hcell
 go_enter Tryz.func133,Tryz.ntmps133
 go_wp2
 go_loop [3,8] (fun left i => FitRel l left i) (fun _ i => (l.length - intOf i).toNat)
 case atStart => exact ⟨0,Nat.zero_le _,rfl,rfl,FitTo'.zero l⟩
 case round =>
  obtain ⟨k,hk,rfl,rfl,hf⟩:=hrel
  have HF:=Lib.hid hf
  have hsum:=hf.sum
  clear hf
  by_cases hlt:k < l.length
  ·obtain ⟨b,off,rfl,hb,hcells⟩:=HI.out.at (by omega)
   have c1:=hcells k hlt
   clear hcells
   by_cases h0:0 ≤ iN l k
   ·by_cases h1:iN l k ≤ 16777216 - sumTo l k
    ·go_wp2
     exact ⟨⟨k+1,by omega,by go_num,by simp only [sumTo];go_num,HF.out.succ h0 h1⟩,by simp [intOf];omega⟩
    ·have h2:16777216 - sumTo l k < iN l k:=by omega
     have E:Hid (false = r):=by
      refine Lib.hid ?_
      cases r with
      | false => rfl
      | true => exact absurd (hr.out.1 rfl k hlt).2 h1
     clear h1
     go_wp2
     go_ret
     exact Ret.bool E.out (ext_refl _)
   ·have h2:iN l k < 0:=by omega
    have E:Hid (false = r):=by
     refine Lib.hid ?_
     cases r with
     | false => rfl
     | true => exact absurd (hr.out.1 rfl k hlt).1 h0
    clear h0
    go_wp2
    go_ret
    exact Ret.bool E.out (ext_refl _)
  ·obtain rfl:k = l.length:=by omega
   have E:Hid (true = r):=Lib.hid (hr.out.2 HF.out).symm
   go_wp2
   go_ret
   exact Ret.bool E.out (ext_refl _)
def M0 (l:List Int) (k:Nat):MS:={ n:=k,sz:=fun i => (iN l i).toNat,wd:=fun _ _ => 0#64,ep:=fun _ => 1#64,ct:=0 }
def RetNew (l:List Int) (w:World) (e:Ending) (w':World):Prop:=
 ∃ L:Lay,e = .returned (.tuple #[.pointer (some ⟨L.bm,0,none⟩),.int .i64 0]) ∧ MemIn w.heap.size w'.heap.size L (M0 l l.length) w' ∧ Ext w w'
def ptrs (rb:Nat → Nat) (k:Nat):List Value:=(List.range k).map fun i => .pointer (some ⟨rb i,0,none⟩)
structure NewIn (l:List Int) (bm k:Nat) (v:Value) (rb wb:Nat → Nat) (w0 w:World):Prop where
 ext:Ext w0 w
 bm0:w0.heap.size ≤ bm
 m:w.heap[bm]? = some (.cells #[v,.int .i64 0] 200 (0,0))
 own:w.ownsRow w0.heap.size 157 1 v k (ptrs rb k)
 reg:∀ i,i < k → w0.heap.size ≤ rb i ∧ w.heap[rb i]? = some (.cells #[.slice (some ⟨wb i,0,none⟩) (iN l i).toNat (iN l i).toNat,.int .u64 1] 160 (0,0))
 wds:∀ i,i < k → w0.heap.size ≤ wb i ∧ ∃ cur,w.heap[wb i]? = some (.cells cur 40 (0,0)) ∧ (iN l i).toNat ≤ cur.size ∧ ∀ j,j < (iN l i).toNat → cur[j]? = some (.int .u64 0)
 rinj:∀ i j,i < k → j < k → rb i = rb j → i = j
 winj:∀ i j,i < k → j < k → wb i = wb j → i = j
theorem heap_lt {w:World} {b:Nat} {o:Obj} (h:w.heap[b]? = some o):b < w.heap.size:=(Array.getElem?_eq_some_iff.1 h).1
theorem own_ne {w:World} {base:Nat} {e:TypeId} {size:Nat} {v:Value} {n:Nat} {xs:List Value} (h:w.ownsRow base e size v n xs) {b:Nat} {c:Array Value} {t:TypeId} {f:Nat × Nat}
  (hb:w.heap[b]? = some (.cells c t f)) (hne:t ≠ e):some b ≠ v.ownBlock:=by
 rcases h.2 with ⟨rfl,_⟩ | ⟨g,cap,cur,rfl,_,hh,_⟩
 ·simp [Value.ownBlock]
 ·intro e1
  simp [Value.ownBlock] at e1
  subst e1
  exact block_ne hb hh hne rfl
theorem ptrs_snoc (rb:Nat → Nat) (k g:Nat):ptrs rb k ++ [.pointer (some ⟨g,0,none⟩)] = ptrs (fun i => if i = k then g else rb i) (k+1):=by
 unfold ptrs
 rw [List.range_succ,List.map_append]
 congr 1
 ·apply List.map_congr_left
  intro i hi
  have:i ≠ k:=by have:=List.mem_range.1 hi;omega
  simp [this]
 ·simp
theorem NewIn.step {l:List Int} {bm k:Nat} {v v':Value} {rb wb:Nat → Nat} {w0 wr w3 w4:World} {g1 g2:Nat} {z:Array Value} (h:NewIn l bm k v rb wb w0 wr) (h3:Ext wr w3)
  (hg1:wr.heap.size ≤ g1) (hg2:wr.heap.size ≤ g2) (hz:w3.heap[g1]? = some (.cells z 40 (0,0))) (hz1:(iN l k).toNat ≤ z.size) (hz2:∀ j,j < (iN l k).toNat → z[j]? = some (.int .u64 0))
  (hr:w3.heap[g2]? = some (.cells #[.slice (some ⟨g1,0,none⟩) (iN l k).toNat (iN l k).toNat,.int .u64 1] 160 (0,0)))
  (hg:w3.grownBy w4 v.ownBlock) (ho:w4.ownsRow w0.heap.size 157 1 v' (k+1) (ptrs rb k ++ [.pointer (some ⟨g2,0,none⟩)])) :
  NewIn l bm (k+1) v' (fun i => if i = k then g2 else rb i) (fun i => if i = k then g1 else wb i) w0 (w4.setCell ⟨bm,0,none⟩ v'):=by
 have hown3:w3.ownsRow w0.heap.size 157 1 v k (ptrs rb k):=by
  obtain ⟨h1,h2⟩:=h.own
  refine ⟨h1,?_⟩
  rcases h2 with h2 | ⟨g,cap,cur,hv,hgb,hh,r⟩
  ·exact .inl h2
  ·exact .inr ⟨g,cap,cur,hv,hgb,by rw [h3.block g (heap_lt hh)];exact hh,r⟩
 have keep:∀ {b:Nat} {c:Array Value} {t:TypeId},w3.heap[b]? = some (.cells c t (0,0)) → t ≠ 157 → w4.heap[b]? = some (.cells c t (0,0)):=fun hb hne => by
  rw [hg.block _ (heap_lt hb) (own_ne hown3 hb hne)];exact hb
 have hm3:w3.heap[bm]? = some (.cells #[v,.int .i64 0] 200 (0,0)):=by rw [h3.block _ (heap_lt h.m)];exact h.m
 have hm4:=keep hm3 (by decide)
 have far:∀ {b:Nat} {c:Array Value} {t:TypeId},w4.heap[b]? = some (.cells c t (0,0)) → t ≠ 200 → (w4.setCell ⟨bm,0,none⟩ v').heap[b]? = some (.cells c t (0,0)):=fun hb hne => by
  rw [set_other _ (block_ne hb hm4 hne)];exact hb
 have hext4:Ext w0 w4:=h.ext.trans (Below.mono (B:=w0.heap.size) ⟨h3.os,h3.tape,h3.output,h3.size,fun j hj => h3.block j (Nat.lt_of_lt_of_le hj h.ext.size)⟩ (Nat.le_refl _)) |>.grown hg (Nat.le_trans h.ext.size h3.size) (fun j hj => by
  rcases hown3.2 with ⟨rfl,_⟩ | ⟨g,cap,cur,rfl,hgb,_⟩
  ·simp [Value.ownBlock] at hj
  ·simp [Value.ownBlock] at hj;omega)
 refine ⟨ext_set _ h.bm0 hext4,h.bm0,?_,?_,fun i hi => ?_,fun i hi => ?_,fun i j hi hj e => ?_,fun i j hi hj e => ?_⟩
 ·rw [set_same _ hm4];rfl
 ·rw [← ptrs_snoc]
  obtain ⟨h1,h2⟩:=ho
  refine ⟨h1,?_⟩
  rcases h2 with h2 | ⟨g,cap,cur,hv,hgb,hh,r⟩
  ·exact .inl h2
  ·exact .inr ⟨g,cap,cur,hv,hgb,far hh (by decide),r⟩
 ·by_cases e:i = k
  ·subst e
   simp only [if_true]
   exact ⟨Nat.le_trans h.ext.size hg2,far (keep hr (by decide)) (by decide)⟩
  ·simp only [e,if_false]
   obtain ⟨h1,h2⟩:=h.reg i (by omega)
   have h2':=(h3.block _ (heap_lt h2)).trans h2
   exact ⟨h1,far (keep h2' (by decide)) (by decide)⟩
 ·by_cases e:i = k
  ·subst e
   simp only [if_true]
   exact ⟨Nat.le_trans h.ext.size hg1,z,far (keep hz (by decide)) (by decide),hz1,hz2⟩
  ·simp only [e,if_false]
   obtain ⟨h1,cur,h2,h4⟩:=h.wds i (by omega)
   have h2':=(h3.block _ (heap_lt h2)).trans h2
   exact ⟨h1,cur,far (keep h2' (by decide)) (by decide),h4⟩
 ·by_cases e1:i = k <;> by_cases e2:j = k <;> simp only [e1,e2,if_true,if_false] at e
  ·omega
  ·have:=heap_lt (h.reg j (by omega)).2;omega
  ·have:=heap_lt (h.reg i (by omega)).2;omega
  ·exact h.rinj i j (by omega) (by omega) e
 ·by_cases e1:i = k <;> by_cases e2:j = k <;> simp only [e1,e2,if_true,if_false] at e
  ·omega
  ·obtain ⟨_,cur,h2,_⟩:=h.wds j (by omega);have:=heap_lt h2;omega
  ·obtain ⟨_,cur,h2,_⟩:=h.wds i (by omega);have:=heap_lt h2;omega
  ·exact h.winj i j (by omega) (by omega) e
theorem NewIn.done {l:List Int} {bm:Nat} {v:Value} {rb wb:Nat → Nat} {w0 w:World} (h:NewIn l bm l.length v rb wb w0 w) (hok:SizesOk l):∃ L:Lay,L.bm = bm ∧ MemIn w0.heap.size w.heap.size L (M0 l l.length) w:=by
 have U1:U 1#64 = 1:=U_of _ _ (by decide)
 obtain ⟨h65,hfit⟩:=hok
 have hsm:∀ i,i < l.length → (iN l i).toNat ≤ 16777216:=fun i hi => by
  have h1:=hfit i hi
  have h2:=FitTo'.sum (l:=l) (k:=i) fun j hj => hfit j (by omega)
  omega
 have hreg:∀ i,i < l.length → w0.heap.size ≤ rb i ∧ rb i < w.heap.size ∧ w.heap[rb i]? = some (.cells #[.slice (some ⟨wb i,0,none⟩) (iN l i).toNat (iN l i).toNat,.int .u64 (U 1#64)] 160 (0,0)):=fun i hi => by
  rw [U1];exact ⟨(h.reg i hi).1,heap_lt (h.reg i hi).2,(h.reg i hi).2⟩
 have hwds:∀ i,i < l.length → w0.heap.size ≤ wb i ∧ wb i < w.heap.size ∧ ∃ cur,w.heap[wb i]? = some (.cells cur 40 (0,0)) ∧ (iN l i).toNat ≤ cur.size ∧ ∀ j,j < (iN l i).toNat → cur[j]? = some (.int .u64 (U 0#64)):=fun i hi => by
  rw [U_0]
  obtain ⟨h1,cur,h2,h3⟩:=h.wds i hi
  exact ⟨h1,heap_lt h2,cur,h2,h3⟩
 rcases h.own.2 with ⟨rfl,hn⟩ | ⟨g,cap,cur,rfl,hg,hh,hc,hmax,hs,ht⟩
 ·refine ⟨⟨bm,0,none,0,rb,wb,fun i => (iN l i).toNat⟩,rfl,⟨Nat.le_refl _,h65,hsm,⟨h.bm0,heap_lt h.m⟩,?_,fun h0 => absurd h0 ?_,hreg,hwds,h.rinj,h.winj⟩⟩
  ·show _ = some (Obj.cells #[.slice none l.length 0,.int .i64 0] _ _)
   rw [hn];exact h.m
  ·show ¬ 0 < l.length
   omega
 ·refine ⟨⟨bm,g,some ⟨g,0,none⟩,cap,rb,wb,fun i => (iN l i).toNat⟩,rfl,⟨Nat.le_refl _,h65,hsm,⟨h.bm0,heap_lt h.m⟩,h.m,fun _ => ⟨rfl,hg,heap_lt hh,cur,hh,fun i hi => ?_⟩,hreg,hwds,h.rinj,h.winj⟩⟩
  have hi':i < l.length:=hi
  have h3:(cur.toList.take (l.length * 1))[i]? = (ptrs rb l.length)[i]?:=by rw [ht]
  rw [List.getElem?_take,if_pos (by omega)] at h3
  rw [← Array.getElem?_toList,h3]
  unfold ptrs
  rw [List.getElem?_map,List.getElem?_range hi']
  rfl
theorem Tryz.infoReg:(Tryz.prog.info? 157).map (fun i => (i.zero,i.size,i.bytes)) = some (some (.pointer none),1,8):=by kernel_rfl
theorem Tryz.infoU64:(Tryz.prog.info? 40).map (fun i => (i.zero,i.size,i.bytes)) = some (some (.int .u64 0),1,8):=by kernel_rfl
theorem ext_grown00 {w u u':World} (h:Ext w u) (hg:u.grownBy u' none):Ext w u':=h.grown hg h.size fun k hk => by cases hk
theorem made_zero {w:World} {base g n:Nat} {t:TypeId} (h:w.ownsRow base t 1 (.slice (some ⟨g,0,none⟩) n n) n (madeCells (Value.int .u64 0).cells (n * 1)).toList) :
  ∃ z,w.heap[g]? = some (.cells z t (0,0)) ∧ n ≤ z.size ∧ ∀ j,j < n → z[j]? = some (.int .u64 0):=by
 rcases h.2 with ⟨h1,_⟩ | ⟨g',cap,cur,h1,_,hh,_,_,hs,ht⟩
 ·cases h1
 ·simp at h1
  obtain ⟨rfl,rfl⟩:=h1
  refine ⟨cur,hh,by omega,fun j hj => ?_⟩
  have e1:(madeCells (Value.int IntKind.u64 0).cells n).toList = List.replicate n (Value.int .u64 0):=toList_madeCells_one _ _
  rw [Nat.mul_one,e1] at ht
  have h3:(cur.toList.take n)[j]? = (List.replicate n (Value.int .u64 0))[j]?:=by rw [ht]
  rw [List.getElem?_take,if_pos hj,List.getElem?_replicate,if_pos hj] at h3
  rw [← Array.getElem?_toList,h3]
theorem own_ext' {w w':World} {base:Nat} {e:TypeId} {size:Nat} {v:Value} {n:Nat} {xs:List Value} (h:w.ownsRow base e size v n xs) (hb:Ext w w'):w'.ownsRow base e size v n xs:=by
 obtain ⟨h1,h2⟩:=h
 refine ⟨h1,?_⟩
 rcases h2 with h2 | ⟨g,cap,cur,hv,hg,hh,r⟩
 ·exact .inl h2
 ·exact .inr ⟨g,cap,cur,hv,hg,by rw [hb.block g (heap_lt hh)];exact hh,r⟩
theorem own_slice {w:World} {base:Nat} {e:TypeId} {size:Nat} {v:Value} {n:Nat} {xs:List Value} (h:w.ownsRow base e size v (n+1) xs):∃ g cap,v = .slice (some ⟨g,0,none⟩) (n+1) cap:=by
 rcases h.2 with ⟨_,h2⟩ | ⟨g,cap,cur,hv,_⟩
 ·cases h2
 ·exact ⟨g,cap,hv⟩
theorem newp (w:World) (g:Nat) (x:Value) (t:TypeId) (hg:g = w.heap.size):∀ j u,[x][j]? = some u → (w.alloc (.cells #[x] t)).cell? ((⟨g,0,none⟩ : Addr).add j) = some u:=by
 intro j u hj
 subst hg
 match j,hj with
 | 0,hj => simp at hj;subst hj;simp [Addr.add]
theorem onep (p:Option Addr):∀ u ∈ [Value.pointer p],u.oneCell' = true:=by
 intro u hu;simp at hu;subst hu;rfl
def NewRel (l:List Int) (bm:Nat) (w0:World) (i:Value) (wr:World):Prop:=∃ (k:Nat) (v:Value) (rb wb:Nat → Nat),k ≤ l.length ∧ i = .int .i64 (k:Int) ∧ NewIn l bm k v rb wb w0 wr
theorem new_yes (l:List Int) (v:Value) (w:World) (hok:SizesOk l) (hI:Is w v l) :
  Calls Tryz.prog 56 #[v] w (RetNew l w):=by
 have HI:=Lib.hid hI
 have HK:=Lib.hid hok
 obtain ⟨h65,hfit⟩:=hok
 have HF:=Lib.hid hfit
 obtain ⟨a0,cap,rfl,hc,hcell⟩:=hI
 clear hcell hfit
 have h65':decide (65 < (l.length:Int)) = false:=by simp;omega
 obtain ⟨iR,hiR,hz0,hz1,hz2⟩:=info_parts Tryz.infoReg
 obtain ⟨iU,hiU,hy0,hy1,hy2⟩:=info_parts Tryz.infoU64
 go_enter Tryz.func56,Tryz.ntmps56
 go_wp2_with (go_at_call 133;refine (fit_any l _ _ true (hid_yes HF.out) h65 HI.out).mono ?_;rintro e w' hr';obtain ⟨rfl,s,rfl⟩:=hr'.over;clear hr')
 have hbm:w.heap.size ≤ (over w s).heap.size:=over_size w s
 have H0:Hid (NewIn l (over w s).heap.size 0 (.slice none 0 0) (fun _ => 0) (fun _ => 0) w ((over w s).alloc (.cells #[.slice none 0 0,.int .i64 0] 200))):=by
  refine Lib.hid ⟨ext_alloc _ (over_below w s),hbm,?_,World.ownsRow_nil _ _ _ _,fun i hi => absurd hi (Nat.not_lt_zero _),fun i hi => absurd hi (Nat.not_lt_zero _),fun i _ hi => absurd hi (Nat.not_lt_zero _),fun i _ hi => absurd hi (Nat.not_lt_zero _)⟩
  show ((over w s).heap.push _)[(over w s).heap.size]? = _
  simp
 generalize (over w s).heap.size = bm at H0 hbm ⊢
 generalize (over w s).alloc _ = wa at H0 ⊢
 go_loopw [19] (fun i wr => NewRel l bm w i wr) (fun i _ => (l.length - intOf i).toNat)
 case atStart => exact ⟨0,_,_,_,Nat.zero_le _,rfl,H0.out⟩
 case round =>
  obtain ⟨k,v,rb,wb,hk,rfl,hN⟩:=hrel
  have HN:=Lib.hid hN
  clear hN H0
  by_cases hlt:k < l.length
  ·obtain ⟨b,off,rfl,hb,hcells⟩:=(HI.out.ext HN.out.ext).at (by omega)
   have c1:=hcells k hlt
   have hf:=HF.out k hlt
   have hs:=FitTo'.sum (l:=l) (k:=k) fun j hj => HF.out j (by omega)
   have cm:wr.cell? ⟨bm,0,none⟩ = some v:=cell_at HN.out.m rfl
   have cz:wr.frozen? ⟨bm,0,none⟩ = false:=free_at HN.out.m
   have lm:=heap_lt HN.out.m
   clear hcells
   obtain ⟨g0,hg0,hne⟩ : ∃ g0,(∀ x,v.ownBlock = some x → x = g0) ∧ bm ≠ g0:=by
    cases hv:v.ownBlock with
    | none => exact ⟨wr.heap.size,(fun x hx => by cases hx),Nat.ne_of_lt lm⟩
    | some g => exact ⟨g,(fun x hx => by cases hx;rfl),fun e => own_ne HN.out.own HN.out.m (by decide) (by rw [hv,e])⟩
   have HG:=Lib.hid hg0
   clear hg0
   go_wp2
   refine wp_region_mix (fun w' => ∃ s,w' = off1 g0 wr s) [(0,[0,1,2,3,4,5]),(1,[6]),(0,[7]),(1,[8]),(1,[9]),(1,[10]),(0,[11,12]),(2,[13])] (by kernel_rfl) (by kernel_rfl) (off1_of (Fr.refl _ _ wr).drew) ?_
   simp only [pieces,pickL,List.map_cons,List.map_nil,List.getD_cons_zero,List.getD_cons_succ]
   refine mix_reads ?_
   repeat (go_big_quiet_step (fail))
   refine wpQuiet_nil (mix_acts ?_)
   go_wp2_with (at_make;refine wpList_make_full _ rfl (.tmp 28) (.tmp 28) 87 rfl w.heap.size 40 iU (.int .u64 0) 1 Tryz.underlying87 hiU hy0 hy1 .i64 .i64 (iN l k) (iN l k) (iN l k).toNat rfl rfl (by omega) (by omega) (by rw [hy2];omega) (by unfold maxLen;omega) HN.out.ext.size ?_;intro w1 ho1 hg1;have HX1:=Lib.hid (ext_grown00 (ext_drew (ext_refl wr)) hg1);have HZ:=Lib.hid (made_zero ho1);clear ho1 hg1)
   refine mixQ_mk (off1_of (.of_ext HX1.out)) (mix_reads ?_)
   repeat (go_big_quiet_step (fail))
   refine wpQuiet_nil (mix_acts ?_)
   go_wp2
   refine mixQ_mk (off1_of (.of_ext (ext_alloc _ HX1.out))) (mix_acts ?_)
   go_wp2
   refine mixQ_mk (off1_of (.of_ext (ext_alloc _ (ext_alloc _ HX1.out)))) (mix_acts ?_)
   have HO:=Lib.hid (own_ext' (own_ext' HN.out.own HX1.out) (ext_alloc (.cells #[.slice (some ⟨wr.heap.size,0,none⟩) (iN l k).toNat (iN l k).toNat,.int .u64 1] 160) (ext_refl w1)))
   have HO2:=Lib.hid (own_ext' HO.out (ext_alloc (.cells #[.pointer (some ⟨w1.heap.size,0,none⟩)] 157) (ext_refl _)))
   go_wp2_with (at_builtin;refine wpList_append_own _ rfl (.tmp 27) (.tmp 32) 198 rfl w.heap.size 157 iR (.pointer none) 1 8 Tryz.underlying198 hiR hz0 hz1 hz2 rfl (by decide) v k (ptrs rb k) rfl HO2.out ⟨w1.heap.size+1,0,none⟩ 1 1 [.pointer (some ⟨w1.heap.size,0,none⟩)] rfl rfl (newp _ _ _ _ (by simp)) (onep _) (by unfold maxLen;omega) (by omega) (by have:=HN.out.ext.size;have:=HX1.out.size;simp;omega) ?_;intro v2 w2 hv2 hg2 hn2;obtain ⟨g',cap',rfl⟩:=own_slice hv2;have HV:=Lib.hid hv2;have HG2:=Lib.hid hg2;clear hv2 hg2 hn2)
   have HF2:=Lib.hid (Fr.grown (lo:=g0) (hi:=g0+1) (.of_ext (ext_alloc _ (ext_alloc _ HX1.out))) HG2.out (fun x hx => by have:=HG.out x hx;omega))
   refine mixQ_mk (off1_of HF2.out) (mix_reads ?_)
   have cm2:w2.cell? ⟨bm,0,none⟩ = some v:=by rw [HF2.out.cell lm (by omega)];exact cm
   have cz2:w2.frozen? ⟨bm,0,none⟩ = false:=by rw [HF2.out.frozen lm (by omega)];exact cz
   repeat (go_big_quiet_step (fail))
   refine wpQuiet_nil (mix_late ?_)
   have lm2:bm < w2.heap.size:=Nat.lt_of_lt_of_le lm HF2.out.size
   go_wp2
   refine lateQ_mk (fun _ => True) trivial (mix_end ?_)
   obtain ⟨z,hz',hzs,hzc⟩:=HZ.out
   have hz:w1.heap[wr.heap.size]? = some (.cells z 40 (0,0)):=hz'
   clear hz'
   have HS:=Lib.hid (HN.out.step (v':=.slice (some ⟨g',0,none⟩) (k+1) cap') (w3:=(w1.alloc (.cells #[.slice (some ⟨wr.heap.size,0,none⟩) (iN l k).toNat (iN l k).toNat,.int .u64 1] 160)).alloc (.cells #[.pointer (some ⟨w1.heap.size,0,none⟩)] 157)) (w4:=w2) (g1:=wr.heap.size) (g2:=w1.heap.size) (z:=z)
    (ext_alloc _ (ext_alloc _ HX1.out)) (Nat.le_refl _) HX1.out.size
    (by rw [Below.heap_alloc _ _ _ (by have:=heap_lt hz;simp;omega),Below.heap_alloc _ _ _ (heap_lt hz)];exact hz) hzs hzc
    (by rw [Below.heap_alloc _ _ _ (by simp)];show (w1.heap.push _)[w1.heap.size]? = _;simp) HG2.out HV.out)
   clear hz hzs hzc HZ
   go_wp2
   exact ⟨⟨k+1,_,_,_,by omega,by go_num,HS.out⟩,by simp [intOf];omega⟩
  ·obtain rfl:k = l.length:=by omega
   obtain ⟨L,rfl,hM⟩:=HN.out.done HK.out
   have HM:=Lib.hid hM
   clear hM
   go_wp2
   go_ret2
   exact ⟨L,rfl,HM.out,HN.out.ext⟩
section
variable {lo hi:Nat} {L:Lay} {M:MS} {w:World}
theorem cap_int (h:MemIn lo hi L M w) (r:Int) (E:BitVec 64) (h0:0 ≤ r) (h1:r < M.n) (hE:Hid (M.ep r.toNat = E)) :
  Calls Tryz.prog 18 #[.pointer (some ⟨L.bm,0,none⟩),.int .i64 r] w (Ret (.agg #[.int .i64 r,.int .u64 (U E)]) w):=by
 obtain ⟨q,rfl⟩:=Int.eq_ofNat_of_zero_le h0
 have hE':=hE.out
 rw [show ((q:Nat):Int).toNat = q by omega] at hE'
 rw [← hE']
 exact cap_yes h q (by omega)
theorem peek_int (h:MemIn lo hi L M w) (r j x:Int) (h0:0 ≤ r) (h1:r < M.n) (h2:0 ≤ j) (h3:j < M.sz r.toNat) (hx:Hid (U (M.wd r.toNat j.toNat) = x)) :
  Calls Tryz.prog 20 #[.pointer (some ⟨L.bm,0,none⟩),.int .i64 r,.int .i64 j] w (Ret (.int .u64 x) w):=by
 obtain ⟨q,rfl⟩:=Int.eq_ofNat_of_zero_le h0
 obtain ⟨p,rfl⟩:=Int.eq_ofNat_of_zero_le h2
 have hx':=hx.out
 rw [show ((q:Nat):Int).toNat = q by omega,show ((p:Nat):Int).toNat = p by omega] at hx'
 rw [show ((q:Nat):Int).toNat = q by omega] at h3
 rw [← hx']
 exact peek_yes h q p (by omega) (by omega)
theorem new_row (l:List Int) (cs:Array Value) (n:Nat) (w:World) (hcs:cs = (l.map fun x => Value.int .i64 x).toArray) (hn:n = l.length) (hok:SizesOk l) :
  Calls Tryz.prog 56 #[.slice (some ⟨w.heap.size,0,none⟩) n n] (w.alloc (.cells cs 3)) (RetNew l (w.alloc (.cells cs 3))):=by
 subst hcs hn
 exact new_yes l _ _ hok (is_new w l 3)
def RetLaw (l:List Int) (w0:World) (e:Ending) (X:World):Prop:=
 ∃ (lo hi:Nat) (L:Lay),e = .returned (.tuple #[.pointer (some ⟨L.bm,0,none⟩),.int .i64 0]) ∧ MemIn lo hi L (M0 l l.length) X ∧ Ext w0 X ∧ w0.heap.size ≤ lo
theorem new_law (l:List Int) (cs:Array Value) (n:Nat) {w0 w:World} (h:Ext w0 w) (hcs:cs = (l.map fun x => Value.int .i64 x).toArray) (hn:n = l.length) (hok:SizesOk l) :
  Calls Tryz.prog 56 #[.slice (some ⟨w.heap.size,0,none⟩) n n] (w.alloc (.cells cs 3)) (RetLaw l w0):=
 (new_row l cs n w hcs hn hok).mono fun e X ⟨L,he,hM,hX⟩ => ⟨_,_,L,he,hM,ext_trans (ext_alloc _ h) hX,by have:=h.size;simp;omega⟩
end
theorem U_1:U 1#64 = 1:=U_of _ _ (by decide)
end Go.Proofs.YthjklbonebnekaaGreat
namespace Go.Proofs.YthjklbonebnekaaGreat
open Go Go.ChangeShapes Go.WideShapes Go.RowKit
def uN (l:List (BitVec 64)) (i:Nat):BitVec 64:=l.getD i 0#64
def Us (w:World) (v:Value) (l:List (BitVec 64)):Prop:=
 ∃ a0 cap,v = .slice a0 l.length cap ∧ l.length ≤ cap ∧ (0 < l.length → ∃ b off,a0 = some ⟨b,off,none⟩ ∧ b < w.heap.size ∧
  ∀ i,i < l.length → w.cell? ⟨b,off+i,none⟩ = some (.int .u64 (U (uN l i))))
theorem Us.ext {w w':World} {v:Value} {l:List (BitVec 64)} (h:Us w v l) (hb:Below w.heap.size w w'):Us w' v l:=by
 obtain ⟨a0,cap,e,hc,hr⟩:=h
 refine ⟨a0,cap,e,hc,fun hl => ?_⟩
 obtain ⟨b,off,ea,hlt,hcell⟩:=hr hl
 refine ⟨b,off,ea,Nat.lt_of_lt_of_le hlt hb.size,fun i hi => ?_⟩
 rw [hb.cell (p:=⟨b,off+i,none⟩) hlt]
 exact hcell i hi
theorem Us.at {w:World} {a0:Option Addr} {n cap:Nat} {l:List (BitVec 64)} (h:Us w (.slice a0 n cap) l) (hl:0 < l.length):∃ b off,a0 = some ⟨b,off,none⟩ ∧ b < w.heap.size ∧
  ∀ i,i < l.length → w.cell? ⟨b,off+i,none⟩ = some (.int .u64 (U (uN l i))):=by
 obtain ⟨a,c,e,_,hr⟩:=h
 simp at e
 obtain ⟨rfl,rfl,rfl⟩:=e
 exact hr hl
theorem Us.over {w:World} {v:Value} {l:List (BitVec 64)} (h:Us w v l) (s:Sub w):Us (YthjklbonebnekaaGreat.over w s) v l:=h.ext (over_below w s)
section
variable {H:Type} {enc:TypeId × Value → H} {P:Program} {w:World} {base:Nat} {held:Bool}
end
end Go.Proofs.YthjklbonebnekaaGreat

