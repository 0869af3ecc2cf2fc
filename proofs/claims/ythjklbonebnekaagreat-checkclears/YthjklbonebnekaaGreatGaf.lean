/-
  Programs as trees: what a program may ask, and how it goes on by what it is told; what stands in memory for one. Conditions: those of each theorem.
-/
import Derived.Test.YthjklbonebnekaaGreatGae
set_option maxRecDepth 8000
set_option maxHeartbeats 4000000
namespace Go.Proofs.YthjklbonebnekaaGreat
open Go Go.RowKit
inductive Tr (α:Type):Type
 | done (r:α):Tr α
 | ask (a:Acc) (k:BitVec 64 → Tr α):Tr α
 | more:Tr α
def Tr.bind {α β:Type}:Tr α → (α → Tr β) → Tr β
 | .done r,f => f r
 | .ask a k,f => .ask a fun x => (k x).bind f
 | .more,_ => .more
structure Kd (α:Type) where
 S:Value → Acc → Value → Value
 z:Value
 enc:α → Value
def vS (r:Value) (a:Acc) (fn:Value):Value:=.agg #[r,.int .i64 a.op,.int .i64 a.at_,.int .u64 (U a.a),.int .u64 (U a.b),fn,.pointer none]
def vS0 (_:Value) (a:Acc) (fn:Value):Value:=.agg #[.int .i64 a.op,.int .i64 a.at_,.int .u64 (U a.a),.int .u64 (U a.b),fn,.pointer none]
def kU:Kd (BitVec 64):=⟨vS,.int .u64 0,fun x => .int .u64 (U x)⟩
def kB:Kd Bool:=⟨vS,.bool false,fun x => .bool x⟩
def kI:Kd Int:=⟨vS,.int .i64 0,fun x => .int .i64 x⟩
def kN:Kd Unit:=⟨vS0,.agg #[],fun _ => .agg #[]⟩
def Agr (F:Nat → Prop) (w w':World):Prop:=∀ j,F j → w'.heap[j]? = w.heap[j]?
theorem Agr.trans {F:Nat → Prop} {a b c:World} (h:Agr F a b) (k:Agr F b c):Agr F a c:=fun j hj => (k j hj).trans (h j hj)
theorem Agr.sub {F G:Nat → Prop} {a b:World} (h:Agr F a b) (hs:∀ j,G j → F j):Agr G a b:=fun j hj => h j (hs j hj)
def Bnd (F:Nat → Prop) (w:World):Prop:=∀ j,F j → j < w.heap.size
theorem Bnd.ext {F:Nat → Prop} {w w':World} (h:Bnd F w) (hs:w.heap.size ≤ w'.heap.size):Bnd F w':=fun j hj => Nat.lt_of_lt_of_le (h j hj) hs
theorem Agr.of_ext {F:Nat → Prop} {w w':World} (h:Ext w w') (hF:Bnd F w):Agr F w w':=fun j hj => h.block j (hF j hj)
theorem Agr.of_fr {F:Nat → Prop} {lo hi:Nat} {w w':World} (h:Fr lo hi w w') (hF:Bnd F w) (hn:∀ j,F j → j < lo ∨ hi ≤ j):Agr F w w':=fun j hj => h.block j (hF j hj) (hn j hj)
theorem Agr.of_put7 {F:Nat → Prop} {w:World} {b:Nat} (x0 x1 x2 x3 x4 x5 x6:Value) (hn:¬ F b):Agr F w (put7 b x0 x1 x2 x3 x4 x5 x6 w):=fun _ hj => put7_other _ _ _ _ _ _ _ fun e => hn (e ▸ hj)
theorem Agr.of_put6 {F:Nat → Prop} {w:World} {b:Nat} (x0 x1 x2 x3 x4 x5:Value) (hn:¬ F b):Agr F w (put6 b x0 x1 x2 x3 x4 x5 w):=fun _ hj => put6_other _ _ _ _ _ _ fun e => hn (e ▸ hj)
def noF:Nat → Prop:=fun _ => False
theorem bnd_no (w:World):Bnd noF w:=fun _ h => h.elim
def RetP (Q:(Nat → Prop) → Value → World → Prop) (F0:Nat → Prop) (w:World) (e:Ending) (w':World):Prop:=
 ∃ v F,e = .returned v ∧ Ext w w' ∧ Q F v w' ∧ Bnd F w' ∧ ∀ j,F j → F0 j ∨ w.heap.size ≤ j
def Enters (g:FuncId):Prop:=∀ args w,(callFunc g args).run Tryz.prog w = .ok (.enter g args) w
def PT {α:Type} (k:Kd α):Tr α → (Nat → Prop) → Value → World → Prop
 | .done r => fun _ v _ => v = k.S (k.enc r) accZ .nilFunc
 | .ask a f => fun F v w => ∃ g caps,v = k.S k.z a (.func (.func g) #[] caps) ∧ Enters g ∧ ∀ (x:BitVec 64) (w':World),Agr F w w' → Calls Tryz.prog g (#[.int .u64 (U x)] ++ caps) w' (RetP (PT k (f x)) F w')
 | .more => fun _ v _ => ∃ a g caps,v = k.S k.z a (.func (.func g) #[] caps) ∧ Enters g
theorem PT.agr {α:Type} {k:Kd α} {t:Tr α} {F:Nat → Prop} {v:Value} {w w':World} (h:PT k t F v w) (ha:Agr F w w'):PT k t F v w':=by
 cases t with
 | done r => exact h
 | ask a f => obtain ⟨g,caps,e,he,hc⟩:=h;exact ⟨g,caps,e,he,fun x u hu => hc x u (ha.trans hu)⟩
 | more => exact h
theorem PT.more {α:Type} {k:Kd α} {a:Acc} {f:BitVec 64 → Tr α} {F:Nat → Prop} {v:Value} {w:World} (h:PT k (.ask a f) F v w):PT k .more F v w:=by
 obtain ⟨g,caps,e,he,_⟩:=h
 exact ⟨a,g,caps,e,he⟩
theorem RetP.mono {Q:(Nat → Prop) → Value → World → Prop} {F G:Nat → Prop} {w:World} {e:Ending} {w':World} (h:RetP Q F w e w') (hs:∀ j,F j → G j):RetP Q G w e w':=by
 obtain ⟨v,F',e1,h1,h2,h3,h4⟩:=h
 exact ⟨v,F',e1,h1,h2,h3,fun j hj => (h4 j hj).imp_left (hs j)⟩
theorem RetP.tail {Q:(Nat → Prop) → Value → World → Prop} {F G:Nat → Prop} {u w:World} {e:Ending} {w':World} (h:RetP Q F w e w') (RB:Nat) (hu:Ext u w) (hb:RB < w.heap.size) (hn:¬ F RB) (hs:∀ j,F j → G j ∨ u.heap.size ≤ j) :
  ∃ v F',e = .returned v ∧ Ext u w' ∧ Q F' v w' ∧ Bnd F' w' ∧ (∀ j,F' j → G j ∨ u.heap.size ≤ j) ∧ ¬ F' RB ∧ w'.heap[RB]? = w.heap[RB]?:=by
 obtain ⟨v,F',e1,h1,h2,h3,h4⟩:=h
 refine ⟨v,F',e1,ext_trans hu h1,h2,h3,fun j hj => ?_,fun hj => ?_,h1.block RB hb⟩
 ·rcases h4 j hj with h | h
  ·exact hs j h
  ·exact .inr (Nat.le_trans hu.size h)
 ·rcases h4 RB hj with h | h
  ·exact hn h
  ·omega
def CT {α β:Type} (ka:Kd α) (kb:Kd β) (f:α → Tr β) (F:Nat → Prop) (fn:Value) (w:World):Prop:=
 ∃ g caps,fn = .func (.func g) #[] caps ∧ Enters g ∧ ∀ (r:α) (w':World),Agr F w w' → Calls Tryz.prog g (#[ka.enc r] ++ caps) w' (RetP (PT kb (f r)) F w')
theorem CT.agr {α β:Type} {ka:Kd α} {kb:Kd β} {f:α → Tr β} {F:Nat → Prop} {fn:Value} {w w':World} (h:CT ka kb f F fn w) (ha:Agr F w w'):CT ka kb f F fn w':=by
 obtain ⟨g,caps,e,he,hc⟩:=h
 exact ⟨g,caps,e,he,fun r u hu => hc r u (ha.trans hu)⟩
def runT {α:Type} (r:Int) (e:BitVec 64):Nat → Tr α → MS → Option (MS × Nat × Tr α)
 | 0,t,M => some (M,0,t)
 | _+1,.done x,M => some (M,0,.done x)
 | _+1,.more,_ => none
 | n+1,.ask a f,M => if DoOk M r e a.op a.at_ then (runT r e n (f (M.wd r.toNat a.at_.toNat)) (M.done r a.op a.at_ a.a a.b)).map (fun x => (x.1,x.2.1+1,x.2.2)) else some (M,0,.ask a f)
theorem al1 (w:World) (o0:Obj):Ext w (w.alloc o0) ∧ (w.alloc o0).heap[w.heap.size]? = some o0 ∧ (w.alloc o0).heap.size = w.heap.size+1:=
 ⟨(by repeat (first | exact ext_refl _ | apply ext_alloc)),heap_at _ _ _ (by simp),by simp⟩
theorem al2 (w:World) (o0 o1:Obj):Ext w ((w.alloc o0).alloc o1) ∧ ((w.alloc o0).alloc o1).heap[w.heap.size]? = some o0 ∧ ((w.alloc o0).alloc o1).heap[w.heap.size+1]? = some o1 ∧ ((w.alloc o0).alloc o1).heap.size = w.heap.size+1+1:=
 ⟨(by repeat (first | exact ext_refl _ | apply ext_alloc)),(Below.heap_alloc _ _ _ (by simp <;> omega)).trans (heap_at _ _ _ (by simp)),heap_at _ _ _ (by simp),by simp⟩
theorem al3 (w:World) (o0 o1 o2:Obj):Ext w (((w.alloc o0).alloc o1).alloc o2) ∧ (((w.alloc o0).alloc o1).alloc o2).heap[w.heap.size]? = some o0 ∧ (((w.alloc o0).alloc o1).alloc o2).heap[w.heap.size+1]? = some o1 ∧ (((w.alloc o0).alloc o1).alloc o2).heap[w.heap.size+1+1]? = some o2 ∧ (((w.alloc o0).alloc o1).alloc o2).heap.size = w.heap.size+1+1+1:=
 ⟨(by repeat (first | exact ext_refl _ | apply ext_alloc)),(Below.heap_alloc _ _ _ (by simp <;> omega)).trans ((Below.heap_alloc _ _ _ (by simp <;> omega)).trans (heap_at _ _ _ (by simp))),(Below.heap_alloc _ _ _ (by simp <;> omega)).trans (heap_at _ _ _ (by simp)),heap_at _ _ _ (by simp),by simp⟩
theorem al4 (w:World) (o0 o1 o2 o3:Obj):Ext w ((((w.alloc o0).alloc o1).alloc o2).alloc o3) ∧ ((((w.alloc o0).alloc o1).alloc o2).alloc o3).heap[w.heap.size]? = some o0 ∧ ((((w.alloc o0).alloc o1).alloc o2).alloc o3).heap[w.heap.size+1]? = some o1 ∧ ((((w.alloc o0).alloc o1).alloc o2).alloc o3).heap[w.heap.size+1+1]? = some o2 ∧ ((((w.alloc o0).alloc o1).alloc o2).alloc o3).heap[w.heap.size+1+1+1]? = some o3 ∧ ((((w.alloc o0).alloc o1).alloc o2).alloc o3).heap.size = w.heap.size+1+1+1+1:=
 ⟨(by repeat (first | exact ext_refl _ | apply ext_alloc)),(Below.heap_alloc _ _ _ (by simp <;> omega)).trans ((Below.heap_alloc _ _ _ (by simp <;> omega)).trans ((Below.heap_alloc _ _ _ (by simp <;> omega)).trans (heap_at _ _ _ (by simp)))),(Below.heap_alloc _ _ _ (by simp <;> omega)).trans ((Below.heap_alloc _ _ _ (by simp <;> omega)).trans (heap_at _ _ _ (by simp))),(Below.heap_alloc _ _ _ (by simp <;> omega)).trans (heap_at _ _ _ (by simp)),heap_at _ _ _ (by simp),by simp⟩
theorem al5 (w:World) (o0 o1 o2 o3 o4:Obj):Ext w (((((w.alloc o0).alloc o1).alloc o2).alloc o3).alloc o4) ∧ (((((w.alloc o0).alloc o1).alloc o2).alloc o3).alloc o4).heap[w.heap.size]? = some o0 ∧ (((((w.alloc o0).alloc o1).alloc o2).alloc o3).alloc o4).heap[w.heap.size+1]? = some o1 ∧ (((((w.alloc o0).alloc o1).alloc o2).alloc o3).alloc o4).heap[w.heap.size+1+1]? = some o2 ∧ (((((w.alloc o0).alloc o1).alloc o2).alloc o3).alloc o4).heap[w.heap.size+1+1+1]? = some o3 ∧ (((((w.alloc o0).alloc o1).alloc o2).alloc o3).alloc o4).heap[w.heap.size+1+1+1+1]? = some o4 ∧ (((((w.alloc o0).alloc o1).alloc o2).alloc o3).alloc o4).heap.size = w.heap.size+1+1+1+1+1:=
 ⟨(by repeat (first | exact ext_refl _ | apply ext_alloc)),(Below.heap_alloc _ _ _ (by simp <;> omega)).trans ((Below.heap_alloc _ _ _ (by simp <;> omega)).trans ((Below.heap_alloc _ _ _ (by simp <;> omega)).trans ((Below.heap_alloc _ _ _ (by simp <;> omega)).trans (heap_at _ _ _ (by simp))))),(Below.heap_alloc _ _ _ (by simp <;> omega)).trans ((Below.heap_alloc _ _ _ (by simp <;> omega)).trans ((Below.heap_alloc _ _ _ (by simp <;> omega)).trans (heap_at _ _ _ (by simp)))),(Below.heap_alloc _ _ _ (by simp <;> omega)).trans ((Below.heap_alloc _ _ _ (by simp <;> omega)).trans (heap_at _ _ _ (by simp))),(Below.heap_alloc _ _ _ (by simp <;> omega)).trans (heap_at _ _ _ (by simp)),heap_at _ _ _ (by simp),by simp⟩
theorem fnI:Tryz.prog.underlying 60 = some (.func #[40] #[62] false):=by kernel_rfl
theorem ownI (x:Int) (w:World):Calls Tryz.prog 164 #[.int .i64 x] w (Ret (.int .i64 x) w):=by
 have ta:∀ v w,(Instr.typeAssert (.iface 286 v) 20 250 true).run Tryz.prog w = .ok (.tuple #[.pointer none,.bool false]) w:=fun v w => assert_no _ v w (by decide)
 go_enter Tryz.func164,Tryz.ntmps164
 go_wp2
 go_ret
 exact Ret.mk (by repeat (first | exact ext_refl _ | apply ext_alloc))
theorem doneI (x:Int) (w:World):Calls Tryz.prog 141 #[.int .i64 x] w (Ret (.agg #[.int .i64 x,.int .i64 0,.int .i64 0,.int .u64 0,.int .u64 0,.nilFunc,.pointer none]) w):=by
 go_enter Tryz.func141,Tryz.ntmps141
 go_wp2_with (go_at_call 164;refine (ownI x _).mono ?_;rintro e w' ⟨rfl,hx⟩;refine Hid.out ?_)
 refine Lib.hid ?_
 have hblk:=(hx.block (w.heap.size) (by simp)).trans (heap_at w _ _ (by simp))
 have hE:Ext w w':=by
  refine ext_trans ?_ hx
  repeat (first | exact ext_refl _ | apply ext_alloc)
 have hX:=put7_ext (b:=w.heap.size) (.int .i64 x) (.int .i64 0) (.int .i64 0) (.int .u64 0) (.int .u64 0) (.nilFunc) (.pointer none) hE (by omega)
 have hB:=put7_block (.int .i64 x) (.int .i64 0) (.int .i64 0) (.int .u64 0) (.int .u64 0) (.nilFunc) (.pointer none) hblk
 obtain ⟨c0,c1,c2,c3,c4,c5,c6,cz,ll⟩:=sev_of hblk
 rw [put7] at hX hB
 have HX:=Lib.hid hX
 have HB:=Lib.hid hB
 clear hX hB hx hE hblk
 go_wp2
 replace HX:=HX.out
 replace HB:=HB.out
 clear c0 c1 c2 c3 c4 c5 c6 cz ll
 generalize (World.setCell _ (⟨w.heap.size,6,none⟩ : Addr) _) = Z at HB HX ⊢
 obtain ⟨c0,c1,c2,c3,c4,c5,c6,cz,ll⟩:=sev_of HB
 exact bodyPost_ret (by simp only [results,Tryz.results141,go_sem];simp [go_sem,c0,c1,c2,c3,c4,c5,c6]) rfl (Ret.mk HX)
theorem overYI (x:Int) (a1 a2 a3 a4:Int) (w:World):Calls Tryz.prog 84 #[.agg #[.int .i64 x,.int .i64 a1,.int .i64 a2,.int .u64 a3,.int .u64 a4,.nilFunc,.pointer none]] w (Ret (.tuple #[.int .i64 x,.bool true]) w):=by
 have n0:∀ w,(binOp .neq 60 .nilFunc .nilFunc).run Tryz.prog w = .ok (.bool false) w:=fun w => neq_nil w fnI
 go_enter Tryz.func84,Tryz.ntmps84
 go_wp2_with (go_at_call 164;refine (ownI x _).mono ?_;rintro e w' ⟨rfl,hx⟩;have HX:=Lib.hid hx;clear hx)
 exact bodyPost_ret (v:=.tuple #[.int .i64 x,.bool true]) (by simp [results,Tryz.results84,go_sem]) rfl (Ret.mk (by first | exact ext_trans (ext_alloc _ (ext_refl w)) HX.out | exact ext_trans (ext_alloc _ (ext_alloc _ (ext_refl w))) HX.out))
theorem ovnU (a:Acc) (f:Fn) (y z:Array Value) (w:World):Calls Tryz.prog 214 #[.agg #[.int .u64 0,.int .i64 a.op,.int .i64 a.at_,.int .u64 (U a.a),.int .u64 (U a.b),.func f y z,.pointer none]] w (Ret (.tuple #[.int .u64 0,.bool false]) w):=by
 have n0:∀ f x y w,(binOp .neq 206 (.func f x y) .nilFunc).run Tryz.prog w = .ok (.bool true) w:=fun f x y w => neq_fn w fnU f x y
 go_enter Tryz.func214,Tryz.ntmps214
 go_wp2
 exact bodyPost_ret (v:=.tuple #[.int .u64 0,.bool false]) (by simp [results,Tryz.results214,go_sem]) rfl (Ret.mk (by repeat (first | exact ext_refl _ | apply ext_alloc)))
theorem shU {t:Tr (BitVec 64)} {F:Nat → Prop} {v:Value} {w:World} (h:PT kU t F v w):∃ (y:Int) (a:Acc) (fn:Value),v = .agg #[.int .u64 y,.int .i64 a.op,.int .i64 a.at_,.int .u64 (U a.a),.int .u64 (U a.b),fn,.pointer none] ∧ (fn = .nilFunc ∨ ∃ g caps,fn = .func (.func g) #[] caps):=by
 cases t with
 | done r => exact ⟨_,_,_,h,.inl rfl⟩
 | ask a f => obtain ⟨g,caps,e,_⟩:=h;exact ⟨_,_,_,e,.inr ⟨g,caps,rfl⟩⟩
 | more => obtain ⟨a,g,caps,e,_⟩:=h;exact ⟨_,_,_,e,.inr ⟨g,caps,rfl⟩⟩
theorem ovnB (a:Acc) (f:Fn) (y z:Array Value) (w:World):Calls Tryz.prog 203 #[.agg #[.bool false,.int .i64 a.op,.int .i64 a.at_,.int .u64 (U a.a),.int .u64 (U a.b),.func f y z,.pointer none]] w (Ret (.tuple #[.bool false,.bool false]) w):=by
 have n0:∀ f x y w,(binOp .neq 216 (.func f x y) .nilFunc).run Tryz.prog w = .ok (.bool true) w:=fun f x y w => neq_fn w fnB f x y
 go_enter Tryz.func203,Tryz.ntmps203
 go_wp2
 exact bodyPost_ret (v:=.tuple #[.bool false,.bool false]) (by simp [results,Tryz.results203,go_sem]) rfl (Ret.mk (by repeat (first | exact ext_refl _ | apply ext_alloc)))
theorem shB {t:Tr (Bool)} {F:Nat → Prop} {v:Value} {w:World} (h:PT kB t F v w):∃ (y:Bool) (a:Acc) (fn:Value),v = .agg #[.bool y,.int .i64 a.op,.int .i64 a.at_,.int .u64 (U a.a),.int .u64 (U a.b),fn,.pointer none] ∧ (fn = .nilFunc ∨ ∃ g caps,fn = .func (.func g) #[] caps):=by
 cases t with
 | done r => exact ⟨_,_,_,h,.inl rfl⟩
 | ask a f => obtain ⟨g,caps,e,_⟩:=h;exact ⟨_,_,_,e,.inr ⟨g,caps,rfl⟩⟩
 | more => obtain ⟨a,g,caps,e,_⟩:=h;exact ⟨_,_,_,e,.inr ⟨g,caps,rfl⟩⟩
theorem ovnI (a:Acc) (f:Fn) (y z:Array Value) (w:World):Calls Tryz.prog 84 #[.agg #[.int .i64 0,.int .i64 a.op,.int .i64 a.at_,.int .u64 (U a.a),.int .u64 (U a.b),.func f y z,.pointer none]] w (Ret (.tuple #[.int .i64 0,.bool false]) w):=by
 have n0:∀ f x y w,(binOp .neq 60 (.func f x y) .nilFunc).run Tryz.prog w = .ok (.bool true) w:=fun f x y w => neq_fn w fnI f x y
 go_enter Tryz.func84,Tryz.ntmps84
 go_wp2
 exact bodyPost_ret (v:=.tuple #[.int .i64 0,.bool false]) (by simp [results,Tryz.results84,go_sem]) rfl (Ret.mk (by repeat (first | exact ext_refl _ | apply ext_alloc)))
theorem shI {t:Tr (Int)} {F:Nat → Prop} {v:Value} {w:World} (h:PT kI t F v w):∃ (y:Int) (a:Acc) (fn:Value),v = .agg #[.int .i64 y,.int .i64 a.op,.int .i64 a.at_,.int .u64 (U a.a),.int .u64 (U a.b),fn,.pointer none] ∧ (fn = .nilFunc ∨ ∃ g caps,fn = .func (.func g) #[] caps):=by
 cases t with
 | done r => exact ⟨_,_,_,h,.inl rfl⟩
 | ask a f => obtain ⟨g,caps,e,_⟩:=h;exact ⟨_,_,_,e,.inr ⟨g,caps,rfl⟩⟩
 | more => obtain ⟨a,g,caps,e,_⟩:=h;exact ⟨_,_,_,e,.inr ⟨g,caps,rfl⟩⟩
theorem ovnN (a:Acc) (f:Fn) (y z:Array Value) (w:World):Calls Tryz.prog 135 #[.agg #[.int .i64 a.op,.int .i64 a.at_,.int .u64 (U a.a),.int .u64 (U a.b),.func f y z,.pointer none]] w (Ret (.tuple #[.agg #[],.bool false]) w):=by
 have n0:∀ f x y w,(binOp .neq 135 (.func f x y) .nilFunc).run Tryz.prog w = .ok (.bool true) w:=fun f x y w => neq_fn w fnN f x y
 go_enter Tryz.func135,Tryz.ntmps135
 go_wp2
 exact bodyPost_ret (v:=.tuple #[.agg #[],.bool false]) (by simp [results,Tryz.results135,go_sem]) rfl (Ret.mk (by repeat (first | exact ext_refl _ | apply ext_alloc)))
theorem shN {t:Tr Unit} {F:Nat → Prop} {v:Value} {w:World} (h:PT kN t F v w):∃ (a:Acc) (fn:Value),v = .agg #[.int .i64 a.op,.int .i64 a.at_,.int .u64 (U a.a),.int .u64 (U a.b),fn,.pointer none] ∧ (fn = .nilFunc ∨ ∃ g caps,fn = .func (.func g) #[] caps):=by
 cases t with
 | done r => exact ⟨_,_,h,.inl rfl⟩
 | ask a f => obtain ⟨g,caps,e,_⟩:=h;exact ⟨_,_,e,.inr ⟨g,caps,rfl⟩⟩
 | more => obtain ⟨a,g,caps,e,_⟩:=h;exact ⟨_,_,e,.inr ⟨g,caps,rfl⟩⟩
theorem tlI {t:Tr (Int)} {F' G:Nat → Prop} {v':Value} {u w':World} {b:Nat} {c0 c1 c2 c3 c4 c5 c6:Value} {ty:TypeId} (hp:PT kI t F' v' w') (hX:Ext u w') (hbx:w'.heap[b]? = some (.cells #[c0,c1,c2,c3,c4,c5,c6] ty (0,0))) (hbn:Bnd F' w') (hsub:∀ j,F' j → G j ∨ u.heap.size ≤ j) (hnF:¬ F' b) (hb:u.heap.size ≤ b) :
  ∃ (y:Int) (a2:Acc) (fn2:Value),v' = .agg #[.int .i64 y,.int .i64 a2.op,.int .i64 a2.at_,.int .u64 (U a2.a),.int .u64 (U a2.b),fn2,.pointer none] ∧ Hid (fn2 = .nilFunc ∨ ∃ g caps,fn2 = .func (.func g) #[] caps) ∧ Hid (Ext u (((((((w'.setCell ⟨b,0,none⟩ (.int .i64 y)).setCell ⟨b,1,none⟩ (.int .i64 a2.op)).setCell ⟨b,2,none⟩ (.int .i64 a2.at_)).setCell ⟨b,3,none⟩ (.int .u64 (U a2.a))).setCell ⟨b,4,none⟩ (.int .u64 (U a2.b))).setCell ⟨b,5,none⟩ (fn2)).setCell ⟨b,6,none⟩ (.pointer none)) ∧ (((((((w'.setCell ⟨b,0,none⟩ (.int .i64 y)).setCell ⟨b,1,none⟩ (.int .i64 a2.op)).setCell ⟨b,2,none⟩ (.int .i64 a2.at_)).setCell ⟨b,3,none⟩ (.int .u64 (U a2.a))).setCell ⟨b,4,none⟩ (.int .u64 (U a2.b))).setCell ⟨b,5,none⟩ (fn2)).setCell ⟨b,6,none⟩ (.pointer none)).heap[b]? = some (.cells #[.int .i64 y,.int .i64 a2.op,.int .i64 a2.at_,.int .u64 (U a2.a),.int .u64 (U a2.b),fn2,.pointer none] ty (0,0)) ∧ PT kI t F' (.agg #[.int .i64 y,.int .i64 a2.op,.int .i64 a2.at_,.int .u64 (U a2.a),.int .u64 (U a2.b),fn2,.pointer none]) (((((((w'.setCell ⟨b,0,none⟩ (.int .i64 y)).setCell ⟨b,1,none⟩ (.int .i64 a2.op)).setCell ⟨b,2,none⟩ (.int .i64 a2.at_)).setCell ⟨b,3,none⟩ (.int .u64 (U a2.a))).setCell ⟨b,4,none⟩ (.int .u64 (U a2.b))).setCell ⟨b,5,none⟩ (fn2)).setCell ⟨b,6,none⟩ (.pointer none)) ∧ Bnd F' (((((((w'.setCell ⟨b,0,none⟩ (.int .i64 y)).setCell ⟨b,1,none⟩ (.int .i64 a2.op)).setCell ⟨b,2,none⟩ (.int .i64 a2.at_)).setCell ⟨b,3,none⟩ (.int .u64 (U a2.a))).setCell ⟨b,4,none⟩ (.int .u64 (U a2.b))).setCell ⟨b,5,none⟩ (fn2)).setCell ⟨b,6,none⟩ (.pointer none)) ∧ ∀ j,F' j → G j ∨ u.heap.size ≤ j):=by
 obtain ⟨y,a2,fn2,rfl,hfn⟩:=shI hp
 have hS:(put7 b (.int .i64 y) (.int .i64 a2.op) (.int .i64 a2.at_) (.int .u64 (U a2.a)) (.int .u64 (U a2.b)) (fn2) (.pointer none) w').heap.size = w'.heap.size:=put7_size (.int .i64 y) (.int .i64 a2.op) (.int .i64 a2.at_) (.int .u64 (U a2.a)) (.int .u64 (U a2.b)) (fn2) (.pointer none)
 exact ⟨y,a2,fn2,rfl,Lib.hid hfn,Lib.hid ⟨put7_ext (b:=b) (.int .i64 y) (.int .i64 a2.op) (.int .i64 a2.at_) (.int .u64 (U a2.a)) (.int .u64 (U a2.b)) (fn2) (.pointer none) hX hb,put7_block (.int .i64 y) (.int .i64 a2.op) (.int .i64 a2.at_) (.int .u64 (U a2.a)) (.int .u64 (U a2.b)) (fn2) (.pointer none) hbx,hp.agr (Agr.of_put7 (b:=b) (.int .i64 y) (.int .i64 a2.op) (.int .i64 a2.at_) (.int .u64 (U a2.a)) (.int .u64 (U a2.b)) (fn2) (.pointer none) hnF),fun j hj => (by show j < (put7 b (.int .i64 y) (.int .i64 a2.op) (.int .i64 a2.at_) (.int .u64 (U a2.a)) (.int .u64 (U a2.b)) (fn2) (.pointer none) w').heap.size;rw [hS];exact hbn j hj),hsub⟩⟩
theorem tlU {t:Tr (BitVec 64)} {F' G:Nat → Prop} {v':Value} {u w':World} {b:Nat} {c0 c1 c2 c3 c4 c5 c6:Value} {ty:TypeId} (hp:PT kU t F' v' w') (hX:Ext u w') (hbx:w'.heap[b]? = some (.cells #[c0,c1,c2,c3,c4,c5,c6] ty (0,0))) (hbn:Bnd F' w') (hsub:∀ j,F' j → G j ∨ u.heap.size ≤ j) (hnF:¬ F' b) (hb:u.heap.size ≤ b) :
  ∃ (y:Int) (a2:Acc) (fn2:Value),v' = .agg #[.int .u64 y,.int .i64 a2.op,.int .i64 a2.at_,.int .u64 (U a2.a),.int .u64 (U a2.b),fn2,.pointer none] ∧ Hid (fn2 = .nilFunc ∨ ∃ g caps,fn2 = .func (.func g) #[] caps) ∧ Hid (Ext u (((((((w'.setCell ⟨b,0,none⟩ (.int .u64 y)).setCell ⟨b,1,none⟩ (.int .i64 a2.op)).setCell ⟨b,2,none⟩ (.int .i64 a2.at_)).setCell ⟨b,3,none⟩ (.int .u64 (U a2.a))).setCell ⟨b,4,none⟩ (.int .u64 (U a2.b))).setCell ⟨b,5,none⟩ (fn2)).setCell ⟨b,6,none⟩ (.pointer none)) ∧ (((((((w'.setCell ⟨b,0,none⟩ (.int .u64 y)).setCell ⟨b,1,none⟩ (.int .i64 a2.op)).setCell ⟨b,2,none⟩ (.int .i64 a2.at_)).setCell ⟨b,3,none⟩ (.int .u64 (U a2.a))).setCell ⟨b,4,none⟩ (.int .u64 (U a2.b))).setCell ⟨b,5,none⟩ (fn2)).setCell ⟨b,6,none⟩ (.pointer none)).heap[b]? = some (.cells #[.int .u64 y,.int .i64 a2.op,.int .i64 a2.at_,.int .u64 (U a2.a),.int .u64 (U a2.b),fn2,.pointer none] ty (0,0)) ∧ PT kU t F' (.agg #[.int .u64 y,.int .i64 a2.op,.int .i64 a2.at_,.int .u64 (U a2.a),.int .u64 (U a2.b),fn2,.pointer none]) (((((((w'.setCell ⟨b,0,none⟩ (.int .u64 y)).setCell ⟨b,1,none⟩ (.int .i64 a2.op)).setCell ⟨b,2,none⟩ (.int .i64 a2.at_)).setCell ⟨b,3,none⟩ (.int .u64 (U a2.a))).setCell ⟨b,4,none⟩ (.int .u64 (U a2.b))).setCell ⟨b,5,none⟩ (fn2)).setCell ⟨b,6,none⟩ (.pointer none)) ∧ Bnd F' (((((((w'.setCell ⟨b,0,none⟩ (.int .u64 y)).setCell ⟨b,1,none⟩ (.int .i64 a2.op)).setCell ⟨b,2,none⟩ (.int .i64 a2.at_)).setCell ⟨b,3,none⟩ (.int .u64 (U a2.a))).setCell ⟨b,4,none⟩ (.int .u64 (U a2.b))).setCell ⟨b,5,none⟩ (fn2)).setCell ⟨b,6,none⟩ (.pointer none)) ∧ ∀ j,F' j → G j ∨ u.heap.size ≤ j):=by
 obtain ⟨y,a2,fn2,rfl,hfn⟩:=shU hp
 have hS:(put7 b (.int .u64 y) (.int .i64 a2.op) (.int .i64 a2.at_) (.int .u64 (U a2.a)) (.int .u64 (U a2.b)) (fn2) (.pointer none) w').heap.size = w'.heap.size:=put7_size (.int .u64 y) (.int .i64 a2.op) (.int .i64 a2.at_) (.int .u64 (U a2.a)) (.int .u64 (U a2.b)) (fn2) (.pointer none)
 exact ⟨y,a2,fn2,rfl,Lib.hid hfn,Lib.hid ⟨put7_ext (b:=b) (.int .u64 y) (.int .i64 a2.op) (.int .i64 a2.at_) (.int .u64 (U a2.a)) (.int .u64 (U a2.b)) (fn2) (.pointer none) hX hb,put7_block (.int .u64 y) (.int .i64 a2.op) (.int .i64 a2.at_) (.int .u64 (U a2.a)) (.int .u64 (U a2.b)) (fn2) (.pointer none) hbx,hp.agr (Agr.of_put7 (b:=b) (.int .u64 y) (.int .i64 a2.op) (.int .i64 a2.at_) (.int .u64 (U a2.a)) (.int .u64 (U a2.b)) (fn2) (.pointer none) hnF),fun j hj => (by show j < (put7 b (.int .u64 y) (.int .i64 a2.op) (.int .i64 a2.at_) (.int .u64 (U a2.a)) (.int .u64 (U a2.b)) (fn2) (.pointer none) w').heap.size;rw [hS];exact hbn j hj),hsub⟩⟩
theorem tlB {t:Tr (Bool)} {F' G:Nat → Prop} {v':Value} {u w':World} {b:Nat} {c0 c1 c2 c3 c4 c5 c6:Value} {ty:TypeId} (hp:PT kB t F' v' w') (hX:Ext u w') (hbx:w'.heap[b]? = some (.cells #[c0,c1,c2,c3,c4,c5,c6] ty (0,0))) (hbn:Bnd F' w') (hsub:∀ j,F' j → G j ∨ u.heap.size ≤ j) (hnF:¬ F' b) (hb:u.heap.size ≤ b) :
  ∃ (y:Bool) (a2:Acc) (fn2:Value),v' = .agg #[.bool y,.int .i64 a2.op,.int .i64 a2.at_,.int .u64 (U a2.a),.int .u64 (U a2.b),fn2,.pointer none] ∧ Hid (fn2 = .nilFunc ∨ ∃ g caps,fn2 = .func (.func g) #[] caps) ∧ Hid (Ext u (((((((w'.setCell ⟨b,0,none⟩ (.bool y)).setCell ⟨b,1,none⟩ (.int .i64 a2.op)).setCell ⟨b,2,none⟩ (.int .i64 a2.at_)).setCell ⟨b,3,none⟩ (.int .u64 (U a2.a))).setCell ⟨b,4,none⟩ (.int .u64 (U a2.b))).setCell ⟨b,5,none⟩ (fn2)).setCell ⟨b,6,none⟩ (.pointer none)) ∧ (((((((w'.setCell ⟨b,0,none⟩ (.bool y)).setCell ⟨b,1,none⟩ (.int .i64 a2.op)).setCell ⟨b,2,none⟩ (.int .i64 a2.at_)).setCell ⟨b,3,none⟩ (.int .u64 (U a2.a))).setCell ⟨b,4,none⟩ (.int .u64 (U a2.b))).setCell ⟨b,5,none⟩ (fn2)).setCell ⟨b,6,none⟩ (.pointer none)).heap[b]? = some (.cells #[.bool y,.int .i64 a2.op,.int .i64 a2.at_,.int .u64 (U a2.a),.int .u64 (U a2.b),fn2,.pointer none] ty (0,0)) ∧ PT kB t F' (.agg #[.bool y,.int .i64 a2.op,.int .i64 a2.at_,.int .u64 (U a2.a),.int .u64 (U a2.b),fn2,.pointer none]) (((((((w'.setCell ⟨b,0,none⟩ (.bool y)).setCell ⟨b,1,none⟩ (.int .i64 a2.op)).setCell ⟨b,2,none⟩ (.int .i64 a2.at_)).setCell ⟨b,3,none⟩ (.int .u64 (U a2.a))).setCell ⟨b,4,none⟩ (.int .u64 (U a2.b))).setCell ⟨b,5,none⟩ (fn2)).setCell ⟨b,6,none⟩ (.pointer none)) ∧ Bnd F' (((((((w'.setCell ⟨b,0,none⟩ (.bool y)).setCell ⟨b,1,none⟩ (.int .i64 a2.op)).setCell ⟨b,2,none⟩ (.int .i64 a2.at_)).setCell ⟨b,3,none⟩ (.int .u64 (U a2.a))).setCell ⟨b,4,none⟩ (.int .u64 (U a2.b))).setCell ⟨b,5,none⟩ (fn2)).setCell ⟨b,6,none⟩ (.pointer none)) ∧ ∀ j,F' j → G j ∨ u.heap.size ≤ j):=by
 obtain ⟨y,a2,fn2,rfl,hfn⟩:=shB hp
 have hS:(put7 b (.bool y) (.int .i64 a2.op) (.int .i64 a2.at_) (.int .u64 (U a2.a)) (.int .u64 (U a2.b)) (fn2) (.pointer none) w').heap.size = w'.heap.size:=put7_size (.bool y) (.int .i64 a2.op) (.int .i64 a2.at_) (.int .u64 (U a2.a)) (.int .u64 (U a2.b)) (fn2) (.pointer none)
 exact ⟨y,a2,fn2,rfl,Lib.hid hfn,Lib.hid ⟨put7_ext (b:=b) (.bool y) (.int .i64 a2.op) (.int .i64 a2.at_) (.int .u64 (U a2.a)) (.int .u64 (U a2.b)) (fn2) (.pointer none) hX hb,put7_block (.bool y) (.int .i64 a2.op) (.int .i64 a2.at_) (.int .u64 (U a2.a)) (.int .u64 (U a2.b)) (fn2) (.pointer none) hbx,hp.agr (Agr.of_put7 (b:=b) (.bool y) (.int .i64 a2.op) (.int .i64 a2.at_) (.int .u64 (U a2.a)) (.int .u64 (U a2.b)) (fn2) (.pointer none) hnF),fun j hj => (by show j < (put7 b (.bool y) (.int .i64 a2.op) (.int .i64 a2.at_) (.int .u64 (U a2.a)) (.int .u64 (U a2.b)) (fn2) (.pointer none) w').heap.size;rw [hS];exact hbn j hj),hsub⟩⟩
theorem tlN {t:Tr (Unit)} {F' G:Nat → Prop} {v':Value} {u w':World} {b:Nat} {c0 c1 c2 c3 c4 c5:Value} {ty:TypeId} (hp:PT kN t F' v' w') (hX:Ext u w') (hbx:w'.heap[b]? = some (.cells #[c0,c1,c2,c3,c4,c5] ty (0,0))) (hbn:Bnd F' w') (hsub:∀ j,F' j → G j ∨ u.heap.size ≤ j) (hnF:¬ F' b) (hb:u.heap.size ≤ b) :
  ∃ (a2:Acc) (fn2:Value),v' = .agg #[.int .i64 a2.op,.int .i64 a2.at_,.int .u64 (U a2.a),.int .u64 (U a2.b),fn2,.pointer none] ∧ Hid (fn2 = .nilFunc ∨ ∃ g caps,fn2 = .func (.func g) #[] caps) ∧ Hid (Ext u ((((((w'.setCell ⟨b,0,none⟩ (.int .i64 a2.op)).setCell ⟨b,1,none⟩ (.int .i64 a2.at_)).setCell ⟨b,2,none⟩ (.int .u64 (U a2.a))).setCell ⟨b,3,none⟩ (.int .u64 (U a2.b))).setCell ⟨b,4,none⟩ (fn2)).setCell ⟨b,5,none⟩ (.pointer none)) ∧ ((((((w'.setCell ⟨b,0,none⟩ (.int .i64 a2.op)).setCell ⟨b,1,none⟩ (.int .i64 a2.at_)).setCell ⟨b,2,none⟩ (.int .u64 (U a2.a))).setCell ⟨b,3,none⟩ (.int .u64 (U a2.b))).setCell ⟨b,4,none⟩ (fn2)).setCell ⟨b,5,none⟩ (.pointer none)).heap[b]? = some (.cells #[.int .i64 a2.op,.int .i64 a2.at_,.int .u64 (U a2.a),.int .u64 (U a2.b),fn2,.pointer none] ty (0,0)) ∧ PT kN t F' (.agg #[.int .i64 a2.op,.int .i64 a2.at_,.int .u64 (U a2.a),.int .u64 (U a2.b),fn2,.pointer none]) ((((((w'.setCell ⟨b,0,none⟩ (.int .i64 a2.op)).setCell ⟨b,1,none⟩ (.int .i64 a2.at_)).setCell ⟨b,2,none⟩ (.int .u64 (U a2.a))).setCell ⟨b,3,none⟩ (.int .u64 (U a2.b))).setCell ⟨b,4,none⟩ (fn2)).setCell ⟨b,5,none⟩ (.pointer none)) ∧ Bnd F' ((((((w'.setCell ⟨b,0,none⟩ (.int .i64 a2.op)).setCell ⟨b,1,none⟩ (.int .i64 a2.at_)).setCell ⟨b,2,none⟩ (.int .u64 (U a2.a))).setCell ⟨b,3,none⟩ (.int .u64 (U a2.b))).setCell ⟨b,4,none⟩ (fn2)).setCell ⟨b,5,none⟩ (.pointer none)) ∧ ∀ j,F' j → G j ∨ u.heap.size ≤ j):=by
 obtain ⟨a2,fn2,rfl,hfn⟩:=shN hp
 have hS:(put6 b (.int .i64 a2.op) (.int .i64 a2.at_) (.int .u64 (U a2.a)) (.int .u64 (U a2.b)) (fn2) (.pointer none) w').heap.size = w'.heap.size:=put6_size (.int .i64 a2.op) (.int .i64 a2.at_) (.int .u64 (U a2.a)) (.int .u64 (U a2.b)) (fn2) (.pointer none)
 exact ⟨a2,fn2,rfl,Lib.hid hfn,Lib.hid ⟨put6_ext (b:=b) (.int .i64 a2.op) (.int .i64 a2.at_) (.int .u64 (U a2.a)) (.int .u64 (U a2.b)) (fn2) (.pointer none) hX hb,put6_block (.int .i64 a2.op) (.int .i64 a2.at_) (.int .u64 (U a2.a)) (.int .u64 (U a2.b)) (fn2) (.pointer none) hbx,hp.agr (Agr.of_put6 (b:=b) (.int .i64 a2.op) (.int .i64 a2.at_) (.int .u64 (U a2.a)) (.int .u64 (U a2.b)) (fn2) (.pointer none) hnF),fun j hj => (by show j < (put6 b (.int .i64 a2.op) (.int .i64 a2.at_) (.int .u64 (U a2.a)) (.int .u64 (U a2.b)) (fn2) (.pointer none) w').heap.size;rw [hS];exact hbn j hj),hsub⟩⟩
end Go.Proofs.YthjklbonebnekaaGreat

