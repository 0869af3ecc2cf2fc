/-
  Arguments that are slices of structs of integers, however deep, read cell by cell. No conditions.
-/
import Derived.Test.YthjklbonebnekaaGreatGaa
import Derived.Test.YthjklbonebnekaaGreatGac
import Derived.Laws.EntriesVeiled
import Derived.Laws.AppendOwn
set_option maxRecDepth 8000
set_option maxHeartbeats 4000000
namespace Go.Proofs.YthjklbonebnekaaGreat
open Go Go.ChangeShapes Go.WideShapes Go.RowKit
def kindAt (P:Program):Nat → TypeId → Nat → Option IntKind
 | 0,_,_ => none
 | f+1,t,j => match P.underlying t with
  | some (.int k) => if j = 0 then some k else none
  | some (.struct fs) => match fs.toList.find? fun x => decide (x.offset ≤ j) && decide (j < x.offset+P.cellsOf x.type) with
   | some x => kindAt P f x.type (j - x.offset)
   | none => none
  | _ => none
section
variable {H:Type} {enc:TypeId × Value → H} {P:Program} {w:World} {base:Nat} {spare:Nat → Bool} {held:Bool}
theorem cell_kind:∀ (f:Nat) {t:TypeId} {j:Nat} {k:IntKind} {fuel:Nat} {cs:List Value} {x:DataW H × List MemPlace},kindAt P f t j = some k → DataW.trod enc P w base spare held fuel t cs = some x →
  ∃ n,cs[j]? = some (.int k n) ∧ (Lit.int k n).wf = true
 | 0,t,j,k,fuel,cs,x,hk,h => by cases hk
 | f+1,t,j,k,fuel,cs,x,hk,h => by
  unfold kindAt at hk
  split at hk
  ·rename_i k' hu
   split at hk
   ·rename_i hj
    obtain rfl:k' = k:=by simpa using hk
    subst hj
    obtain ⟨n,rfl,_,hw⟩:=DataW.trod_int hu h
    exact ⟨n,rfl,hw⟩
   ·cases hk
  ·rename_i fs hu
   split at hk
   ·rename_i y hy
    have hp:=List.find?_some hy
    simp only [Bool.and_eq_true,decide_eq_true_eq] at hp
    obtain ⟨i,hi,hie⟩:=List.getElem_of_mem (List.mem_of_find?_eq_some hy)
    obtain ⟨xs,n',_,_,_,hxl,hfs⟩:=DataW.trod_struct hu h
    have hi':i < fs.size:=by simpa using hi
    have hf:=hfs i y (by rw [← Array.getElem?_toList,List.getElem?_eq_getElem hi,hie])
    rw [List.getElem?_eq_getElem (by omega)] at hf
    obtain ⟨n,hn,hw⟩:=cell_kind f hk hf
    refine ⟨n,?_,hw⟩
    rw [List.getElem?_take] at hn
    split at hn
    ·rw [List.getElem?_drop,show y.offset+(j - y.offset) = j by omega] at hn
     exact hn
    ·cases hn
   ·cases hk
  ·cases hk
end
def Rs (c:Nat) (kd:Nat → IntKind) (w:World) (v:Value) (n:Nat) (x:Nat → Nat → Int):Prop:=
 ∃ a0 cap,v = .slice a0 n cap ∧ n ≤ cap ∧ (0 < n → ∃ b off,a0 = some ⟨b,off,none⟩ ∧ b < w.heap.size ∧
  ∀ i,i < n → ∀ j,j < c → w.cell? ⟨b,off+i * c+j,none⟩ = some (.int (kd j) (x i j)) ∧ (Lit.int (kd j) (x i j)).wf = true)
section
variable {H:Type} {enc:TypeId × Value → H} {P:Program} {w:World} {base:Nat} {held:Bool}
theorem rs_of_trod {r:Reach} {b0:Nat} {t e:TypeId} {v:Value} {d:DataW H} {p:List MemPlace} (c:Nat) (kd:Nat → IntKind) (ht:P.underlying t = some (.slice e)) (hc:P.cellsOf e = c) (hpos:0 < c)
  (hk:((List.range c).all fun j => decide (kindAt P 6 e j = some (kd j))) = true)
  (hv:Value.okWide P w r b0 t v) (h:DataW.Trod enc P w base (fun _ => true) held t v d p):∃ n x,Rs c kd w v n x:=by
 obtain ⟨a0,len,cap,rfl⟩:=okWide_slice ht hv
 obtain ⟨fuel,hf⟩:=h
 have hk':∀ j,j < c → kindAt P 6 e j = some (kd j):=fun j hj => of_decide_eq_true (List.all_eq_true.1 hk j (List.mem_range.2 hj))
 rcases Deep.open_slice ht hf with ⟨hcs,_⟩ | ⟨a,len',cap',m,n,D,Pl,hcs,_,hl,_,hmm,_,hi⟩
 ·simp [Value.cells] at hcs
  obtain ⟨rfl,rfl,rfl⟩:=hcs
  exact ⟨0,fun _ _ => 0,none,0,rfl,Nat.le_refl _,fun h => absurd h (Nat.not_lt_zero _)⟩
 ·simp [Value.cells] at hcs
  obtain ⟨rfl,rfl,rfl⟩:=hcs
  simp at hmm
  have each:∀ i j,∃ y:Int,i < len → j < c → w.cell? ((a.add (i * c)).add j) = some (.int (kd j) y) ∧ (Lit.int (kd j) y).wf = true:=fun i j => by
   by_cases hlt:i < len ∧ j < c
   ·obtain ⟨cs',hcc,htr⟩:=hi i (by omega)
    rw [hc] at hcc
    obtain ⟨_,hcl,hat⟩:=World.cells?_some hcc
    obtain ⟨y,hy,hw⟩:=cell_kind 6 (hk' j hlt.2) htr
    refine ⟨y,fun _ _ => ⟨?_,hw⟩⟩
    have h1:=hat j (by omega)
    rw [h1,hy]
   ·exact ⟨0,fun h1 h2 => absurd ⟨h1,h2⟩ hlt⟩
  obtain ⟨x,hg⟩:=Classical.axiomOfChoice fun i => Classical.axiomOfChoice (each i)
  by_cases hp:0 < len
  ·have h0:=(hg 0 0 hp hpos).1
   have ha:(a.add (0 * c)).add 0 = a:=by unfold Addr.add;simp
   rw [ha] at h0
   have hsp:=spot_none' h0
   refine ⟨len,x,some a,cap,rfl,hl,fun _ => ⟨a.block,a.off,by rw [← hsp],World.block_lt_of_cell? w a h0,fun i hi' j hj => ?_⟩⟩
   have h1:=hg i j hi' hj
   rw [hsp,add_at',add_at'] at h1
   exact h1
  ·obtain rfl:len = 0:=by omega
   exact ⟨0,fun _ _ => 0,some a,cap,rfl,hl,fun h => absurd h (Nat.not_lt_zero _)⟩
theorem agg_of_trod {r:Reach} {b0:Nat} {t:TypeId} {fs:Array Field} {v:Value} {d:DataW H} {p:List MemPlace} (c:Nat) (kd:Nat → IntKind) (ht:P.underlying t = some (.struct fs)) (hc:P.cellsOf t = c)
  (hk:((List.range c).all fun j => decide (kindAt P 6 t j = some (kd j))) = true)
  (hv:Value.okWide P w r b0 t v) (h:DataW.Trod enc P w base (fun _ => true) held t v d p):∃ x:Nat → Int,v = .agg ((List.range c).map fun j => Value.int (kd j) (x j)).toArray ∧ ∀ j,j < c → (Lit.int (kd j) (x j)).wf = true:=by
 obtain ⟨cs,rfl,hsz⟩:=okWide_struct ht hv
 obtain ⟨fuel,hf⟩:=h
 rw [hc] at hsz
 have hk':∀ j,j < c → kindAt P 6 t j = some (kd j):=fun j hj => of_decide_eq_true (List.all_eq_true.1 hk j (List.mem_range.2 hj))
 have each:∀ j,∃ y:Int,j < c → cs[j]? = some (.int (kd j) y) ∧ (Lit.int (kd j) y).wf = true:=fun j => by
  by_cases hj:j < c
  ·obtain ⟨y,hy,hw⟩:=cell_kind 6 (hk' j hj) hf
   exact ⟨y,fun _ => ⟨by simpa [Value.cells] using hy,hw⟩⟩
  ·exact ⟨0,fun h => absurd h hj⟩
 obtain ⟨x,hx⟩:=Classical.axiomOfChoice each
 refine ⟨x,?_,fun j hj => (hx j hj).2⟩
 congr 1
 apply Array.ext
 ·simp [hsz]
 ·intro i h1 h2
  have h3:=(hx i (by omega)).1
  rw [Array.getElem?_eq_getElem h1] at h3
  simpa using h3
end
end Go.Proofs.YthjklbonebnekaaGreat
namespace Go.Proofs.YthjklbonebnekaaGreat
open Go Go.ChangeShapes Go.WideShapes Go.RowKit
structure Acc where
 op:Int
 at_:Int
 a:BitVec 64
 b:BitVec 64
def toW (x:Int):BitVec 64:=BitVec.ofNat 64 x.toNat
theorem U_toW {x:Int} (h:(Lit.int .u64 x).wf = true):U (toW x) = x:=by
 have hb:=bounds_u64 h
 unfold toW
 rw [U_toNat,BitVec.toNat_ofNat]
 omega
end Go.Proofs.YthjklbonebnekaaGreat
namespace Go.Proofs.YthjklbonebnekaaGreat
open Go Go.RowKit
section
variable {P:Program} {t:TypeId} {a b:Array TypeId} {c:Bool} (w:World) (h:P.underlying t = some (.func a b c))
include h
theorem equalIn_nil (d:Nat):(Op.equalIn (d+1) t .nilFunc .nilFunc).run P w = .ok true w:=by
 simp [Op.equalIn,run_underlying h]
theorem equalIn_fn (d:Nat) (f:Fn) (x y:Array Value):(Op.equalIn (d+1) t (.func f x y) .nilFunc).run P w = .ok false w:=by
 simp [Op.equalIn,run_underlying h]
theorem eql_nil:(binOp .eql t .nilFunc .nilFunc).run P w = .ok (.bool true) w:=by
 simp only [binOp]
 simp [show Op.equal t .nilFunc .nilFunc = Op.equalIn (9999+1) t .nilFunc .nilFunc from rfl,equalIn_nil w h 9999]
theorem neq_nil:(binOp .neq t .nilFunc .nilFunc).run P w = .ok (.bool false) w:=by
 simp only [binOp]
 simp [show Op.equal t .nilFunc .nilFunc = Op.equalIn (9999+1) t .nilFunc .nilFunc from rfl,equalIn_nil w h 9999]
theorem eql_fn (f:Fn) (x y:Array Value):(binOp .eql t (.func f x y) .nilFunc).run P w = .ok (.bool false) w:=by
 simp only [binOp]
 simp [show Op.equal t (.func f x y) .nilFunc = Op.equalIn (9999+1) t (.func f x y) .nilFunc from rfl,equalIn_fn w h 9999]
theorem neq_fn (f:Fn) (x y:Array Value):(binOp .neq t (.func f x y) .nilFunc).run P w = .ok (.bool true) w:=by
 simp only [binOp]
 simp [show Op.equal t (.func f x y) .nilFunc = Op.equalIn (9999+1) t (.func f x y) .nilFunc from rfl,equalIn_fn w h 9999]
end
theorem assert_yes (v:Value) (w:World):(Instr.typeAssert (.iface 250 v) 20 250 true).run Tryz.prog w = .ok (.tuple #[v,.bool true]) w:=by
 have h:Tryz.prog.underlying 250 = some (.pointer 87):=by kernel_rfl
 simp [Instr.typeAssert,run_underlying h,go_sem,Result.andThen]
theorem assert_no (t:TypeId) (v:Value) (w:World) (ht:(t == 250) = false):(Instr.typeAssert (.iface t v) 20 250 true).run Tryz.prog w = .ok (.tuple #[.pointer none,.bool false]) w:=by
 have h:Tryz.prog.underlying 250 = some (.pointer 87):=by kernel_rfl
 have h':t ≠ 250:=by simpa using ht
 simp [Instr.typeAssert,run_underlying h,go_sem,Result.andThen,h']
theorem fnUs:Tryz.prog.underlying 301 = some (.func #[40] #[303] false):=by kernel_rfl
def put7 (b:Nat) (x0 x1 x2 x3 x4 x5 x6:Value) (w:World):World:=
 (((((((w.setCell ⟨b,0,none⟩ x0).setCell ⟨b,1,none⟩ x1).setCell ⟨b,2,none⟩ x2).setCell ⟨b,3,none⟩ x3).setCell ⟨b,4,none⟩ x4).setCell ⟨b,5,none⟩ x5).setCell ⟨b,6,none⟩ x6)
theorem put7_ext {u w:World} {b:Nat} (x0 x1 x2 x3 x4 x5 x6:Value) (h:Ext u w) (hb:u.heap.size ≤ b):Ext u (put7 b x0 x1 x2 x3 x4 x5 x6 w):=
 ext_set _ hb (ext_set _ hb (ext_set _ hb (ext_set _ hb (ext_set _ hb (ext_set _ hb (ext_set _ hb h))))))
theorem put7_block {w:World} {b:Nat} {c0 c1 c2 c3 c4 c5 c6:Value} {t:TypeId} {f:Nat × Nat} (x0 x1 x2 x3 x4 x5 x6:Value) (h:w.heap[b]? = some (.cells #[c0,c1,c2,c3,c4,c5,c6] t f)) :
  (put7 b x0 x1 x2 x3 x4 x5 x6 w).heap[b]? = some (.cells #[x0,x1,x2,x3,x4,x5,x6] t f):=by
 have h0:=set_same (o:=0) x0 h
 have h1:=set_same (o:=1) x1 h0
 have h2:=set_same (o:=2) x2 h1
 have h3:=set_same (o:=3) x3 h2
 have h4:=set_same (o:=4) x4 h3
 have h5:=set_same (o:=5) x5 h4
 have h6:=set_same (o:=6) x6 h5
 unfold put7
 rw [h6]
 simp
theorem put7_other {w:World} {b k:Nat} (x0 x1 x2 x3 x4 x5 x6:Value) (h:k ≠ b):(put7 b x0 x1 x2 x3 x4 x5 x6 w).heap[k]? = w.heap[k]?:=by
 unfold put7
 rw [set_other _ h,set_other _ h,set_other _ h,set_other _ h,set_other _ h,set_other _ h,set_other _ h]
theorem put7_size {w:World} {b:Nat} (x0 x1 x2 x3 x4 x5 x6:Value):(put7 b x0 x1 x2 x3 x4 x5 x6 w).heap.size = w.heap.size:=by
 unfold put7
 rw [set_size,set_size,set_size,set_size,set_size,set_size,set_size]
theorem put7_fr {w:World} {b:Nat} (x0 x1 x2 x3 x4 x5 x6:Value):Fr 0 (b+1) w (put7 b x0 x1 x2 x3 x4 x5 x6 w):=by
 have h:=Nat.lt_succ_self b
 have z:=Nat.zero_le b
 exact (((((((Fr.refl 0 (b+1) w).set (p:=⟨b,0,none⟩) x0 z h).set (p:=⟨b,1,none⟩) x1 z h).set (p:=⟨b,2,none⟩) x2 z h).set (p:=⟨b,3,none⟩) x3 z h).set (p:=⟨b,4,none⟩) x4 z h).set (p:=⟨b,5,none⟩) x5 z h).set (p:=⟨b,6,none⟩) x6 z h
theorem heap_at (w:World) (o:Obj) (b:Nat) (hb:b = w.heap.size):(w.alloc o).heap[b]? = some o:=by
 subst hb
 exact heap_alloc_new w o
structure Sev (b:Nat) (x0 x1 x2 x3 x4 x5 x6:Value) (w:World):Prop where
 c0:w.cell? ⟨b,0,none⟩ = some x0
 c1:w.cell? ⟨b,1,none⟩ = some x1
 c2:w.cell? ⟨b,2,none⟩ = some x2
 c3:w.cell? ⟨b,3,none⟩ = some x3
 c4:w.cell? ⟨b,4,none⟩ = some x4
 c5:w.cell? ⟨b,5,none⟩ = some x5
 c6:w.cell? ⟨b,6,none⟩ = some x6
 cz:∀ o,w.frozen? ⟨b,o,none⟩ = false
 lt:b < w.heap.size
theorem sev_of {w:World} {b:Nat} {x0 x1 x2 x3 x4 x5 x6:Value} {t:TypeId} (h:w.heap[b]? = some (.cells #[x0,x1,x2,x3,x4,x5,x6] t (0,0))):Sev b x0 x1 x2 x3 x4 x5 x6 w:=
 ⟨cell_at h rfl,cell_at h rfl,cell_at h rfl,cell_at h rfl,cell_at h rfl,cell_at h rfl,cell_at h rfl,fun _ => free_at h,(Array.getElem?_eq_some_iff.1 h).1⟩
structure FD (D:Nat → Prop) (w w':World):Prop where
 os:w'.os = w.os
 tape:w'.tape = w.tape
 output:w'.output = w.output
 size:w.heap.size ≤ w'.heap.size
 block:∀ k,k < w.heap.size → ¬ D k → w'.heap[k]? = w.heap[k]?
theorem FD.cell {D:Nat → Prop} {w w':World} (h:FD D w w') {b o:Nat} (hb:b < w.heap.size) (hn:¬ D b):w'.cell? ⟨b,o,none⟩ = w.cell? ⟨b,o,none⟩:=by
 simp [World.cell?,h.block b hb hn]
theorem FD.of_ext {D:Nat → Prop} {w w':World} (h:Ext w w'):FD D w w':=⟨h.os,h.tape,h.output,h.size,fun k hk _ => h.block k hk⟩
theorem FD.of_fr {D:Nat → Prop} {lo hi:Nat} {w w':World} (h:Fr lo hi w w') (hd:∀ k,lo ≤ k → k < hi → D k):FD D w w':=
 ⟨h.os,h.tape,h.output,h.size,fun k hk hn => h.block k hk (by
  by_cases h1:lo ≤ k
  ·by_cases h2:k < hi
   ·exact absurd (hd k h1 h2) hn
   ·exact .inr (Nat.le_of_not_lt h2)
  ·exact .inl (Nat.lt_of_not_le h1))⟩
def UsB (D:Nat → Prop) (w:World) (v:Value) (l:List (BitVec 64)):Prop:=
 ∃ a0 cap,v = .slice a0 l.length cap ∧ l.length ≤ cap ∧ (0 < l.length → ∃ b off,a0 = some ⟨b,off,none⟩ ∧ ¬ D b ∧ b < w.heap.size ∧
  ∀ i,i < l.length → w.cell? ⟨b,off+i,none⟩ = some (.int .u64 (U (uN l i))))
theorem UsB.us {D:Nat → Prop} {w:World} {v:Value} {l:List (BitVec 64)} (h:UsB D w v l):Us w v l:=by
 obtain ⟨a0,cap,e,hc,hr⟩:=h
 refine ⟨a0,cap,e,hc,fun hl => ?_⟩
 obtain ⟨b,off,ea,_,hlt,hcell⟩:=hr hl
 exact ⟨b,off,ea,hlt,hcell⟩
theorem UsB.fr {D:Nat → Prop} {w w':World} {v:Value} {l:List (BitVec 64)} (h:UsB D w v l) (hf:FD D w w'):UsB D w' v l:=by
 obtain ⟨a0,cap,e,hc,hr⟩:=h
 refine ⟨a0,cap,e,hc,fun hl => ?_⟩
 obtain ⟨b,off,ea,h0,hlt,hcell⟩:=hr hl
 refine ⟨b,off,ea,h0,Nat.lt_of_lt_of_le hlt hf.size,fun i hi => ?_⟩
 rw [hf.cell hlt h0]
 exact hcell i hi
theorem UsB.nil (D:Nat → Prop) (w:World):UsB D w (.slice none 0 0) []:=⟨none,0,rfl,Nat.le_refl _,fun h => absurd h (Nat.not_lt_zero _)⟩
def aN (l:List Acc) (i:Nat):Acc:=l.getD i ⟨0,0,0#64,0#64⟩
def AsB (D:Nat → Prop) (w:World) (v:Value) (l:List Acc):Prop:=
 ∃ a0 cap,v = .slice a0 l.length cap ∧ l.length ≤ cap ∧ (0 < l.length → ∃ b o,a0 = some ⟨b,o,none⟩ ∧ ¬ D b ∧ b < w.heap.size ∧ ∀ i,i < l.length →
  w.cell? ⟨b,o+i * 4,none⟩ = some (.int .i64 (aN l i).op) ∧ w.cell? ⟨b,o+i * 4+1,none⟩ = some (.int .i64 (aN l i).at_) ∧
  w.cell? ⟨b,o+i * 4+2,none⟩ = some (.int .u64 (U (aN l i).a)) ∧ w.cell? ⟨b,o+i * 4+3,none⟩ = some (.int .u64 (U (aN l i).b)))
theorem AsB.fr {D:Nat → Prop} {w w':World} {v:Value} {l:List Acc} (h:AsB D w v l) (hf:FD D w w'):AsB D w' v l:=by
 obtain ⟨a0,cap,e,hc,hr⟩:=h
 refine ⟨a0,cap,e,hc,fun hl => ?_⟩
 obtain ⟨b,o,ea,h0,hlt,hcell⟩:=hr hl
 refine ⟨b,o,ea,h0,Nat.lt_of_lt_of_le hlt hf.size,fun i hi => ?_⟩
 rw [hf.cell hlt h0,hf.cell hlt h0,hf.cell hlt h0,hf.cell hlt h0]
 exact hcell i hi
theorem AsB.ext {D:Nat → Prop} {w w':World} {v:Value} {l:List Acc} (h:AsB D w v l) (hf:Ext w w'):AsB D w' v l:=h.fr (.of_ext hf)
theorem AsB.at {D:Nat → Prop} {w:World} {a0:Option Addr} {m cap:Nat} {l:List Acc} (h:AsB D w (.slice a0 m cap) l) (hl:0 < l.length):∃ b o,a0 = some ⟨b,o,none⟩ ∧ ¬ D b ∧ b < w.heap.size ∧ ∀ i,i < l.length →
  w.cell? ⟨b,o+i * 4,none⟩ = some (.int .i64 (aN l i).op) ∧ w.cell? ⟨b,o+i * 4+1,none⟩ = some (.int .i64 (aN l i).at_) ∧
  w.cell? ⟨b,o+i * 4+2,none⟩ = some (.int .u64 (U (aN l i).a)) ∧ w.cell? ⟨b,o+i * 4+3,none⟩ = some (.int .u64 (U (aN l i).b)):=by
 obtain ⟨a,c',e,_,hr⟩:=h
 simp at e
 obtain ⟨rfl,rfl,rfl⟩:=e
 exact hr hl
def Told (D:Nat → Prop) (w:World):List (BitVec 64) → Value → Prop
 | [],v => v = .pointer none
 | x :: r,v => ∃ g p,v = .pointer (some ⟨g,0,none⟩) ∧ ¬ D g ∧ g < w.heap.size ∧ w.cell? ⟨g,0,none⟩ = some (.int .u64 (U x)) ∧ w.cell? ⟨g,1,none⟩ = some p ∧ Told D w r p
theorem Told.fr {D:Nat → Prop} {w w':World} (hf:FD D w w'):∀ {r:List (BitVec 64)} {v:Value},Told D w r v → Told D w' r v
 | [],_,h => h
 | _ :: _,_,⟨g,p,e,h0,hlt,c0,c1,h⟩ => ⟨g,p,e,h0,Nat.lt_of_lt_of_le hlt hf.size,by rw [hf.cell hlt h0];exact c0,by rw [hf.cell hlt h0];exact c1,Told.fr hf h⟩
theorem Told.ext {D:Nat → Prop} {w w':World} {r:List (BitVec 64)} {v:Value} (h:Told D w r v) (hb:Ext w w'):Told D w' r v:=h.fr (.of_ext hb)
def pV (r:Value) (a:Acc) (fn parts:Value):Value:=.agg #[r,.int .i64 a.op,.int .i64 a.at_,.int .u64 (U a.a),.int .u64 (U a.b),fn,parts]
def accZ:Acc:=⟨0,0,0#64,0#64⟩
def PL:(D:Nat → Prop) → List Acc → List (BitVec 64) → Value → World → Prop
 | D,[],t,v,w => ∃ rv,v = pV rv accZ .nilFunc (.pointer none) ∧ UsB D w rv t
 | D,a :: l,t,v,w => ∃ g caps,v = pV (.slice none 0 0) a (.func (.func g) #[] caps) (.pointer none) ∧ (∀ args w,(callFunc g args).run Tryz.prog w = .ok (.enter g args) w) ∧
   ∀ (E:Nat → Prop),(∀ k,k < w.heap.size → (E k ↔ D k)) → ∀ (x:BitVec 64) (w':World),FD E w w' → (∀ k,E k → k < w'.heap.size) → Calls Tryz.prog g (#[.int .u64 (U x)] ++ caps) w' fun e w'' => ∃ v',e = .returned v' ∧ Ext w' w'' ∧ PL E l (t ++ [x]) v' w''
theorem UsB.mono {D E:Nat → Prop} {w:World} {v:Value} {l:List (BitVec 64)} (h:UsB E w v l) (hd:∀ k,D k → E k):UsB D w v l:=by
 obtain ⟨a0,cap,e,hc,hr⟩:=h
 refine ⟨a0,cap,e,hc,fun hl => ?_⟩
 obtain ⟨b,off,ea,h0,hlt,hcell⟩:=hr hl
 exact ⟨b,off,ea,fun x => h0 (hd b x),hlt,hcell⟩
theorem Told.more {D E:Nat → Prop} {w:World} (he:∀ k,k < w.heap.size → E k → D k):∀ {r:List (BitVec 64)} {v:Value},Told D w r v → Told E w r v
 | [],_,h => h
 | _ :: _,_,⟨g,p,e,h0,hlt,c0,c1,h⟩ => ⟨g,p,e,fun x => h0 (he g hlt x),hlt,c0,c1,Told.more he h⟩
theorem AsB.more {D E:Nat → Prop} {w:World} {v:Value} {l:List Acc} (h:AsB D w v l) (he:∀ k,k < w.heap.size → E k → D k):AsB E w v l:=by
 obtain ⟨a0,cap,e,hc,hr⟩:=h
 refine ⟨a0,cap,e,hc,fun hl => ?_⟩
 obtain ⟨b,o,ea,h0,hlt,hcell⟩:=hr hl
 exact ⟨b,o,ea,fun x => h0 (he b hlt x),hlt,hcell⟩
theorem ext_own {w u u':World} {e:TypeId} {size:Nat} {v:Value} {n:Nat} {xs:List Value} (h:Ext w u) (ho:u.ownsRow w.heap.size e size v n xs) (hg:u.grownBy u' v.ownBlock):Ext w u':=
 h.grown hg h.size fun k hk => (ho.lt k hk).1
theorem own_none (w:World) (base:Nat) (e:TypeId) (size g:Nat) (hg:g = w.heap.size) (h:base ≤ w.heap.size):(w.alloc (.cells #[] e)).ownsRow base e size (.slice (some ⟨g,0,none⟩) 0 0) 0 []:=by
 subst hg
 refine ⟨by simp,.inr ⟨w.heap.size,0,#[],rfl,h,?_,Nat.le_refl _,Nat.zero_le _,by simp,by simp⟩⟩
 show (w.heap.push _)[w.heap.size]? = _
 simp
def RetTold (D:Nat → Prop) (r:List (BitVec 64)) (w:World) (e:Ending) (w':World):Prop:=∃ v,e = .returned v ∧ Told D w' r v ∧ Ext w w'
theorem rev_take_succ (l r:List (BitVec 64)) (k:Nat) (h:k < l.length):(l.take (k+1)).reverse ++ r = uN l k :: ((l.take k).reverse ++ r):=by
 rw [List.take_succ_eq_append_getElem h,List.reverse_append]
 simp [uN,List.getD_eq_getElem?_getD,h]
theorem told_new {D:Nat → Prop} {w:World} {r:List (BitVec 64)} {p:Value} (h:Told D w r p) (hb:∀ k,D k → k < w.heap.size) (x:BitVec 64) (t:TypeId) :
  Told D (w.alloc (.cells #[.int .u64 (U x),p] t)) (x :: r) (.pointer (some ⟨w.heap.size,0,none⟩)):=by
 have h0:=heap_alloc_new w (.cells #[.int .u64 (U x),p] t)
 exact ⟨_,p,rfl,fun x => absurd (hb _ x) (Nat.lt_irrefl _),by simp,cell_at h0 rfl,cell_at h0 rfl,h.ext (ext_alloc _ (ext_refl w))⟩
theorem Told.ptr {D:Nat → Prop} {w:World}:∀ {r:List (BitVec 64)} {v:Value},Told D w r v → ∃ p,v = .pointer p
 | [],_,h => ⟨none,h⟩
 | _ :: _,_,⟨_,_,e,_⟩ => ⟨_,e⟩
def WithRel (D:Nat → Prop) (l r:List (BitVec 64)) (w:World) (t i:Value) (wr:World):Prop:=
 ∃ k:Nat,k ≤ l.length ∧ i = .int .i64 (k:Int) ∧ Told D wr ((l.take k).reverse ++ r) t ∧ Ext w wr
theorem with_any (D:Nat → Prop) (l r:List (BitVec 64)) (v wv:Value) (w:World) (hT:Told D w r v) (hU:Us w wv l) (hl:l.length ≤ 1000) (hb:∀ k,D k → k < w.heap.size) :
  Calls Tryz.prog 284 #[v,wv] w (RetTold D (l.reverse ++ r) w):=by
 have HT:=Lib.hid hT
 have HU:=Lib.hid hU
 obtain ⟨a0,cap,rfl,hc,hcell⟩:=hU
 clear hcell hT
 go_enter Tryz.func284,Tryz.ntmps284
 go_wp2
 go_loopw [0,9] (fun t i wr => WithRel D l r w t i wr) (fun t i _ => (l.length - intOf i).toNat)
 case atStart => exact ⟨0,Nat.zero_le _,rfl,HT.out,ext_refl w⟩
 case round =>
  obtain ⟨k,hk,rfl,hT,hX⟩:=hrel
  have HK:=Lib.hid hT
  have HX:=Lib.hid hX
  obtain ⟨p,rfl⟩:=hT.ptr
  clear hT hX
  by_cases hlt:k < l.length
  ·obtain ⟨b,off,rfl,hb',hcells⟩:=(HU.out.ext HX.out).at (by omega)
   have c1:=hcells k hlt
   clear hcells
   go_wp2
   refine ⟨⟨k+1,by omega,by go_num,?_,ext_alloc _ HX.out⟩,by simp [intOf];omega⟩
   rw [rev_take_succ l r k hlt]
   exact told_new HK.out (fun k hk => Nat.lt_of_lt_of_le (hb k hk) HX.out.size) _ _
  ·obtain rfl:k = l.length:=by omega
   go_wp2
   go_ret
   refine ⟨_,rfl,?_,HX.out⟩
   rw [← List.take_length (l:=l)]
   exact HK.out
def revN (n:Nat) (x:Nat → BitVec 64) (k i:Nat):BitVec 64:=if i < k ∨ n - 1 - k < i then x (n - 1 - i) else x i
structure RowIs (g n:Nat) (x:Nat → BitVec 64) (w:World):Prop where
 blk:∃ c,w.heap[g]? = some (.cells c 40 (0,0)) ∧ ∀ i,i < n → c[i]? = some (.int .u64 (U (x i)))
theorem RowIs.cell {g n:Nat} {x:Nat → BitVec 64} {w:World} (h:RowIs g n x w) {i:Nat} (hi:i < n):w.cell? ⟨g,i,none⟩ = some (.int .u64 (U (x i))):=by
 obtain ⟨c,hc,hx⟩:=h.blk
 exact cell_at hc (hx i hi)
theorem RowIs.free {g n:Nat} {x:Nat → BitVec 64} {w:World} (h:RowIs g n x w) (i:Nat):w.frozen? ⟨g,i,none⟩ = false:=by
 obtain ⟨c,hc,_⟩:=h.blk
 exact free_at hc
theorem RowIs.set {g n:Nat} {x:Nat → BitVec 64} {w:World} (h:RowIs g n x w) (i:Nat) (y:BitVec 64):RowIs g n (fun j => if j = i then y else x j) (w.setCell ⟨g,i,none⟩ (.int .u64 (U y))):=by
 obtain ⟨c,hc,hx⟩:=h.blk
 refine ⟨_,set_same _ hc,fun j hj => ?_⟩
 rw [Array.getElem?_setIfInBounds]
 have hj':=hx j hj
 have hlt:j < c.size:=(Array.getElem?_eq_some_iff.1 hj').1
 by_cases hij:i = j
 ·subst hij;simp [hlt]
 ·rw [if_neg hij,hj'];simp [Ne.symm hij]
theorem RowIs.congr {g n:Nat} {x y:Nat → BitVec 64} {w:World} (h:RowIs g n x w) (e:∀ i,i < n → x i = y i):RowIs g n y w:=by
 obtain ⟨c,hc,hx⟩:=h.blk
 exact ⟨c,hc,fun i hi => by rw [← e i hi];exact hx i hi⟩
theorem RowIs.fr {g n:Nat} {x:Nat → BitVec 64} {w w':World} (h:RowIs g n x w) (hb:w'.heap[g]? = w.heap[g]?):RowIs g n x w':=by
 obtain ⟨c,hc,hx⟩:=h.blk
 exact ⟨c,hb.trans hc,hx⟩
def RevRel (g n:Nat) (x:Nat → BitVec 64) (w:World) (i j:Value) (wr:World):Prop:=
 ∃ k:Nat,2 * k ≤ n ∧ i = .int .i64 (k:Int) ∧ j = .int .i64 ((n:Int) - 1 - k) ∧ RowIs g n (revN n x k) wr ∧ Fr g (g+1) w wr
def RetRev (g n:Nat) (x:Nat → BitVec 64) (w:World) (e:Ending) (w':World):Prop:=
 e = .returned (.tuple #[]) ∧ RowIs g n (fun i => x (n - 1 - i)) w' ∧ Fr g (g+1) w w'
theorem rev_row (g n cap:Nat) (x:Nat → BitVec 64) (w:World) (hn:n ≤ 1000) (hR:RowIs g n x w) :
  Calls Tryz.prog 285 #[.slice (some ⟨g,0,none⟩) n cap] w (RetRev g n x w):=by
 have HR:=Lib.hid hR
 clear hR
 go_enter Tryz.func285,Tryz.ntmps285
 go_wp2
 go_loopw [2,3] (fun i j wr => RevRel g n x w i j wr) (fun i j _ => (n - intOf i).toNat)
 case atStart =>
  refine ⟨0,Nat.zero_le _,rfl,by simp,HR.out.congr fun i hi => ?_,Fr.refl _ _ _⟩
  unfold revN
  rw [if_neg (by omega)]
 case round =>
  obtain ⟨k,hk,rfl,rfl,hr,hf⟩:=hrel
  have HK:=Lib.hid hr
  have HF:=Lib.hid hf
  clear hr hf
  by_cases hlt:(k:Int) < (n:Int) - 1 - k
  ·have ei:(n:Int) - 1 - k = ((n - 1 - k:Nat):Int):=by omega
   rw [ei]
   have c1:=HK.out.cell (i:=k) (by omega)
   have c2:=HK.out.cell (i:=n - 1 - k) (by omega)
   have f1:=HK.out.free k
   have hg:=cell_lt c1
   have f2:=HK.out.free (n - 1 - k)
   go_wp2
   go_region
   all_goals (try go_wp2)
   refine ⟨⟨k+1,by omega,by go_num,?_,?_,?_⟩,by simp [intOf];omega⟩
   ·show Value.int .i64 (((n - 1 - k:Nat):Int) - 1) = .int .i64 ((n:Int) - 1 - ((k+1:Nat):Int))
    congr 1
    omega
   ·refine (RowIs.fr (w':=World.drew _) ((HK.out.set k (revN n x k (n - 1 - k))).set (n - 1 - k) (revN n x k k)) rfl).congr fun i hi => ?_
    have e1:n - 1 - (n - 1 - k) = k:=by omega
    unfold revN
    by_cases h1:i = n - 1 - k
    ·subst h1
     rw [if_pos rfl,if_neg (by omega),if_pos (by omega),e1]
    ·by_cases h2:i = k
     ·subst h2
      rw [if_neg h1,if_pos rfl,if_neg (by omega),if_pos (by omega)]
     ·rw [if_neg h1,if_neg h2]
      by_cases h3:i < k ∨ n - 1 - k < i
      ·rw [if_pos h3,if_pos (by omega)]
      ·rw [if_neg h3,if_neg (by omega)]
   ·exact ((HF.out.set _ (Nat.le_refl _) (Nat.lt_succ_self _)).set _ (Nat.le_refl _) (Nat.lt_succ_self _)).drew
  ·go_wp2
   refine bodyPost_ret (v:=.tuple #[]) (by simp [results,Tryz.results285,go_sem]) rfl ⟨rfl,HK.out.congr fun i hi => ?_,HF.out⟩
   unfold revN
   by_cases h3:i < k ∨ n - 1 - k < i
   ·rw [if_pos h3]
   ·rw [if_neg h3,show n - 1 - i = i by omega]
theorem rev_nil (w:World):Calls Tryz.prog 285 #[.slice none 0 0] w (Ret (.tuple #[]) w):=by
 go_enter Tryz.func285,Tryz.ntmps285
 go_wp2
 refine wp_loop_rounds 1 ?_
 rw [rounds_succ]
 go_wp2
 exact bodyPost_ret (v:=.tuple #[]) (by simp [results,Tryz.results285,go_sem]) rfl (Ret.mk (ext_refl _))
def W1 (x:BitVec 64):Value:=.int .u64 (U x)
theorem Tryz.infoU64t:(Tryz.prog.info? 40).map (fun i => (i.zero,i.size,i.bytes)) = some (some (.int .u64 0),1,8):=by kernel_rfl
theorem row_of_own {w:World} {base:Nat} {v:Value} {l:List (BitVec 64)} (h:w.ownsRow base 40 1 v l.length (l.map W1)) :
  (v = .slice none 0 0 ∧ l = []) ∨ ∃ g cap,v = .slice (some ⟨g,0,none⟩) l.length cap ∧ l.length ≤ cap ∧ base ≤ g ∧ g < w.heap.size ∧ RowIs g l.length (uN l) w:=by
 rcases h.2 with ⟨h1,h2⟩ | ⟨g,cap,cur,rfl,hg,hh,hc,hm,hs,ht⟩
 ·exact .inl ⟨h1,List.eq_nil_of_length_eq_zero h2⟩
 ·refine .inr ⟨g,cap,rfl,hc,hg,heap_lt hh,⟨cur,hh,fun i hi => ?_⟩⟩
  have h3:(cur.toList.take (l.length * 1))[i]? = (l.map W1)[i]?:=by rw [ht]
  rw [List.getElem?_take,if_pos (by omega),Array.getElem?_toList,List.getElem?_map,List.getElem?_eq_getElem hi] at h3
  rw [h3]
  simp [W1,uN,List.getD_eq_getElem?_getD,hi]
def WordsRel (D:Nat → Prop) (r:List (BitVec 64)) (w:World) (t l:Value) (wr:World):Prop:=
 ∃ r1 r2,r = r1 ++ r2 ∧ Told D w r2 t ∧ wr.ownsRow w.heap.size 40 1 l r1.length (r1.map W1) ∧ Ext w wr
def RetWords (r:List (BitVec 64)) (w:World) (e:Ending) (w':World):Prop:=∃ v,e = .returned v ∧ UsB (· < w.heap.size) w' v r.reverse ∧ Ext w w'
def sliceLen:Value → Nat
 | .slice _ n _ => n
 | _ => 0
theorem own_len {w:World} {base:Nat} {e:TypeId} {size:Nat} {v:Value} {n:Nat} {xs:List Value} (h:w.ownsRow base e size v n xs):sliceLen v = n:=by
 rcases h.2 with ⟨rfl,h2⟩ | ⟨g,cap,cur,rfl,_⟩
 ·exact h2.symm
 ·rfl
theorem words_any (D:Nat → Prop) (r:List (BitVec 64)) (v:Value) (w:World) (hT:Told D w r v) (hl:r.length ≤ 1000) :
  Calls Tryz.prog 282 #[v] w (RetWords r w):=by
 have HT:=Lib.hid hT
 clear hT
 obtain ⟨iU,hiU,hy0,hy1,hy2⟩:=info_parts Tryz.infoU64t
 go_enter Tryz.func282,Tryz.ntmps282
 go_wp2
 go_loopw [0,3] (fun t l wr => WordsRel D r w t l wr) (fun t l _ => r.length - sliceLen l)
 case atStart => exact ⟨[],r,rfl,HT.out,World.ownsRow_nil _ _ _ _,ext_refl w⟩
 case round =>
  obtain ⟨r1,r2,hr,hT,hO,hX⟩:=hrel
  have HO:=Lib.hid hO
  have HX:=Lib.hid hX
  have HR:=Lib.hid hr
  have hlen:r.length = r1.length+r2.length:=by rw [hr];simp
  clear hO hX hr HT
  cases r2 with
  | nil =>
   cases hT
   rcases row_of_own HO.out with ⟨rfl,rfl⟩ | ⟨g,cap,rfl,hc,hg,hlt,hR⟩
   ·go_wp2_with (go_at_call 285;refine (rev_nil _).mono ?_;rintro e w' hr';obtain ⟨rfl,s,rfl⟩:=hr'.over;clear hr')
    go_ret
    exact ⟨_,rfl,by rw [HR.out];exact UsB.nil _ _,ext_over s HX.out⟩
   ·skip
    have HRow:=Lib.hid hR
    clear hR
    go_wp2_with (go_at_call 285;refine (rev_row g r1.length cap (uN r1) _ (by simp at hlen;omega) HRow.out).mono ?_;rintro e w' ⟨rfl,hr',hf'⟩;have HR':=Lib.hid hr';have HF':=Lib.hid hf';clear hr' hf')
    go_ret
    refine ⟨_,rfl,?_,HF'.out.below HX.out hg⟩
    have er:r = r1:=by rw [HR.out];simp
    rw [er]
    refine ⟨_,cap,by rw [List.length_reverse];rfl,by simpa using hc,fun _ => ⟨g,0,rfl,Nat.not_lt.2 hg,Nat.lt_of_lt_of_le hlt HF'.out.size,fun i hi => ?_⟩⟩
    have hi':i < r1.length:=by simpa using hi
    rw [Nat.zero_add,HR'.out.cell hi']
    simp [uN,List.getD_eq_getElem?_getD,List.getElem?_reverse hi']
  | cons x r2 =>
   obtain ⟨g,p,rfl,h0,hlt,c0,c1,hT⟩:=hT
   have HT:=Lib.hid hT
   obtain ⟨q,rfl⟩:=hT.ptr
   clear hT
   have d0:=ext_cell HX.out c0
   have d1:=ext_cell HX.out c1
   have c1':=c1
   have hlt':=Nat.lt_of_lt_of_le hlt HX.out.size
   clear c0 c1
   have HO1:=Lib.hid (own_ext' HO.out (ext_alloc (.cells #[.int .u64 (U x)] 40) (ext_refl wr)))
   go_wp2_with (at_builtin;refine wpList_append_own _ rfl (.tmp 10) (.tmp 15) 87 rfl w.heap.size 40 iU (.int .u64 0) 1 8 Tryz.underlying87 hiU hy0 hy1 hy2 rfl (by decide) u3 r1.length (r1.map W1) rfl HO1.out ⟨wr.heap.size,0,none⟩ 1 1 [.int .u64 (U x)] rfl rfl (newp _ _ _ _ rfl) (by simp [Value.oneCell']) (by unfold maxLen;omega) (by omega) (by have:=HX.out.size;simp;omega) ?_;intro v2 w2 hv2 hg2 hn2;have HV:=Lib.hid hv2;have HX2:=Lib.hid (ext_own (ext_alloc _ HX.out) HO1.out hg2);clear hv2 hg2 hn2;have d2:=ext_cell HX2.out c1')
   have e2:r = (r1 ++ [x]) ++ r2:=by rw [HR.out];simp
   have hV:w2.ownsRow w.heap.size 40 1 v2 (r1 ++ [x]).length ((r1 ++ [x]).map W1):=by
    rw [List.map_append,List.length_append]
    exact HV.out
   refine ⟨⟨r1 ++ [x],r2,e2,HT.out,hV,HX2.out⟩,?_⟩
   rw [own_len hV,own_len HO.out]
   simp at hlen ⊢
   omega
end Go.Proofs.YthjklbonebnekaaGreat

