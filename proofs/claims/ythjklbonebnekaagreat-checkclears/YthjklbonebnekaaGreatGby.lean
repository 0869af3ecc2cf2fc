/-
  Rows of words that a call has made itself, at whatever place of their block: they may be cut at both ends, and grow. No conditions but those of each theorem.
-/
import Derived.Test.YthjklbonebnekaaGreatGaa
import Derived.Test.YthjklbonebnekaaGreatGac
import Derived.Test.YthjklbonebnekaaGreatGad
import Derived.Test.YthjklbonebnekaaGreatGau
import Derived.Test.YthjklbonebnekaaGreatGbo
import Derived.ArgAppend
import Derived.OwnWalk
set_option maxRecDepth 8000
set_option maxHeartbeats 4000000
namespace Go.Proofs.YthjklbonebnekaaGreat
open Go Go.RowKit
def UR (base:Nat) (v:Value) (l:List (BitVec 64)) (w:World):Prop:=
 (v = .slice none 0 0 ∧ l = []) ∨ ∃ g off cap cur,v = .slice (some ⟨g,off,none⟩) l.length cap ∧ base ≤ g ∧ w.heap[g]? = some (.cells cur 40 (0,0)) ∧ l.length ≤ cap ∧ off+cap ≤ cur.size ∧ ∀ i,i < l.length → cur[off+i]? = some (.int .u64 (U (uN l i)))
theorem UR.nil (base:Nat) (w:World):UR base (.slice none 0 0) [] w:=.inl ⟨rfl,rfl⟩
theorem UR.slice {base:Nat} {v:Value} {l:List (BitVec 64)} {w:World} (h:UR base v l w):∃ a cap,v = .slice a l.length cap:=by
 rcases h with ⟨rfl,rfl⟩ | ⟨g,off,cap,cur,rfl,_⟩
 ·exact ⟨none,0,rfl⟩
 ·exact ⟨_,cap,rfl⟩
theorem UR.is {base:Nat} {v:Value} {l:List (BitVec 64)} {w:World} (h:UR base v l w):Us w v l:=by
 rcases h with ⟨rfl,rfl⟩ | ⟨g,off,cap,cur,rfl,hb,hh,hc,hs,hr⟩
 ·exact ⟨none,0,rfl,Nat.le_refl _,fun h => absurd h (Nat.not_lt_zero _)⟩
 ·exact ⟨_,cap,rfl,hc,fun _ => ⟨g,off,rfl,hp_lt hh,fun i hi => cell_at hh (hr i hi)⟩⟩
theorem UR.keep {base:Nat} {v:Value} {l:List (BitVec 64)} {w w':World} (h:UR base v l w) (hk:∀ g,v.ownBlock = some g → w'.heap[g]? = w.heap[g]?):UR base v l w':=by
 rcases h with ⟨rfl,rfl⟩ | ⟨g,off,cap,cur,rfl,hb,hh,hr⟩
 ·exact .inl ⟨rfl,rfl⟩
 ·exact .inr ⟨g,off,cap,cur,rfl,hb,(hk g rfl).trans hh,hr⟩
theorem UR.own {base:Nat} {v:Value} {l:List (BitVec 64)} {w:World} (h:UR base v l w) {g:Nat} (hg:v.ownBlock = some g):base ≤ g ∧ ∃ cur,w.heap[g]? = some (.cells cur 40 (0,0)):=by
 rcases h with ⟨rfl,rfl⟩ | ⟨g',off,cap,cur,rfl,hb,hh,hr⟩
 ·cases hg
 ·cases hg
  exact ⟨hb,cur,hh⟩
theorem UR.ext {base:Nat} {v:Value} {l:List (BitVec 64)} {w w':World} (h:UR base v l w) (hx:Ext w w'):UR base v l w':=
 h.keep fun g hg => by obtain ⟨_,cur,hh⟩:=h.own hg;exact hx.block g (hp_lt hh)
theorem UR.fr {base lo hi:Nat} {v:Value} {l:List (BitVec 64)} {w w':World} (h:UR base v l w) (hx:Fr lo hi w w') (hb:hi ≤ base):UR base v l w':=
 h.keep fun g hg => by obtain ⟨h1,cur,hh⟩:=h.own hg;exact hx.block g (hp_lt hh) (.inr (by omega))
theorem UR.mono {base base':Nat} {v:Value} {l:List (BitVec 64)} {w:World} (h:UR base v l w) (hb:base' ≤ base):UR base' v l w:=by
 rcases h with ⟨rfl,rfl⟩ | ⟨g,off,cap,cur,rfl,h1,hh,hr⟩
 ·exact .inl ⟨rfl,rfl⟩
 ·exact .inr ⟨g,off,cap,cur,rfl,by omega,hh,hr⟩
theorem ur_of_own {base:Nat} {v:Value} {l:List (BitVec 64)} {w:World} (h:w.ownsRow base 40 1 v l.length (l.map fun x => Value.int .u64 (U x))):UR base v l w:=by
 rcases h.2 with ⟨rfl,h2⟩ | ⟨g,cap,cur,rfl,hg,hh,hc,hm,hs,ht⟩
 ·exact .inl ⟨rfl,List.eq_nil_of_length_eq_zero h2⟩
 ·refine .inr ⟨g,0,cap,cur,rfl,hg,hh,hc,by omega,fun i hi => ?_⟩
  have h3:(cur.toList.take (l.length * 1))[i]? = (l.map fun x => Value.int .u64 (U x))[i]?:=by rw [ht]
  rw [List.getElem?_take,if_pos (by omega),Array.getElem?_toList,List.getElem?_map,List.getElem?_eq_getElem hi] at h3
  rw [Nat.zero_add,h3]
  simp [uN,List.getD_eq_getElem?_getD,hi]
theorem uN_snoc_lt (l:List (BitVec 64)) (y:BitVec 64) (i:Nat) (h:i < l.length):uN (l ++ [y]) i = uN l i:=by
 simp [uN,List.getD_eq_getElem?_getD,List.getElem?_append_left h]
theorem uN_snoc_eq (l:List (BitVec 64)) (y:BitVec 64):uN (l ++ [y]) l.length = y:=by
 simp [uN,List.getD_eq_getElem?_getD]
theorem Tryz.infoU64q:(Tryz.prog.info? 40).map (fun i => (i.zero,i.size,i.bytes)) = some (some (.int .u64 0),1,8):=by kernel_rfl
theorem wpList_urow {w:World} {ops:Array Oper} {rest:List Oper} {o:Oper} {a:Act} {Q:Exit → Act → World → Prop} (hgd:o.guard = none) (s x:Operand)
  (ho:o.op = .call { callee:=.builtin .append,args:=#[s,x],argTypes:=#[87,87] }) (base:Nat) (v:Value) (l:List (BitVec 64)) (hs:a.eval s = v) (hI:UR base v l w)
  (ad:Addr) (y:BitVec 64) (hx:a.eval x = .slice (some ad) 1 1) (hc:w.cell? ad = some (.int .u64 (U y))) (hl:l.length ≤ 2000000) (hb:base ≤ w.heap.size)
  (h:∀ v' w',UR base v' (l ++ [y]) w' → w.grownBy w' v.ownBlock → (v'.ownBlock = v.ownBlock ∨ ∃ g,v'.ownBlock = some g ∧ w.heap.size ≤ g) → wpList Tryz.prog ops Q rest (a.put o.dst v') w'):wpList Tryz.prog ops Q (o :: rest) a w:=by
 obtain ⟨iU,hiU,hy0,hy1,hy2⟩ : ∃ i,Tryz.prog.info? 40 = some i ∧ i.zero = some (.int .u64 0) ∧ i.size = 1 ∧ i.bytes = 8:=by
  have h:=Tryz.infoU64q
  cases hi:Tryz.prog.info? 40 with
  | none => rw [hi] at h;cases h
  | some i =>
   rw [hi] at h
   simp at h
   exact ⟨i,rfl,h.1,h.2.1,h.2.2⟩
 have hnews:∀ j u,([.int .u64 (U y)]:List Value)[j]? = some u → w.cell? (ad.add j) = some u:=by
  intro j u hj
  match j,hj with
  | 0,hj =>
   simp at hj
   subst hj
   have:=spot_none' hc
   rw [this,add_at']
   rw [this] at hc
   exact hc
 have h1:∀ u ∈ ([.int .u64 (U y)]:List Value),u.oneCell' = true:=by
  intro u hu
  simp at hu
  subst hu
  rfl
 have hmap:(l.map fun x => Value.int .u64 (U x)) ++ [.int .u64 (U y)] = (l ++ [y]).map fun x => Value.int .u64 (U x):=by simp
 rcases hI with ⟨rfl,rfl⟩ | ⟨g,off,cap,cur,rfl,hbg,hh,hlc,hoc,hr⟩
 ·refine wpList_append_grows w hgd s x 87 ho 40 iU (.int .u64 0) 1 8 Tryz.underlying87 hiU hy0 hy1 hy2 rfl (by decide) none 0 0 [] hs (fun _ => ⟨rfl,rfl⟩) rfl (fun b hb => by cases hb) ad 1 1 [.int .u64 (U y)] hx rfl hnews h1 (by omega) (by unfold maxLen;omega) (by omega) ?_
  intro v' w' hown hg
  refine h v' w' ((ur_of_own (l:=[y]) hown).mono hb) hg ?_
  cases ho':v'.ownBlock with
  | none => exact .inl rfl
  | some g => exact .inr ⟨g,rfl,(hown.lt g ho').1⟩
 ·have holds:∀ j u,(l.map fun x => Value.int .u64 (U x))[j]? = some u → w.cell? ⟨g,off+j,none⟩ = some u:=by
   intro j u hj
   have hj':j < l.length:=by
    have:=(List.getElem?_eq_some_iff.1 hj).1
    simpa using this
   rw [List.getElem?_map,List.getElem?_eq_getElem hj'] at hj
   simp at hj
   refine cell_at hh ((hr j hj').trans ?_)
   rw [← hj]
   simp [uN,List.getD_eq_getElem?_getD,hj']
  refine wpList_append_arg w hgd s x 87 ho 40 iU (.int .u64 0) 1 8 Tryz.underlying87 hiU hy0 hy1 hy2 rfl (by decide) g off l.length cap _ hs (by simp) holds ad 1 1 [.int .u64 (U y)] hx rfl hnews h1 ?_ (by unfold maxLen;omega) (by omega) ?_ ?_
  ·intro hroom j hj
   have hlt:off+l.length * 1+j < cur.size:=by simp at hj;omega
   refine ⟨?_,free_at hh⟩
   rw [cell_at hh (Array.getElem?_eq_getElem hlt)]
   rfl
  ·intro hroom
   have e:w.setCells g (off+l.length * 1) [.int .u64 (U y)] = w.setCell ⟨g,off+l.length,none⟩ (.int .u64 (U y)):=by simp [World.setCells]
   rw [e]
   have hh':=set_same (o:=off+l.length) (.int .u64 (U y)) hh
   refine h _ _ (.inr ⟨g,off,cap,_,?_,hbg,hh',?_,?_,fun i hi => ?_⟩) ⟨rfl,rfl,rfl,by rw [set_size];exact Nat.le_refl _,fun k _ hk => set_other _ (fun e => hk (by rw [e];rfl))⟩ (.inl rfl)
   ·simp
   ·simp;omega
   ·simpa using hoc
   ·simp only [List.length_append,List.length_cons,List.length_nil] at hi
    by_cases hi':i < l.length
    ·rw [uN_snoc_lt l y i hi',Array.getElem?_setIfInBounds_ne (by omega)]
     exact hr i hi'
    ·obtain rfl:i = l.length:=by omega
     rw [uN_snoc_eq,Array.getElem?_setIfInBounds_self_of_lt (by omega)]
  ·intro hfull v' w' hown hg
   refine h v' w' ((ur_of_own (l:=l ++ [y]) (by rw [← hmap];simpa using hown)).mono hb) ⟨hg.os,hg.tape,hg.output,hg.size,fun k hk _ => hg.block k hk (by simp)⟩ ?_
   cases ho':v'.ownBlock with
   | none =>
    exfalso
    rcases hown.2 with ⟨_,h2⟩ | ⟨g',cap',cur',e',_⟩
    ·omega
    ·rw [e'] at ho'
     cases ho'
   | some g' => exact .inr ⟨g',rfl,(hown.lt g' ho').1⟩
theorem UR.some {base:Nat} {v:Value} {l:List (BitVec 64)} {w:World} (h:UR base v l w) (hl:0 < l.length):∃ g off cap,v = .slice (some ⟨g,off,none⟩) l.length cap ∧ g < w.heap.size ∧ base ≤ g ∧ l.length ≤ cap ∧ ∀ i,i < l.length → w.cell? ⟨g,off+i,none⟩ = some (.int .u64 (U (uN l i))):=by
 rcases h with ⟨rfl,rfl⟩ | ⟨g,off,cap,cur,rfl,hb,hh,hc,hs,hr⟩
 ·exact absurd hl (Nat.not_lt_zero _)
 ·exact ⟨g,off,cap,rfl,hp_lt hh,hb,hc,fun i hi => cell_at hh (hr i hi)⟩
theorem grownU_ext {w0 w w':World} {v:Value} {base:Nat} {l:List (BitVec 64)} (h:Ext w0 w) (hI:UR base v l w) (hg:w.grownBy w' v.ownBlock) (hb:w0.heap.size ≤ base):Ext w0 w':=
 ⟨hg.os.trans h.os,hg.tape.trans h.tape,hg.output.trans h.output,Nat.le_trans h.size hg.size,fun k hk => (hg.block k (Nat.lt_of_lt_of_le hk h.size) (fun e => by have:=(hI.own e.symm).1;omega)).trans (h.block k hk)⟩
theorem grownU_at {w w':World} {v:Value} {base k:Nat} {l:List (BitVec 64)} (hI:UR base v l w) (hg:w.grownBy w' v.ownBlock) (hk:k < w.heap.size) (hb:k < base):w'.heap[k]? = w.heap[k]?:=
 hg.block k hk (fun e => by have:=(hI.own e.symm).1;omega)
structure CFs (p:Pl) (lo hi:Nat) (L:Lay) (w0:World) (base:Nat) (vh:Value) (had:List (BitVec 64)) (bs:List (Nat × Obj)) (M:MS) (wr:World):Prop where
 b:CBs p lo hi L w0 bs M wr
 u:UR base vh had wr
 hb:hi ≤ base
 h0:w0.heap.size ≤ base
 sz:base ≤ wr.heap.size
 nb:∀ x ∈ bs,∀ g,vh.ownBlock = some g → x.1 ≠ g
section
variable {p:Pl} {lo hi:Nat} {L:Lay} {w0:World} {base:Nat} {vh:Value} {had:List (BitVec 64)} {bs:List (Nat × Obj)} {M M':MS} {wr wr':World}
theorem CFs.m (h:CFs p lo hi L w0 base vh had bs M wr):MemIn lo hi L M wr:=h.b.m
theorem CFs.mg (h:CFs p lo hi L w0 base vh had bs M wr):Mg p M:=h.b.mg
theorem CFs.ex (h:CFs p lo hi L w0 base vh had bs M wr):Ext w0 wr:=h.b.ex
theorem CFs.at (h:CFs p lo hi L w0 base vh had bs M wr) {b:Nat} {o:Obj} (hb:(b,o) ∈ bs):wr.heap[b]? = some o:=h.b.at hb
theorem CFs.ext (h:CFs p lo hi L w0 base vh had bs M wr) (hx:Ext wr wr'):CFs p lo hi L w0 base vh had bs M wr':=⟨h.b.ext hx,h.u.ext hx,h.hb,h.h0,Nat.le_trans h.sz hx.size,h.nb⟩
theorem CFs.ran (h:CFs p lo hi L w0 base vh had bs M wr) (hm:MemIn lo hi L M' wr') (hf:Fr lo hi wr wr') (hG:Mg p M') (h1:w0.heap.size ≤ lo):CFs p lo hi L w0 base vh had bs M' wr':=⟨h.b.ran hm hf hG h1,h.u.fr hf h.hb,h.hb,h.h0,Nat.le_trans h.sz hf.size,h.nb⟩
theorem CFs.new (h:CFs p lo hi L w0 base vh had bs M wr) (o:Obj):CFs p lo hi L w0 base vh had ((wr.heap.size,o) :: bs) M (wr.alloc o):=by
 refine ⟨h.b.new o,h.u.ext (ext_alloc o (ext_refl wr)),h.hb,h.h0,Nat.le_trans h.sz (ext_alloc o (ext_refl wr)).size,fun x hx g hg => ?_⟩
 rcases List.mem_cons.1 hx with rfl | hx
 ·obtain ⟨_,cur,hh⟩:=h.u.own hg
  have:=hp_lt hh
  show wr.heap.size ≠ g
  omega
 ·exact h.nb x hx g hg
theorem CFs.sub (h:CFs p lo hi L w0 base vh had bs M wr) {cs:List (Nat × Obj)} (hs:∀ x ∈ cs,x ∈ bs):CFs p lo hi L w0 base vh had cs M wr:=⟨h.b.sub hs,h.u,h.hb,h.h0,h.sz,fun x hx => h.nb x (hs x hx)⟩
theorem CFs.grow (h:CFs p lo hi L w0 base vh had bs M wr) {v':Value} {had':List (BitVec 64)} (hv:UR base v' had' wr') (hg:wr.grownBy wr' vh.ownBlock) (hn:v'.ownBlock = vh.ownBlock ∨ ∃ g,v'.ownBlock = some g ∧ wr.heap.size ≤ g):CFs p lo hi L w0 base v' had' bs M wr':=by
 have hlh:=h.b.m.top
 have hh:=h.hb
 refine ⟨⟨h.b.m.keep hg.size fun k _ hk => grownU_at h.u hg (by omega) (by omega),h.b.mg,grownU_ext h.b.ex h.u hg h.h0,fun x hx => ⟨(h.b.bx x hx).1,?_⟩⟩,hv,h.hb,h.h0,Nat.le_trans h.sz hg.size,fun x hx g hgb => ?_⟩
 ·exact (hg.block _ (heap_lt (h.b.bx x hx).2) fun e => h.nb x hx x.1 e.symm rfl).trans (h.b.bx x hx).2
 ·rcases hn with e | ⟨g',e,hle⟩
  ·exact h.nb x hx g (e ▸ hgb)
  ·rw [e] at hgb
   cases hgb
   have:=heap_lt (h.b.bx x hx).2
   omega
theorem CFs.begin (h:CBs p lo hi L w0 bs M wr):CFs p lo hi L w0 wr.heap.size (.slice none 0 0) [] bs M wr:=⟨h,UR.nil _ _,h.m.top,h.ex.size,Nat.le_refl _,fun _ _ g hg => by cases hg⟩
end
structure PickR where
 code:Int
 d:Int
 f:Int
 h:BitVec 64
 a:BitVec 64
 b:BitVec 64
 of:Int
 bit:Int
def pickKd (j:Nat):IntKind:=if j = 3 ∨ j = 4 ∨ j = 5 then .u64 else if j = 6 then .i8 else if j = 7 then .u8 else .i64
structure PkAt (w:World) (b o:Nat) (q:PickR):Prop where
 c0:w.cell? ⟨b,o,none⟩ = some (.int .i64 q.code)
 c1:w.cell? ⟨b,o+1,none⟩ = some (.int .i64 q.d)
 c2:w.cell? ⟨b,o+2,none⟩ = some (.int .i64 q.f)
 c3:w.cell? ⟨b,o+3,none⟩ = some (.int .u64 (U q.h))
 c4:w.cell? ⟨b,o+4,none⟩ = some (.int .u64 (U q.a))
 c5:w.cell? ⟨b,o+5,none⟩ = some (.int .u64 (U q.b))
 c6:w.cell? ⟨b,o+6,none⟩ = some (.int .i8 q.of)
 c7:w.cell? ⟨b,o+7,none⟩ = some (.int .u8 q.bit)
 l6 : -128 ≤ q.of ∧ q.of ≤ 127
 l7:0 ≤ q.bit ∧ q.bit ≤ 255
def Pks (w:World) (v:Value) (n:Nat) (f:Nat → PickR):Prop:=
 ∃ a0 cap,v = .slice a0 n cap ∧ n ≤ cap ∧ (0 < n → ∃ b o,a0 = some ⟨b,o,none⟩ ∧ b < w.heap.size ∧ ∀ i,i < n → PkAt w b (o+i * 8) (f i))
theorem PkAt.ext {w w':World} {b o:Nat} {q:PickR} (h:PkAt w b o q) (hb:Below w.heap.size w w'):PkAt w' b o q:=by
 have hl:=cell_lt h.c0
 have e:∀ k,w'.cell? ⟨b,k,none⟩ = w.cell? ⟨b,k,none⟩:=fun k => hb.cell (p:=⟨b,k,none⟩) hl
 exact ⟨(e _).trans h.c0,(e _).trans h.c1,(e _).trans h.c2,(e _).trans h.c3,(e _).trans h.c4,(e _).trans h.c5,(e _).trans h.c6,(e _).trans h.c7,h.l6,h.l7⟩
theorem Pks.ext {w w':World} {v:Value} {n:Nat} {f:Nat → PickR} (h:Pks w v n f) (hb:Below w.heap.size w w'):Pks w' v n f:=by
 obtain ⟨a0,cap,e,hc,hr⟩:=h
 refine ⟨a0,cap,e,hc,fun hl => ?_⟩
 obtain ⟨b,o,ea,hlt,hcell⟩:=hr hl
 exact ⟨b,o,ea,Nat.lt_of_lt_of_le hlt hb.size,fun i hi => (hcell i hi).ext hb⟩
theorem Pks.at {w:World} {a0:Option Addr} {m cap n:Nat} {f:Nat → PickR} (h:Pks w (.slice a0 m cap) n f) (hl:0 < n):∃ b o,a0 = some ⟨b,o,none⟩ ∧ b < w.heap.size ∧ ∀ i,i < n → PkAt w b (o+i * 8) (f i):=by
 obtain ⟨a,c',e,_,hr⟩:=h
 simp at e
 obtain ⟨rfl,rfl,rfl⟩:=e
 exact hr hl
theorem pks_of_rs {w:World} {v:Value} {n:Nat} {x:Nat → Nat → Int} (h:Rs 8 pickKd w v n x):Pks w v n (fun i => ⟨x i 0,x i 1,x i 2,toW (x i 3),toW (x i 4),toW (x i 5),x i 6,x i 7⟩):=by
 obtain ⟨a0,cap,e,hc,hr⟩:=h
 refine ⟨a0,cap,e,hc,fun hl => ?_⟩
 obtain ⟨b,o,ea,hlt,hcell⟩:=hr hl
 refine ⟨b,o,ea,hlt,fun i hi => ?_⟩
 have c:=fun j hj => hcell i hi j hj
 have c6:=c 6 (by omega)
 have c7:=c 7 (by omega)
 exact ⟨(c 0 (by omega)).1,(c 1 (by omega)).1,(c 2 (by omega)).1,by simp only [U_toW (c 3 (by omega)).2];exact (c 3 (by omega)).1,by simp only [U_toW (c 4 (by omega)).2];exact (c 4 (by omega)).1,by simp only [U_toW (c 5 (by omega)).2];exact (c 5 (by omega)).1,c6.1,c7.1,bounds_i8 c6.2,bounds_u8 c7.2⟩
section
variable {p:Pl} {lo hi:Nat} {L:Lay} {w0:World} {base:Nat} {vh:Value} {had:List (BitVec 64)} {bs:List (Nat × Obj)} {M:MS} {wr:World}
theorem CFs.setc {b:Nat} {cs:Array Value} {t:TypeId} (h:CFs p lo hi L w0 base vh had ((b,.cells cs t) :: bs) M wr) (j:Nat) (x:Value) (hb:hi ≤ b) (hn:∀ y ∈ bs,y.1 ≠ b) :
  CFs p lo hi L w0 base vh had ((b,.cells (cs.setIfInBounds j x) t) :: bs) M (wr.setCell ⟨b,j,none⟩ x):=by
 have h0:=h.b.bx _ (List.mem_cons_self ..)
 refine ⟨⟨h.b.m.setFar (p:=⟨b,j,none⟩) x (.inr hb),h.b.mg,ext_set (p:=⟨b,j,none⟩) x h0.1.2 h.b.ex,fun y hy => ?_⟩,h.u.keep fun g hg => set_other (o:=j) x fun e => h.nb _ (List.mem_cons_self ..) g hg e.symm,h.hb,h.h0,by rw [set_size];exact h.sz,fun y hy g hg => ?_⟩
 ·rcases List.mem_cons.1 hy with rfl | hy
  ·exact ⟨h0.1,set_same (o:=j) x h0.2⟩
  ·exact ⟨(h.b.bx y (List.mem_cons_of_mem _ hy)).1,(set_other (o:=j) x (hn y hy)).trans (h.b.bx y (List.mem_cons_of_mem _ hy)).2⟩
 ·rcases List.mem_cons.1 hy with rfl | hy
  ·exact h.nb (b,.cells cs t) (List.mem_cons_self ..) g hg
  ·exact h.nb y (List.mem_cons_of_mem _ hy) g hg
end
end Go.Proofs.YthjklbonebnekaaGreat

