/-
  A world in which nothing old has turned, under a name that the walk sees through; what a call that only makes memory of its own comes to. No conditions.
-/
import Derived.Test.YthjklbonebnekaaGreatRows
import Derived.WalkKit
import Derived.WalkSpells
import Derived.WalkLawsBesides
import Derived.Deep.QuietTactic
import Derived.BigQuiet
import Derived.Lib.Hide
import Derived.Deep.RegionWith
import Derived.Laws.Entries
import Derived.Laws.Bits64
set_option maxRecDepth 8000
set_option maxHeartbeats 4000000
namespace Go.Proofs.YthjklbonebnekaaGreat
open Go Go.RowKit
attribute [go_sem] Instr.field part asAgg
def Sub (w:World):Type:={ w':World // Below w.heap.size w w' }
def over (w:World) (s:Sub w):World:=s.1
theorem sub_nonempty (w:World):Nonempty (Sub w):=⟨⟨w,Below.refl _ _⟩⟩
attribute [instance] sub_nonempty
theorem over_below (w:World) (s:Sub w):Below w.heap.size w (over w s):=s.2
theorem over_of {w w':World} (h:Below w.heap.size w w'):∃ s,w' = over w s:=⟨⟨w',h⟩,rfl⟩
def Sub.comp {w:World} (s:Sub w) (s':Sub (over w s)):Sub w:=⟨over (over w s) s',(over_below w s).trans ((over_below _ s').mono (over_below w s).size)⟩
theorem over_over (w:World) (s:Sub w) (s':Sub (over w s)):over (over w s) s' = over w (s.comp s'):=rfl
attribute [irreducible] over
theorem over_size (w:World) (s:Sub w):w.heap.size ≤ (over w s).heap.size:=(over_below w s).size
theorem over_lt (w:World) (s:Sub w) (n:Nat) (h:n < w.heap.size):(n < (over w s).heap.size) = True:=by
 have:=over_size w s
 simp;omega
theorem over_lt1 (w:World) (s:Sub w) (n:Nat) (h:n < w.heap.size):(n < (over w s).heap.size+1) = True:=by
 have:=over_size w s
 simp;omega
theorem over_cell (w:World) (s:Sub w) (b o:Nat) (h:b < w.heap.size):(over w s).cell? ⟨b,o,none⟩ = w.cell? ⟨b,o,none⟩:=(over_below w s).cell (p:=⟨b,o,none⟩) h
theorem over_frozen (w:World) (s:Sub w) (b o:Nat) (h:b < w.heap.size):(over w s).frozen? ⟨b,o,none⟩ = w.frozen? ⟨b,o,none⟩:=(over_below w s).frozen (p:=⟨b,o,none⟩) h
attribute [go_sem] over_over over_lt over_lt1 over_cell over_frozen
def Ret (v:Value) (w:World) (e:Ending) (w':World):Prop:=e = .returned v ∧ Below w.heap.size w w'
theorem Ret.over {v:Value} {w:World} {e:Ending} {w':World} (h:Ret v w e w'):e = .returned v ∧ ∃ s,w' = YthjklbonebnekaaGreat.over w s:=⟨h.1,over_of h.2⟩
theorem Ret.mk {v:Value} {w w':World} (h:Below w.heap.size w w'):Ret v w (.returned v) w':=⟨rfl,h⟩
theorem Ret.int {k:IntKind} {x y:Int} {w w':World} (e:y = x) (h:Below w.heap.size w w'):Ret (.int k x) w (.returned (.int k y)) w':=⟨by rw [e],h⟩
theorem Ret.bool {x y:Bool} {w w':World} (e:y = x) (h:Below w.heap.size w w'):Ret (.bool x) w (.returned (.bool y)) w':=⟨by rw [e],h⟩
theorem ext_refl (w:World):Below w.heap.size w w:=Below.refl _ _
abbrev Ext (u X:World):Prop:=Below u.heap.size u X
theorem ext_cell {u X:World} {b o:Nat} {v:Value} (h:Below u.heap.size u X) (hc:u.cell? ⟨b,o,none⟩ = some v):X.cell? ⟨b,o,none⟩ = some v:=
 (h.cell (p:=⟨b,o,none⟩) (World.block_lt_of_cell? u ⟨b,o,none⟩ hc)).trans hc
theorem cell_lt {u:World} {b o:Nat} {v:Value} (hc:u.cell? ⟨b,o,none⟩ = some v):b < u.heap.size:=World.block_lt_of_cell? u ⟨b,o,none⟩ hc
theorem ext_trans {w u v:World} (h:Below w.heap.size w u) (k:Below u.heap.size u v):Below w.heap.size w v:=h.trans (k.mono h.size)
theorem ext_over {w u:World} (s:Sub u) (h:Below w.heap.size w u):Below w.heap.size w (over u s):=ext_trans h (over_below u s)
theorem ext_alloc {w u:World} (o:Obj) (h:Below w.heap.size w u):Below w.heap.size w (u.alloc o):=h.alloc h.size o
theorem ext_drew {w u:World} (h:Below w.heap.size w u):Below w.heap.size w u.drew:=h.drew
theorem ext_set {w u:World} {p:Addr} (x:Value) (hp:w.heap.size ≤ p.block) (h:Below w.heap.size w u):Below w.heap.size w (u.setCell p x):=h.setCell hp x
theorem hid_yes {p:Prop} (h:p):Hid (true = true ↔ p):=⟨fun _ => h,fun _ => rfl⟩
theorem hid_no {p:Prop} (h:¬ p):Hid (false = true ↔ p):=⟨fun e => absurd e (by decide),fun hp => absurd hp h⟩
theorem wp_region_over {P:Program} {id:Nat} {Q:Exit → Act → World → Prop} {a:Act} {w:World} {l:List Oper} (hm:P.follows .mixedOrders = true) (hB:Region.lexB .any l.toArray = true)
  (h:wpQuiet P l.toArray (fun w' => ∃ s,w' = over w s) (fun a' => ∀ w',(∃ s,w' = over w s) → Q .normal a' w') l a):(Code.region id l.toArray true).wp P Q a w:=
 wp_region_quiet (C:=fun w' => ∃ s,w' = over w s) hm hB (over_of (Below.refl _ _).drew) (by simpa using h)
theorem wp_region_over2 {P:Program} {id:Nat} {Q:Exit → Act → World → Prop} {a:Act} {w:World} {s:Sub w} {l:List Oper} (hm:P.follows .mixedOrders = true) (hB:Region.lexB .any l.toArray = true)
  (h:wpQuiet P l.toArray (fun w' => ∃ s,w' = over w s) (fun a' => ∀ w',(∃ s,w' = over w s) → Q .normal a' w') l a):(Code.region id l.toArray true).wp P Q a (over w s):=
 wp_region_quiet (C:=fun w' => ∃ s,w' = over w s) hm hB (over_of (over_below w s).drew) (by simpa using h)
theorem over_call {P:Program} {f:FuncId} {args:Array Value} {w:World} {s:Sub w} {v:Value} (h:Calls P f args (over w s) (Ret v (over w s))) :
  Calls P f args (over w s) fun e w'' => e = .returned v ∧ ∃ s',w'' = over w s':=
 h.mono fun _ _ ⟨he,hb⟩ => ⟨he,over_of (ext_trans (over_below w s) hb)⟩
structure Fr (lo hi:Nat) (w w':World):Prop where
 os:w'.os = w.os
 tape:w'.tape = w.tape
 output:w'.output = w.output
 size:w.heap.size ≤ w'.heap.size
 block:∀ k,k < w.heap.size → (k < lo ∨ hi ≤ k) → w'.heap[k]? = w.heap[k]?
theorem Fr.refl (lo hi:Nat) (w:World):Fr lo hi w w:=⟨rfl,rfl,rfl,Nat.le_refl _,fun _ _ _ => rfl⟩
theorem Fr.trans {lo hi:Nat} {a b c:World} (h:Fr lo hi a b) (k:Fr lo hi b c):Fr lo hi a c:=
 ⟨k.os.trans h.os,k.tape.trans h.tape,k.output.trans h.output,Nat.le_trans h.size k.size,fun i hi' ho => (k.block i (Nat.lt_of_lt_of_le hi' h.size) ho).trans (h.block i hi' ho)⟩
theorem Fr.of_ext {lo hi:Nat} {w w':World} (h:Ext w w'):Fr lo hi w w':=⟨h.os,h.tape,h.output,h.size,fun k hk _ => h.block k hk⟩
theorem Fr.ext {lo hi:Nat} {a w w':World} (h:Fr lo hi a w) (k:Ext w w'):Fr lo hi a w':=h.trans (.of_ext k)
theorem Fr.below {lo hi:Nat} {u w w':World} (h:Fr lo hi w w') (hu:Ext u w) (hlo:u.heap.size ≤ lo):Ext u w':=
 ⟨h.os.trans hu.os,h.tape.trans hu.tape,h.output.trans hu.output,Nat.le_trans hu.size h.size,fun k hk => (h.block k (Nat.lt_of_lt_of_le hk hu.size) (by omega)).trans (hu.block k hk)⟩
theorem Fr.cell {lo hi:Nat} {w w':World} (h:Fr lo hi w w') {b o:Nat} (hb:b < w.heap.size) (hn:b < lo ∨ hi ≤ b):w'.cell? ⟨b,o,none⟩ = w.cell? ⟨b,o,none⟩:=
 World.cell?_of_block (w:=w) (a:=⟨b,o,none⟩) (h.block b hb hn)
theorem Fr.frozen {lo hi:Nat} {w w':World} (h:Fr lo hi w w') {b o:Nat} (hb:b < w.heap.size) (hn:b < lo ∨ hi ≤ b):w'.frozen? ⟨b,o,none⟩ = w.frozen? ⟨b,o,none⟩:=
 World.frozen?_of_block (w:=w) (a:=⟨b,o,none⟩) (h.block b hb hn)
theorem Fr.alloc {lo hi:Nat} {a w:World} (o:Obj) (h:Fr lo hi a w):Fr lo hi a (w.alloc o):=h.ext (ext_alloc o (ext_refl w))
theorem Fr.drew {lo hi:Nat} {a w:World} (h:Fr lo hi a w):Fr lo hi a w.drew:=h.ext (ext_drew (ext_refl w))
theorem Fr.set {lo hi:Nat} {a w:World} {p:Addr} (x:Value) (h:Fr lo hi a w) (h1:lo ≤ p.block) (h2:p.block < hi):Fr lo hi a (w.setCell p x):=
 h.trans ⟨rfl,rfl,rfl,by simp [World.setCell],fun k _ ho => Below.heap_setCell _ _ _ _ (by omega)⟩
theorem Fr.setNew {lo hi:Nat} {a w:World} {p:Addr} (x:Value) (h:Fr lo hi a w) (hp:a.heap.size ≤ p.block):Fr lo hi a (w.setCell p x):=
 ⟨h.os,h.tape,h.output,by simpa [World.setCell] using h.size,fun k hk ho => (Below.heap_setCell _ _ _ _ (by omega)).trans (h.block k hk ho)⟩
theorem Fr.grown {lo hi:Nat} {a w w':World} {row:Option Nat} (h:Fr lo hi a w) (hg:w.grownBy w' row) (hr:∀ k,row = some k → (lo ≤ k ∧ k < hi) ∨ a.heap.size ≤ k):Fr lo hi a w':=
 ⟨hg.os.trans h.os,hg.tape.trans h.tape,hg.output.trans h.output,Nat.le_trans h.size hg.size,fun k hk ho => (hg.block k (Nat.lt_of_lt_of_le hk h.size) (fun e => by have:=hr k e.symm;omega)).trans (h.block k hk ho)⟩
def Off (lo hi:Nat) (w:World):Type:={ w':World // Fr lo hi w w' }
def off (lo hi:Nat) (w:World) (s:Off lo hi w):World:=s.1
theorem off_nonempty (lo hi:Nat) (w:World):Nonempty (Off lo hi w):=⟨⟨w,.refl lo hi w⟩⟩
attribute [instance] off_nonempty
theorem off_fr (lo hi:Nat) (w:World) (s:Off lo hi w):Fr lo hi w (off lo hi w s):=s.2
theorem off_of {lo hi:Nat} {w w':World} (h:Fr lo hi w w'):∃ s,w' = off lo hi w s:=⟨⟨w',h⟩,rfl⟩
attribute [irreducible] off
theorem off_cell_lt (lo hi:Nat) (w:World) (s:Off lo hi w) (b o:Nat) (h:b < w.heap.size) (hn:b < lo):(off lo hi w s).cell? ⟨b,o,none⟩ = w.cell? ⟨b,o,none⟩:=(off_fr lo hi w s).cell h (.inl hn)
theorem off_cell_ge (lo hi:Nat) (w:World) (s:Off lo hi w) (b o:Nat) (h:b < w.heap.size) (hn:hi ≤ b):(off lo hi w s).cell? ⟨b,o,none⟩ = w.cell? ⟨b,o,none⟩:=(off_fr lo hi w s).cell h (.inr hn)
theorem off_lt (lo hi:Nat) (w:World) (s:Off lo hi w) (n:Nat) (h:n < w.heap.size):(n < (off lo hi w s).heap.size) = True:=by
 have:=(off_fr lo hi w s).size
 simp;omega
attribute [go_sem] off_cell_lt off_cell_ge off_lt
def off1 (b0:Nat) (w:World) (s:Off b0 (b0+1) w):World:=s.1
theorem off1_fr (b0:Nat) (w:World) (s:Off b0 (b0+1) w):Fr b0 (b0+1) w (off1 b0 w s):=s.2
theorem off1_of {b0:Nat} {w w':World} (h:Fr b0 (b0+1) w w'):∃ s,w' = off1 b0 w s:=⟨⟨w',h⟩,rfl⟩
attribute [irreducible] off1
theorem off1_cell (b0:Nat) (w:World) (s:Off b0 (b0+1) w) (b o:Nat) (h:b < w.heap.size) (hn:b ≠ b0):(off1 b0 w s).cell? ⟨b,o,none⟩ = w.cell? ⟨b,o,none⟩:=(off1_fr b0 w s).cell h (by omega)
theorem off1_lt (b0:Nat) (w:World) (s:Off b0 (b0+1) w) (n:Nat) (h:n < w.heap.size):(n < (off1 b0 w s).heap.size) = True:=by
 have:=(off1_fr b0 w s).size
 simp;omega
attribute [go_sem] off1_cell off1_lt
theorem hp_lt {w:World} {b:Nat} {o:Obj} (h:w.heap[b]? = some o):b < w.heap.size:=(Array.getElem?_eq_some_iff.1 h).1
theorem hp_at (w:World) (o:Obj) (b:Nat) (hb:b = w.heap.size):(w.alloc o).heap[b]? = some o:=by
 subst hb
 show (w.heap.push _)[w.heap.size]? = _
 simp
theorem cell_at {w:World} {b o:Nat} {c:Array Value} {t:TypeId} {f:Nat × Nat} {v:Value} (h:w.heap[b]? = some (.cells c t f)) (hc:c[o]? = some v):w.cell? ⟨b,o,none⟩ = some v:=by
 simp [World.cell?,h,hc]
theorem free_at {w:World} {b o:Nat} {c:Array Value} {t:TypeId} (h:w.heap[b]? = some (.cells c t (0,0))):w.frozen? ⟨b,o,none⟩ = false:=by
 simp [World.frozen?,h]
theorem set_same {w:World} {b o:Nat} {c:Array Value} {t:TypeId} {f:Nat × Nat} (x:Value) (h:w.heap[b]? = some (.cells c t f)):(w.setCell ⟨b,o,none⟩ x).heap[b]? = some (.cells (c.setIfInBounds o x) t f):=by
 simp [World.setCell,Array.getElem?_modify,h]
theorem set_other {w:World} {b o k:Nat} (x:Value) (h:k ≠ b):(w.setCell ⟨b,o,none⟩ x).heap[k]? = w.heap[k]?:=Below.heap_setCell w ⟨b,o,none⟩ x k h
theorem set_size (w:World) (p:Addr) (x:Value):(w.setCell p x).heap.size = w.heap.size:=by simp [World.setCell]
theorem block_ne {w:World} {b b':Nat} {c c':Array Value} {t t':TypeId} {f f':Nat × Nat} (h:w.heap[b]? = some (.cells c t f)) (h':w.heap[b']? = some (.cells c' t' f')) (hn:t ≠ t'):b ≠ b':=by
 intro e
 subst e
 rw [h] at h'
 simp at h'
 exact hn h'.2.1
end Go.Proofs.YthjklbonebnekaaGreat
namespace Go.Proofs.YthjklbonebnekaaGreat
def mostN (b:Int):BitVec 64:=BitVec.allOnes 64 >>> (64 - b.toNat)
def maskN (a b:Int):BitVec 64:=mostN b <<< a.toNat
def getN (a b:Int) (w:BitVec 64):BitVec 64:=(w &&& maskN a b) >>> a.toNat
def putN (a b:Int) (w v:BitVec 64):BitVec 64:=(w &&& ~~~ (maskN a b)) ||| ((v <<< a.toNat) &&& maskN a b)
def Fm (a b:Int):Prop:=0 ≤ a ∧ a < 64 ∧ 1 ≤ b ∧ b ≤ 64 - a
theorem bv_eq {x y:BitVec 64} (h:∀ i,i < 64 → x.getLsbD i = y.getLsbD i):x = y:=BitVec.eq_of_getLsbD_eq h
theorem mostN_bit (b:Int) (i:Nat) (h1:0 ≤ b) (h2:b ≤ 64):(mostN b).getLsbD i = decide ((i:Int) < b):=by
 unfold mostN
 rw [BitVec.getLsbD_ushiftRight,BitVec.getLsbD_allOnes]
 simp only [decide_eq_decide];omega
theorem maskN_bit (a b:Int) (i:Nat) (h:Fm a b) (hi:i < 64):(maskN a b).getLsbD i = decide (a ≤ i ∧ (i:Int) < a+b):=by
 obtain ⟨h1,h2,h3,h4⟩:=h
 unfold maskN
 rw [BitVec.getLsbD_shiftLeft,mostN_bit b _ (by omega) (by omega)]
 by_cases e:i < a.toNat
 ·simp [hi,e];omega
 ·simp only [hi,e,decide_true,decide_false,Bool.not_false,Bool.true_and,decide_eq_decide];omega
theorem getN_bit (a b:Int) (w:BitVec 64) (i:Nat) (h:Fm a b):(getN a b w).getLsbD i = (decide ((i:Int) < b) && w.getLsbD (a.toNat+i)):=by
 unfold getN
 rw [BitVec.getLsbD_ushiftRight,BitVec.getLsbD_and]
 by_cases e:a.toNat+i < 64
 ·rw [maskN_bit a b _ h e]
  obtain ⟨h1,h2,h3,h4⟩:=h
  rw [Bool.and_comm]
  congr 1
  simp only [decide_eq_decide];omega
 ·rw [BitVec.getLsbD_of_ge w _ (by omega)];simp
theorem putN_bit (a b:Int) (w v:BitVec 64) (i:Nat) (h:Fm a b) (hi:i < 64) :
  (putN a b w v).getLsbD i = if a ≤ i ∧ (i:Int) < a+b then v.getLsbD (i - a.toNat) else w.getLsbD i:=by
 unfold putN
 rw [BitVec.getLsbD_or,BitVec.getLsbD_and,BitVec.getLsbD_and,BitVec.getLsbD_not,maskN_bit a b i h hi,BitVec.getLsbD_shiftLeft]
 obtain ⟨h1,h2,h3,h4⟩:=h
 by_cases e:a ≤ i ∧ (i:Int) < a+b
 ·have:¬ i < a.toNat:=by omega
  simp [e,hi,this]
 ·simp [e,hi]
theorem ofInt_toNat (x:BitVec 64):BitVec.ofInt 64 (x.toNat:Int) = x:=by
 apply BitVec.eq_of_toNat_eq
 rw [BitVec.ofInt_natCast,BitVec.toNat_ofNat]
 exact Nat.mod_eq_of_lt x.isLt
theorem toNat_of_wrap (x:BitVec 64):IntKind.u64.wrap (x.toNat:Int) = x.toNat:=by
 rw [IntKind.wrap_u64];have:=x.isLt;omega
theorem shr_toNat (x:BitVec 64) (n:Nat):(x.toNat:Int) / 2 ^ n = ((x >>> n).toNat:Int):=by
 rw [BitVec.toNat_ushiftRight,Nat.shiftRight_eq_div_pow];simp
theorem ones_shr (n:Nat):(18446744073709551615:Int) / 2 ^ n = ((BitVec.allOnes 64 >>> n).toNat:Int):=by
 rw [← shr_toNat];rfl
theorem shl_toNat (x:BitVec 64) (n:Nat):(x.toNat:Int) * 2 ^ n % 18446744073709551616 = ((x <<< n).toNat:Int):=by
 rw [BitVec.toNat_shiftLeft,Nat.shiftLeft_eq];simp
def U (x:BitVec 64):Int:=(x.toNat:Int)
theorem U_inj {x y:BitVec 64} (h:U x = U y):x = y:=BitVec.eq_of_toNat_eq (by unfold U at h;omega)
theorem U_nonneg (x:BitVec 64):0 ≤ U x:=by unfold U;omega
theorem U_lt (x:BitVec 64):U x < 18446744073709551616:=by have:=x.isLt;unfold U;omega
theorem wrap_shl (x:BitVec 64) (n:Nat):IntKind.u64.wrap (U x * 2 ^ n) = U (x <<< n):=by
 rw [IntKind.wrap_u64];exact shl_toNat x n
theorem div_shr (x:BitVec 64) (n:Nat):U x / 2 ^ n = U (x >>> n):=shr_toNat x n
theorem bits_and (x y:BitVec 64):bits .and .u64 (U x) (U y) = U (x &&& y):=by
 show IntKind.u64.wrap ((BitVec.ofInt 64 (x.toNat:Int) &&& BitVec.ofInt 64 (y.toNat:Int)).toNat:Int) = _
 rw [ofInt_toNat,ofInt_toNat,toNat_of_wrap,U]
theorem bits_or (x y:BitVec 64):bits .or .u64 (U x) (U y) = U (x ||| y):=by
 show IntKind.u64.wrap ((BitVec.ofInt 64 (x.toNat:Int) ||| BitVec.ofInt 64 (y.toNat:Int)).toNat:Int) = _
 rw [ofInt_toNat,ofInt_toNat,toNat_of_wrap,U]
theorem bits_xor (x y:BitVec 64):bits .xor .u64 (U x) (U y) = U (x ^^^ y):=by
 show IntKind.u64.wrap ((BitVec.ofInt 64 (x.toNat:Int) ^^^ BitVec.ofInt 64 (y.toNat:Int)).toNat:Int) = _
 rw [ofInt_toNat,ofInt_toNat,toNat_of_wrap,U]
theorem bits_andNot (x y:BitVec 64):bits .andNot .u64 (U x) (U y) = U (x &&& ~~~ y):=by
 show IntKind.u64.wrap ((BitVec.ofInt 64 (x.toNat:Int) &&& ~~~ BitVec.ofInt 64 (y.toNat:Int)).toNat:Int) = _
 rw [ofInt_toNat,ofInt_toNat,toNat_of_wrap,U]
theorem wrap_pow (n:Nat):IntKind.u64.wrap (2 ^ n) = U (1#64 <<< n):=by
 have h:=wrap_shl 1#64 n
 rw [show U 1#64 = 1 from by decide,Int.one_mul] at h
 exact h
attribute [go_sem] wrap_pow
attribute [go_sem] wrap_shl div_shr bits_and bits_or bits_xor bits_andNot
theorem U_of (x:BitVec 64) (n:Int) (h:(x.toNat:Int) = n):U x = n:=h
theorem U_toNat (x:BitVec 64):U x = (x.toNat:Int):=rfl
theorem mostN_def (b:Int):mostN b = BitVec.allOnes 64 >>> (64 - b.toNat):=rfl
theorem maskN_def (a b:Int):maskN a b = mostN b <<< a.toNat:=rfl
theorem getN_def (a b:Int) (w:BitVec 64):getN a b w = (w &&& maskN a b) >>> a.toNat:=rfl
theorem putN_def (a b:Int) (w v:BitVec 64):putN a b w v = (w &&& ~~~ (maskN a b)) ||| ((v <<< a.toNat) &&& maskN a b):=rfl
theorem U_0:U 0#64 = 0:=U_of _ _ (by decide)
attribute [irreducible] U mostN maskN getN putN
end Go.Proofs.YthjklbonebnekaaGreat
namespace Go.Proofs.YthjklbonebnekaaGreat
open Go Go.RowKit
structure Lay where
 bm:Nat
 br:Nat
 ra:Option Addr
 cap:Nat
 rb:Nat → Nat
 wb:Nat → Nat
 wc:Nat → Nat
structure MS where
 n:Nat
 sz:Nat → Nat
 wd:Nat → Nat → BitVec 64
 ep:Nat → BitVec 64
 ct:Int
structure MemIn (lo hi:Nat) (L:Lay) (M:MS) (w:World):Prop where
 top:hi ≤ w.heap.size
 few:M.n ≤ 65
 small:∀ i,i < M.n → M.sz i ≤ 16777216
 mIn:lo ≤ L.bm ∧ L.bm < hi
 m:w.heap[L.bm]? = some (.cells #[.slice L.ra M.n L.cap,.int .i64 M.ct] 200 (0,0))
 r:0 < M.n → L.ra = some ⟨L.br,0,none⟩ ∧ lo ≤ L.br ∧ L.br < hi ∧ ∃ cur,w.heap[L.br]? = some (.cells cur 157 (0,0)) ∧ ∀ i,i < M.n → cur[i]? = some (.pointer (some ⟨L.rb i,0,none⟩))
 reg:∀ i,i < M.n → lo ≤ L.rb i ∧ L.rb i < hi ∧ w.heap[L.rb i]? = some (.cells #[.slice (some ⟨L.wb i,0,none⟩) (M.sz i) (L.wc i),.int .u64 (U (M.ep i))] 160 (0,0))
 wds:∀ i,i < M.n → lo ≤ L.wb i ∧ L.wb i < hi ∧ ∃ cur,w.heap[L.wb i]? = some (.cells cur 40 (0,0)) ∧ M.sz i ≤ cur.size ∧ ∀ j,j < M.sz i → cur[j]? = some (.int .u64 (U (M.wd i j)))
 rinj:∀ i j,i < M.n → j < M.n → L.rb i = L.rb j → i = j
 winj:∀ i j,i < M.n → j < M.n → L.wb i = L.wb j → i = j
section
variable {lo hi:Nat} {L:Lay} {M:MS} {w w':World}
theorem MemIn.keep (h:MemIn lo hi L M w) (hs:w.heap.size ≤ w'.heap.size) (hb:∀ k,lo ≤ k → k < hi → w'.heap[k]? = w.heap[k]?):MemIn lo hi L M w' where
 top:=Nat.le_trans h.top hs
 few:=h.few
 small:=h.small
 mIn:=h.mIn
 m:=by rw [hb _ h.mIn.1 h.mIn.2];exact h.m
 r:=fun hn => by
  obtain ⟨h1,h2,h3,cur,h4,h5⟩:=h.r hn
  exact ⟨h1,h2,h3,cur,by rw [hb _ h2 h3];exact h4,h5⟩
 reg:=fun i hi' => by
  obtain ⟨h1,h2,h3⟩:=h.reg i hi'
  exact ⟨h1,h2,by rw [hb _ h1 h2];exact h3⟩
 wds:=fun i hi' => by
  obtain ⟨h1,h2,cur,h3,h4⟩:=h.wds i hi'
  exact ⟨h1,h2,cur,by rw [hb _ h1 h2];exact h3,h4⟩
 rinj:=h.rinj
 winj:=h.winj
theorem MemIn.ext (h:MemIn lo hi L M w) (hb:Ext w w'):MemIn lo hi L M w':=h.keep hb.size fun k _ hk => hb.block k (Nat.lt_of_lt_of_le hk h.top)
theorem MemIn.over (h:MemIn lo hi L M w) (s:Sub w):MemIn lo hi L M (over w s):=h.ext (over_below w s)
theorem MemIn.alloc (h:MemIn lo hi L M w) (o:Obj):MemIn lo hi L M (w.alloc o):=h.ext (ext_alloc o (ext_refl w))
theorem MemIn.drew (h:MemIn lo hi L M w):MemIn lo hi L M w.drew:=h.ext (ext_drew (ext_refl w))
theorem MemIn.setFar {p:Addr} (h:MemIn lo hi L M w) (x:Value) (hp:p.block < lo ∨ hi ≤ p.block):MemIn lo hi L M (w.setCell p x):=
 h.keep (by rw [set_size];exact Nat.le_refl _) fun k h1 h2 => Below.heap_setCell _ _ _ _ (by omega)
theorem MemIn.lt (h:MemIn lo hi L M w) {k:Nat} (hk:k < hi):k < w.heap.size:=Nat.lt_of_lt_of_le hk h.top
theorem MemIn.m0 (h:MemIn lo hi L M w):w.cell? ⟨L.bm,0,none⟩ = some (.slice L.ra M.n L.cap):=cell_at h.m rfl
theorem MemIn.m1 (h:MemIn lo hi L M w):w.cell? ⟨L.bm,1,none⟩ = some (.int .i64 M.ct):=cell_at h.m rfl
theorem MemIn.mz (h:MemIn lo hi L M w) (o:Nat):w.frozen? ⟨L.bm,o,none⟩ = false:=free_at h.m
theorem MemIn.p (h:MemIn lo hi L M w) {i:Nat} (hi':i < M.n):w.cell? ⟨L.br,i,none⟩ = some (.pointer (some ⟨L.rb i,0,none⟩)):=by
 obtain ⟨_,_,_,cur,h4,h5⟩:=h.r (by omega)
 exact cell_at h4 (h5 i hi')
theorem MemIn.r0 (h:MemIn lo hi L M w) {i:Nat} (hi':i < M.n):w.cell? ⟨L.rb i,0,none⟩ = some (.slice (some ⟨L.wb i,0,none⟩) (M.sz i) (L.wc i)):=cell_at (h.reg i hi').2.2 rfl
theorem MemIn.r1 (h:MemIn lo hi L M w) {i:Nat} (hi':i < M.n):w.cell? ⟨L.rb i,1,none⟩ = some (.int .u64 (U (M.ep i))):=cell_at (h.reg i hi').2.2 rfl
theorem MemIn.x (h:MemIn lo hi L M w) {i j:Nat} (hi':i < M.n) (hj:j < M.sz i):w.cell? ⟨L.wb i,j,none⟩ = some (.int .u64 (U (M.wd i j))):=by
 obtain ⟨_,_,cur,h3,_,h5⟩:=h.wds i hi'
 exact cell_at h3 (h5 j hj)
theorem MemIn.xz (h:MemIn lo hi L M w) {i:Nat} (hi':i < M.n) (o:Nat):w.frozen? ⟨L.wb i,o,none⟩ = false:=by
 obtain ⟨_,_,cur,h3,_⟩:=h.wds i hi'
 exact free_at h3
def MS.put (M:MS) (i j:Nat) (x:BitVec 64):MS:={ M with wd:=fun a b => if a = i ∧ b = j then x else M.wd a b }
def MS.tick (M:MS):MS:={ M with ct:=wrap64 (M.ct+1) }
theorem MemIn.setWord (h:MemIn lo hi L M w) {i j:Nat} (hi':i < M.n) (hj:j < M.sz i) (x:BitVec 64):MemIn lo hi L (M.put i j x) (w.setCell ⟨L.wb i,j,none⟩ (.int .u64 (U x))):=by
 obtain ⟨hw1,hw2,cur,hw3,hw4,hw5⟩:=h.wds i hi'
 refine ⟨by rw [set_size];exact h.top,h.few,h.small,h.mIn,?_,fun hn => ?_,fun a ha => ?_,fun a ha => ?_,h.rinj,h.winj⟩
 ·rw [set_other _ (block_ne h.m hw3 (by decide))];exact h.m
 ·obtain ⟨h1,h2,h3,cur',h4,h5⟩:=h.r hn
  exact ⟨h1,h2,h3,cur',by rw [set_other _ (block_ne h4 hw3 (by decide))];exact h4,h5⟩
 ·obtain ⟨h1,h2,h3⟩:=h.reg a ha
  exact ⟨h1,h2,by rw [set_other _ (block_ne h3 hw3 (by decide))];exact h3⟩
 ·by_cases e:a = i
  ·subst e
   refine ⟨hw1,hw2,cur.setIfInBounds j (.int .u64 (U x)),set_same _ hw3,by simpa [MS.put] using hw4,fun b hb => ?_⟩
   show _ = some (Value.int .u64 (U (if a = a ∧ b = j then x else M.wd a b)))
   rw [Array.getElem?_setIfInBounds]
   by_cases e2:j = b
   ·subst e2
    have:j < cur.size:=Nat.lt_of_lt_of_le hj hw4
    simp [this]
   ·rw [if_neg e2,if_neg (fun hh => e2 hh.2.symm)]
    exact hw5 b hb
  ·obtain ⟨h1,h2,cur',h3,h4,h5⟩:=h.wds a ha
   refine ⟨h1,h2,cur',by rw [set_other _ (fun hh => e (h.winj a i ha hi' hh))];exact h3,h4,fun b hb => ?_⟩
   show _ = some (Value.int .u64 (U (if a = i ∧ b = j then x else M.wd a b)))
   rw [if_neg (fun hh => e hh.1)]
   exact h5 b hb
theorem MemIn.setCount (h:MemIn lo hi L M w):MemIn lo hi L M.tick (w.setCell ⟨L.bm,1,none⟩ (.int .i64 (wrap64 (M.ct+1)))):=by
 refine ⟨by rw [set_size];exact h.top,h.few,h.small,h.mIn,?_,fun hn => ?_,fun a ha => ?_,fun a ha => ?_,h.rinj,h.winj⟩
 ·rw [set_same _ h.m];rfl
 ·obtain ⟨h1,h2,h3,cur',h4,h5⟩:=h.r hn
  exact ⟨h1,h2,h3,cur',by rw [set_other _ (block_ne h4 h.m (by decide))];exact h4,h5⟩
 ·obtain ⟨h1,h2,h3⟩:=h.reg a ha
  exact ⟨h1,h2,by rw [set_other _ (block_ne h3 h.m (by decide))];exact h3⟩
 ·obtain ⟨h1,h2,cur',h3,h4⟩:=h.wds a ha
  exact ⟨h1,h2,cur',by rw [set_other _ (block_ne h3 h.m (by decide))];exact h3,h4⟩
end
def nextW (op:Int) (was a b:BitVec 64):BitVec 64:=if op = 1 then a else if op = 2 ∧ was = a then b else if op = 3 then was+a else was
def Good (M:MS) (r:Int) (e:BitVec 64):Prop:=0 ≤ r ∧ r < M.n ∧ M.ep r.toNat = e
def DoOk (M:MS) (r:Int) (e:BitVec 64) (op at_:Int):Prop:=Good M r e ∧ 0 ≤ at_ ∧ at_ < M.sz r.toNat ∧ 0 ≤ op ∧ op ≤ 3
def MS.done (M:MS) (r op at_:Int) (a b:BitVec 64):MS:=(M.put r.toNat at_.toNat (nextW op (M.wd r.toNat at_.toNat) a b)).tick
def RetM (lo hi:Nat) (L:Lay) (M':MS) (v:Value) (w:World) (e:Ending) (w':World):Prop:=e = .returned v ∧ MemIn lo hi L M' w' ∧ Fr lo hi w w'
end Go.Proofs.YthjklbonebnekaaGreat

