/-
  A plan, and where its words are, in plain numbers. Conditions: those of each theorem.
-/
import Derived.Test.YthjklbonebnekaaGreatGab
import Derived.Test.YthjklbonebnekaaGreatGac
import Derived.Test.YthjklbonebnekaaGreatGai
import Derived.Deep.Cut
set_option maxRecDepth 8000
set_option maxHeartbeats 4000000
namespace Go.Proofs.YthjklbonebnekaaGreat
open Go Go.RowKit
structure Pl where
 n:Int
 t:Int
 r:Int
 d:Int
 b:Int
 g:Int
def Pl.ok (p:Pl):Prop:=(1 ≤ p.n ∧ p.n ≤ 1048576) ∧ (1 ≤ p.t ∧ p.t ≤ 16) ∧ (3 * p.t+1 ≤ p.r ∧ p.r ≤ 1024) ∧ (0 ≤ p.d ∧ p.d ≤ 64) ∧ (1 ≤ p.b ∧ p.b ≤ 256) ∧ (1 ≤ p.g ∧ p.g ≤ 1073741823)
instance plOkDec (p:Pl):Decidable p.ok:=by unfold Pl.ok;infer_instance
def Pl.c (p:Pl):Int:=if 2 < p.b then p.b else 2
theorem Pl.c_le (p:Pl):2 ≤ p.c:=by unfold Pl.c;split <;> omega
theorem Pl.c_ge (p:Pl) (h:p.b ≤ 256):p.c ≤ 256:=by unfold Pl.c;split <;> omega
def Pl.dom (p:Pl) (x:Int):Int:=1+x * (1+p.c)
def Pl.haz (p:Pl) (x:Int):Int:=p.dom p.d+x * 3
def Pl.cnt (p:Pl) (x:Int):Int:=p.haz p.t+x * (1+p.r)
def Pl.nod (p:Pl) (x:Int):Int:=p.cnt p.t+x * 5
def Pl.domW (p:Pl) (x:Int):Int:=wrap64 (1+wrap64 (x * wrap64 (1+p.c)))
def Pl.hazW (p:Pl) (x:Int):Int:=wrap64 (p.domW p.d+wrap64 (x * 3))
def Pl.cntW (p:Pl) (x:Int):Int:=wrap64 (p.hazW p.t+wrap64 (x * wrap64 (1+p.r)))
def Pl.nodW (p:Pl) (x:Int):Int:=wrap64 (p.cntW p.t+wrap64 (x * 5))
theorem mul_in {x y a b:Int} (h0:0 ≤ x) (h1:x ≤ a) (h2:0 ≤ y) (h3:y ≤ b):0 ≤ x * y ∧ x * y ≤ a * b:=
 ⟨Int.mul_nonneg h0 h2,Int.mul_le_mul h1 h3 h2 (Int.le_trans h0 h1)⟩
theorem Pl.dom_b {p:Pl} (h:p.ok) {x:Int} (h0:0 ≤ x) (h1:x ≤ p.d):0 ≤ x * (1+p.c) ∧ x * (1+p.c) ≤ 16448:=by
 have hc:=p.c_le
 unfold Pl.ok at h
 have hc':=p.c_ge (by omega)
 have:=mul_in (x:=x) (y:=1+p.c) (a:=64) (b:=257) h0 (by omega) (by omega) (by omega)
 omega
theorem Pl.cnt_b {p:Pl} (h:p.ok) {x:Int} (h0:0 ≤ x) (h1:x ≤ p.t):0 ≤ x * (1+p.r) ∧ x * (1+p.r) ≤ 16400:=by
 unfold Pl.ok at h
 have:=mul_in (x:=x) (y:=1+p.r) (a:=16) (b:=1025) h0 (by omega) (by omega) (by omega)
 omega
theorem Pl.domW_eq {p:Pl} (h:p.ok) {x:Int} (h0:0 ≤ x) (h1:x ≤ p.d):p.domW x = p.dom x:=by
 have hb:=Pl.dom_b h h0 h1
 have hc:=p.c_le
 have hc':=p.c_ge (by unfold Pl.ok at h;omega)
 unfold Pl.domW Pl.dom
 rw [IntWalk.wrap64_in (1+p.c) (by omega),IntWalk.wrap64_in (x * (1+p.c)) (by omega),IntWalk.wrap64_in _ (by omega)]
theorem Pl.dom_in {p:Pl} (h:p.ok) {x:Int} (h0:0 ≤ x) (h1:x ≤ p.d):1 ≤ p.dom x ∧ p.dom x ≤ 16449:=by
 have hb:=Pl.dom_b h h0 h1
 unfold Pl.dom
 omega
theorem Pl.d_in {p:Pl} (h:p.ok):0 ≤ p.d ∧ p.d ≤ p.d:=by unfold Pl.ok at h;omega
theorem Pl.t_in {p:Pl} (h:p.ok):0 ≤ p.t ∧ p.t ≤ p.t:=by unfold Pl.ok at h;omega
theorem Pl.hazW_eq {p:Pl} (h:p.ok) {x:Int} (h0:0 ≤ x) (h1:x ≤ p.t):p.hazW x = p.haz x:=by
 have hd:=Pl.dom_in h (Pl.d_in h).1 (Pl.d_in h).2
 unfold Pl.hazW Pl.haz
 rw [Pl.domW_eq h (Pl.d_in h).1 (Pl.d_in h).2]
 unfold Pl.ok at h
 rw [IntWalk.wrap64_in (x * 3) (by omega),IntWalk.wrap64_in _ (by omega)]
theorem Pl.haz_in {p:Pl} (h:p.ok) {x:Int} (h0:0 ≤ x) (h1:x ≤ p.t):1 ≤ p.haz x ∧ p.haz x ≤ 16497:=by
 have hd:=Pl.dom_in h (Pl.d_in h).1 (Pl.d_in h).2
 unfold Pl.haz
 unfold Pl.ok at h
 omega
theorem Pl.cntW_eq {p:Pl} (h:p.ok) {x:Int} (h0:0 ≤ x) (h1:x ≤ p.t):p.cntW x = p.cnt x:=by
 have hd:=Pl.haz_in h (Pl.t_in h).1 (Pl.t_in h).2
 have hb:=Pl.cnt_b h h0 h1
 unfold Pl.cntW Pl.cnt
 rw [Pl.hazW_eq h (Pl.t_in h).1 (Pl.t_in h).2]
 unfold Pl.ok at h
 rw [IntWalk.wrap64_in (1+p.r) (by omega),IntWalk.wrap64_in (x * (1+p.r)) (by omega),IntWalk.wrap64_in _ (by omega)]
theorem Pl.cnt_in {p:Pl} (h:p.ok) {x:Int} (h0:0 ≤ x) (h1:x ≤ p.t):1 ≤ p.cnt x ∧ p.cnt x ≤ 32897:=by
 have hd:=Pl.haz_in h (Pl.t_in h).1 (Pl.t_in h).2
 have hb:=Pl.cnt_b h h0 h1
 unfold Pl.cnt
 omega
theorem Pl.nodW_eq {p:Pl} (h:p.ok) {x:Int} (h0:0 ≤ x) (h1:x ≤ p.n):p.nodW x = p.nod x:=by
 have hd:=Pl.cnt_in h (Pl.t_in h).1 (Pl.t_in h).2
 unfold Pl.nodW Pl.nod
 rw [Pl.cntW_eq h (Pl.t_in h).1 (Pl.t_in h).2]
 unfold Pl.ok at h
 rw [IntWalk.wrap64_in (x * 5) (by omega),IntWalk.wrap64_in _ (by omega)]
theorem Pl.nod_in {p:Pl} (h:p.ok) {x:Int} (h0:0 ≤ x) (h1:x ≤ p.n):1 ≤ p.nod x ∧ p.nod x ≤ 5275777:=by
 have hd:=Pl.cnt_in h (Pl.t_in h).1 (Pl.t_in h).2
 unfold Pl.nod
 unfold Pl.ok at h
 omega
def Pl.sizeF (p:Pl):Int:=if p.ok then p.nod p.n else 0
def Pl.headF (p:Pl):Int:=if p.ok then 0 else -1
def Pl.kindF (p:Pl) (x:Int):Int:=if p.ok ∧ 0 ≤ x ∧ x < p.d then p.dom x else -1
def Pl.hazF (p:Pl) (x i:Int):Int:=if p.ok ∧ (0 ≤ x ∧ x < p.t) ∧ 0 ≤ i ∧ i < 3 then p.haz x+i else -1
def Pl.cntF (p:Pl) (x:Int):Int:=if p.ok ∧ 0 ≤ x ∧ x < p.t then p.cnt x else -1
def Pl.retF (p:Pl) (x i:Int):Int:=if p.ok ∧ (0 ≤ x ∧ x < p.t) ∧ 0 ≤ i ∧ i < p.r then p.cnt x+1+i else -1
def Pl.stF (p:Pl) (x:Int):Int:=if p.ok ∧ 0 ≤ x ∧ x < p.n then p.nod x else -1
def Pl.nxF (p:Pl) (x:Int):Int:=if p.ok ∧ 0 ≤ x ∧ x < p.n then p.nod x+1 else -1
def Pl.fdF (p:Pl) (x i:Int):Int:=if p.ok ∧ (0 ≤ x ∧ x < p.n) ∧ 0 ≤ i ∧ i < 3 then p.nod x+2+i else -1
def Bd (l:List T3):Prop:=∀ i,i < l.length → (tN l i).b ≤ (tN l i).a ∧ (tN l i).a ≤ (tN l i).c
theorem bd_nil:Bd []:=fun _ h => absurd h (Nat.not_lt_zero _)
theorem bd_cons (x:T3) (l:List T3):Bd (x :: l) ↔ (x.b ≤ x.a ∧ x.a ≤ x.c) ∧ Bd l:=by
 constructor
 ·intro h
  exact ⟨h 0 (by simp),fun i hi => h (i+1) (by simpa using hi)⟩
 ·intro h i hi
  cases i with
  | zero => exact h.1
  | succ k => exact h.2 k (by simpa using hi)
def Pl.bds (p:Pl):List T3:=[⟨p.n,1,1048576⟩,⟨p.t,1,16⟩,⟨p.r,wrap64 (wrap64 (3 * p.t)+1),1024⟩,⟨p.d,0,64⟩,⟨p.b,1,256⟩,⟨p.g,1,1073741823⟩]
theorem Pl.bds_ok (p:Pl):Bd p.bds ↔ p.ok:=by
 unfold Pl.bds Pl.ok
 simp only [bd_cons,bd_nil,and_true]
 constructor
 ·rintro ⟨h1,h2,h3,h4,h5,h6⟩
  rw [IntWalk.wrap64_in (3 * p.t) (by omega),IntWalk.wrap64_in _ (by omega)] at h3
  exact ⟨h1,h2,h3,h4,h5,h6⟩
 ·rintro ⟨h1,h2,h3,h4,h5,h6⟩
  rw [IntWalk.wrap64_in (3 * p.t) (by omega),IntWalk.wrap64_in _ (by omega)]
  exact ⟨h1,h2,h3,h4,h5,h6⟩
def PlaceSpec (p:Pl) (at_:Int) (l:List T3) (r:Int):Prop:=(p.ok → Bd l → r = at_) ∧ (¬ (p.ok ∧ Bd l) → r = -1)
abbrev plV (p:Pl):Value:=.agg #[.int .i64 p.n,.int .i64 p.t,.int .i64 p.r,.int .i64 p.d,.int .i64 p.b,.int .i64 p.g]
theorem cells_any (p:Pl) (w:World):Calls Tryz.prog 244 #[plV p] w (Ret (.int .i64 p.c) w):=by
 by_cases h:2 < p.b
 ·have e:p.c = p.b:=by unfold Pl.c;rw [if_pos h]
  rw [e]
  clear e
  go_enter Tryz.func244,Tryz.ntmps244
  go_wp2
  go_ret
  exact Ret.mk (by repeat (first | exact ext_refl _ | apply ext_over | apply ext_alloc))
 ·have e:p.c = 2:=by unfold Pl.c;rw [if_neg h]
  rw [e]
  clear e
  go_enter Tryz.func244,Tryz.ntmps244
  go_wp2
  go_ret
  exact Ret.mk (by repeat (first | exact ext_refl _ | apply ext_over | apply ext_alloc))
theorem domain_any (p:Pl) (x:Int) (w:World):Calls Tryz.prog 208 #[plV p,.int .i64 x] w (Ret (.int .i64 (p.domW x)) w):=by
 go_enter Tryz.func208,Tryz.ntmps208
 go_wp2_with (go_at_call 244;refine (cells_any p _).mono ?_;rintro e w' hr;obtain ⟨rfl,s,rfl⟩:=hr.over;clear hr)
 go_ret
 exact Ret.int rfl (by repeat (first | exact ext_refl _ | apply ext_over | apply ext_alloc))
theorem hazards_any (p:Pl) (x:Int) (w:World):Calls Tryz.prog 132 #[plV p,.int .i64 x] w (Ret (.int .i64 (p.hazW x)) w):=by
 go_enter Tryz.func132,Tryz.ntmps132
 go_wp2_with (go_at_call 208;refine (domain_any p _ _).mono ?_;rintro e w' hr;obtain ⟨rfl,s,rfl⟩:=hr.over;clear hr)
 go_ret
 exact Ret.int rfl (by repeat (first | exact ext_refl _ | apply ext_over | apply ext_alloc))
theorem pcount_any (p:Pl) (x:Int) (w:World):Calls Tryz.prog 160 #[plV p,.int .i64 x] w (Ret (.int .i64 (p.cntW x)) w):=by
 go_enter Tryz.func160,Tryz.ntmps160
 go_wp2
 first | refine wp_region_over2 (by kernel_rfl) (by kernel_rfl) ?_ | refine wp_region_over (by kernel_rfl) (by kernel_rfl) ?_
 repeat (go_big_quiet_step ((go_at_call 132;exact over_call (hazards_any p _ _))))
 refine wpQuiet_nil ?_
 intro _ hw'
 obtain ⟨s,hw''⟩:=hw'
 subst hw''
 go_wp2
 go_ret
 exact Ret.int rfl (by repeat (first | exact ext_refl _ | apply ext_over | apply ext_alloc))
theorem node_any (p:Pl) (x:Int) (w:World):Calls Tryz.prog 78 #[plV p,.int .i64 x] w (Ret (.int .i64 (p.nodW x)) w):=by
 go_enter Tryz.func78,Tryz.ntmps78
 go_wp2_with (go_at_call 160;refine (pcount_any p _ _).mono ?_;rintro e w' hr;obtain ⟨rfl,s,rfl⟩:=hr.over;clear hr)
 go_ret
 exact Ret.int rfl (by repeat (first | exact ext_refl _ | apply ext_over | apply ext_alloc))
theorem one_any (n m:Int) (w:World):Calls Tryz.prog 79 #[.int .i64 n,.int .i64 m] w (Ret (.agg #[.int .i64 n,.int .i64 0,.int .i64 (wrap64 (m - 1))]) w):=by
 go_enter Tryz.func79,Tryz.ntmps79
 go_wp2
 exact bodyPost_ret (v:=.agg #[.int .i64 n,.int .i64 0,.int .i64 (wrap64 (m - 1))]) (by simp [results,Tryz.results79,go_sem]) rfl (Ret.mk (by repeat (first | exact ext_refl _ | apply ext_over | apply ext_alloc)))
def BdTo (l:List T3) (k:Nat):Prop:=∀ i,i < k → (tN l i).b ≤ (tN l i).a ∧ (tN l i).a ≤ (tN l i).c
theorem within_any (l:List T3) (v:Value) (w:World) (r:Bool) (hr:Hid (r = true ↔ Bd l)) (hT:Ts w v l) (hl:l.length ≤ 6) :
  Calls Tryz.prog 159 #[v] w (Ret (.bool r) w):=by
 have HT:=Lib.hid hT
 obtain ⟨a0,cap,rfl,hc,hcell⟩:=hT
 clear hcell
 go_enter Tryz.func159,Tryz.ntmps159
 go_wp2
 go_loopw [7] (fun i wr => ∃ k:Nat,k ≤ l.length ∧ i = .int .i64 (k:Int) ∧ BdTo l k ∧ Ext w wr) (fun i _ => (l.length - intOf i).toNat)
 case atStart => exact ⟨0,Nat.zero_le _,rfl,fun _ h => absurd h (Nat.not_lt_zero _),ext_refl w⟩
 case round =>
  obtain ⟨k,hk,rfl,hf,hx⟩:=hrel
  have HF:=Lib.hid hf
  have HX:=Lib.hid hx
  clear hf hx
  by_cases hlt:k < l.length
  ·obtain ⟨b,off,rfl,hb,hcells⟩:=(HT.out.ext HX.out).at (by omega)
   obtain ⟨c0,c1,c2⟩:=hcells k hlt
   clear hcells
   by_cases h0:(tN l k).b ≤ (tN l k).a
   ·by_cases h1:(tN l k).a ≤ (tN l k).c
    ·go_wp2
     refine ⟨⟨k+1,by omega,by go_num,fun i hi => ?_,ext_alloc _ HX.out⟩,by simp [intOf];omega⟩
     by_cases e:i = k
     ·subst e;exact ⟨h0,h1⟩
     ·exact HF.out i (by omega)
    ·have h2:(tN l k).c < (tN l k).a:=by omega
     have E:Hid (false = r):=by
      refine Lib.hid ?_
      cases r with
      | false => rfl
      | true => exact absurd (hr.out.1 rfl k hlt).2 h1
     clear h1
     go_wp2
     go_ret
     exact Ret.bool E.out (ext_alloc _ HX.out)
   ·have h2:(tN l k).a < (tN l k).b:=by omega
    have E:Hid (false = r):=by
     refine Lib.hid ?_
     cases r with
     | false => rfl
     | true => exact absurd (hr.out.1 rfl k hlt).1 h0
    clear h0
    go_wp2
    go_ret
    exact Ret.bool E.out (ext_alloc _ HX.out)
  ·obtain rfl:k = l.length:=by omega
   have E:Hid (true = r):=Lib.hid (hr.out.2 HF.out).symm
   go_wp2
   go_ret
   exact Ret.bool E.out HX.out
theorem formed_any (p:Pl) (w:World) (r:Bool) (hr:Hid (r = true ↔ p.ok)):Calls Tryz.prog 107 #[plV p] w (Ret (.bool r) w):=by
 have HR:Hid (r = true ↔ Bd p.bds):=Lib.hid (hr.out.trans p.bds_ok.symm)
 clear hr
 go_enter Tryz.func107,Tryz.ntmps107
 go_wp2_with fail
 refine (within_any p.bds _ _ r HR (ts_new _ _ _ _ _ _ (by simp) rfl rfl) (by show 6 ≤ 6;omega)).mono ?_
 rintro e w' hr'
 obtain ⟨rfl,s,rfl⟩:=hr'.over
 clear hr'
 go_wp2
 go_ret
 exact Ret.mk (by repeat (first | exact ext_refl _ | apply ext_over | apply ext_alloc))
theorem place_any (p:Pl) (at_:Int) (l:List T3) (v:Value) (w:World) (r:Int) (hr:Hid (PlaceSpec p at_ l r)) (hT:Ts w v l) (hl:l.length ≤ 6) :
  Calls Tryz.prog 77 #[plV p,.int .i64 at_,v] w (Ret (.int .i64 r) w):=by
 have HT:=Lib.hid hT
 obtain ⟨a0,cap,rfl,hc,hcell⟩:=hT
 clear hcell
 by_cases hk:p.ok
 ·have F:=Lib.hid hk
  by_cases hb:Bd l
  ·have E:Hid (at_ = r):=Lib.hid (hr.out.1 hk hb).symm
   have G:=Lib.hid hb
   clear hk hb hr
   go_enter Tryz.func77,Tryz.ntmps77
   go_wp2_with (first | (go_at_call 107;refine (formed_any p _ true (hid_yes F.out)).mono ?_;rintro e w' hr;obtain ⟨rfl,s,rfl⟩:=hr.over;clear hr) | (go_at_call 159;refine (within_any l _ _ true (hid_yes G.out) (HT.out.ext (by repeat (first | exact ext_refl _ | apply ext_over | apply ext_alloc))) hl).mono ?_;rintro e w' hr;obtain ⟨rfl,s1,rfl⟩:=hr.over;clear hr))
   go_ret
   exact Ret.int E.out (by repeat (first | exact ext_refl _ | apply ext_over | apply ext_alloc))
  ·have E:Hid (-1 = r):=Lib.hid (hr.out.2 fun h => hb h.2).symm
   have G:=Lib.hid hb
   clear hk hb hr
   go_enter Tryz.func77,Tryz.ntmps77
   go_wp2_with (first | (go_at_call 107;refine (formed_any p _ true (hid_yes F.out)).mono ?_;rintro e w' hr;obtain ⟨rfl,s,rfl⟩:=hr.over;clear hr) | (go_at_call 159;refine (within_any l _ _ false (hid_no G.out) (HT.out.ext (by repeat (first | exact ext_refl _ | apply ext_over | apply ext_alloc))) hl).mono ?_;rintro e w' hr;obtain ⟨rfl,s1,rfl⟩:=hr.over;clear hr))
   go_ret
   exact Ret.int E.out (by repeat (first | exact ext_refl _ | apply ext_over | apply ext_alloc))
 ·have E:Hid (-1 = r):=Lib.hid (hr.out.2 fun h => hk h.1).symm
  have F:=Lib.hid hk
  clear hk hr
  go_enter Tryz.func77,Tryz.ntmps77
  go_wp2_with (go_at_call 107;refine (formed_any p _ false (hid_no F.out)).mono ?_;rintro e w' hr;obtain ⟨rfl,s,rfl⟩:=hr.over;clear hr)
  go_ret
  exact Ret.int E.out (by repeat (first | exact ext_refl _ | apply ext_over | apply ext_alloc))
theorem PlaceSpec.mk {p:Pl} {at_ r:Int} {l:List T3} {q:Prop} [Decidable q] {y:Int} (hr:r = if p.ok ∧ q then y else -1) (h:p.ok → (Bd l ↔ q)) (he:p.ok → q → at_ = y):PlaceSpec p at_ l r:=by
 refine ⟨fun hk hb => ?_,fun hn => ?_⟩
 ·have hq:=(h hk).1 hb
  rw [hr,if_pos ⟨hk,hq⟩,he hk hq]
 ·rw [hr,if_neg]
  rintro ⟨hk,hq⟩
  exact hn ⟨hk,(h hk).2 hq⟩
theorem most_of {x m:Int} (h0:0 ≤ m) (h1:m ≤ 1048576):(0 ≤ x ∧ x ≤ wrap64 (m - 1)) ↔ (0 ≤ x ∧ x < m):=by
 rw [IntWalk.wrap64_in (m - 1) (by omega)]
 omega
theorem Pl.lim {p:Pl} (h:p.ok):(0 ≤ p.n ∧ p.n ≤ 1048576) ∧ (0 ≤ p.t ∧ p.t ≤ 1048576) ∧ (0 ≤ p.r ∧ p.r ≤ 1048576) ∧ (0 ≤ p.d ∧ p.d ≤ 1048576) ∧ (0 ≤ p.c ∧ p.c ≤ 1048576):=by
 have h1:=p.c_le
 unfold Pl.ok at h
 have h2:=p.c_ge (by omega)
 omega
theorem kind_spec (p:Pl) (x:Int):PlaceSpec p (p.domW x) [⟨x,0,wrap64 (p.d - 1)⟩] (p.kindF x):=by
 refine PlaceSpec.mk (by unfold Pl.kindF;rfl) (fun hk => ?_) (fun hk hq => ?_)
 ·have hl:=Pl.lim hk
  simp only [bd_cons,bd_nil,and_true]
  exact most_of hl.2.2.2.1.1 hl.2.2.2.1.2
 ·exact Pl.domW_eq hk (by omega) (by omega)
theorem hazard_spec (p:Pl) (x i:Int):PlaceSpec p (wrap64 (p.hazW x+i)) [⟨x,0,wrap64 (p.t - 1)⟩,⟨i,0,wrap64 2⟩] (p.hazF x i):=by
 refine PlaceSpec.mk (by unfold Pl.hazF;rfl) (fun hk => ?_) (fun hk hq => ?_)
 ·have hl:=Pl.lim hk
  simp only [bd_cons,bd_nil,and_true]
  exact and_congr (most_of hl.2.1.1 hl.2.1.2) ((show (0 ≤ i ∧ i ≤ wrap64 2) ↔ (0 ≤ i ∧ i < 3) by rw [IntWalk.wrap64_in 2 (by omega)];omega))
 ·have hb:=Pl.haz_in hk (x:=x) (by omega) (by omega);rw [Pl.hazW_eq hk (by omega) (by omega),IntWalk.wrap64_in _ (by omega)]
theorem hazard_any (p:Pl) (x i:Int) (w:World):Calls Tryz.prog 54 #[plV p,.int .i64 x,.int .i64 i] w (Ret (.int .i64 (p.hazF x i)) w):=by
 go_enter Tryz.func54,Tryz.ntmps54
 go_wp2
 refine wp_region_mix (fun w' => ∃ s,w' = over (w.alloc (.cells #[.int .i64 p.n,.int .i64 p.t,.int .i64 p.r,.int .i64 p.d,.int .i64 p.b,.int .i64 p.g] 23)) s) [(0,[0,1,2,4,6,7,8,10]),(1,[3]),(0,[5]),(1,[9]),(1,[11]),(1,[12]),(1,[13]),(0,[14])] (by kernel_rfl) (by kernel_rfl) (over_of (ext_drew (ext_refl _))) ?_
 simp only [pieces,pickL,List.map_cons,List.map_nil,List.getD_cons_zero,List.getD_cons_succ]
 have HX0:=Lib.hid (ext_drew (ext_refl (w.alloc (.cells #[.int .i64 p.n,.int .i64 p.t,.int .i64 p.r,.int .i64 p.d,.int .i64 p.b,.int .i64 p.g] 23))))
 refine mix_reads ?_
 repeat (go_big_quiet_step (fail))
 refine wpQuiet_nil (mix_acts ?_)
 go_wp2_with (go_at_call 132;refine (hazards_any p x _).mono ?_;rintro e w1 ⟨rfl,hx⟩;have HX1:=Lib.hid (ext_trans HX0.out hx);clear hx)
 refine mixQ_mk (over_of HX1.out) (mix_reads ?_)
 repeat (go_big_quiet_step (fail))
 refine wpQuiet_nil (mix_acts ?_)
 go_wp2_with (go_at_call 79;refine (one_any x p.t _).mono ?_;rintro e w2 ⟨rfl,hx⟩;have HX2:=Lib.hid (ext_trans HX1.out hx);clear hx)
 refine mixQ_mk (over_of HX2.out) (mix_acts ?_)
 go_wp2_with (go_at_call 79;refine (one_any i 3 _).mono ?_;rintro e w3 ⟨rfl,hx⟩;have HX3:=Lib.hid (ext_trans HX2.out hx);clear hx)
 refine mixQ_mk (over_of HX3.out) (mix_acts ?_)
 go_wp2
 have HX4:=Lib.hid (ext_alloc (.cells #[.int .i64 x,.int .i64 0,.int .i64 (wrap64 (p.t - 1)),.int .i64 i,.int .i64 0,.int .i64 (wrap64 2)] 165) HX3.out)
 refine mixQ_mk (over_of HX4.out) (mix_acts ?_)
 go_wp2_with (go_at_call 77;refine (place_any p (wrap64 (p.hazW x+i)) [⟨x,0,wrap64 (p.t - 1)⟩,⟨i,0,wrap64 2⟩] _ _ (p.hazF x i) (Lib.hid (hazard_spec p x i)) (ts_new _ _ _ _ _ _ rfl rfl rfl) (Nat.le_of_ble_eq_true rfl)).mono ?_;rintro e w5 ⟨rfl,hx⟩;have HX5:=Lib.hid (ext_trans HX4.out hx);clear hx)
 refine mixQ_mk (over_of HX5.out) (mix_reads ?_)
 repeat (go_big_quiet_step (fail))
 refine wpQuiet_nil (mix_end ?_)
 go_wp2
 go_ret
 exact Ret.mk (ext_trans (ext_alloc _ (ext_refl w)) HX5.out)
theorem cnt_spec (p:Pl) (x:Int):PlaceSpec p (p.cntW x) [⟨x,0,wrap64 (p.t - 1)⟩] (p.cntF x):=by
 refine PlaceSpec.mk (by unfold Pl.cntF;rfl) (fun hk => ?_) (fun hk hq => ?_)
 ·have hl:=Pl.lim hk
  simp only [bd_cons,bd_nil,and_true]
  exact most_of hl.2.1.1 hl.2.1.2
 ·exact Pl.cntW_eq hk (by omega) (by omega)
theorem cnt_any (p:Pl) (x:Int) (w:World):Calls Tryz.prog 96 #[plV p,.int .i64 x] w (Ret (.int .i64 (p.cntF x)) w):=by
 go_enter Tryz.func96,Tryz.ntmps96
 go_wp2
 refine wp_region_mix (fun w' => ∃ s,w' = over (w.alloc (.cells #[.int .i64 p.n,.int .i64 p.t,.int .i64 p.r,.int .i64 p.d,.int .i64 p.b,.int .i64 p.g] 23)) s) [(0,[0,1,2,4,5,6]),(1,[3]),(1,[7]),(1,[8]),(1,[9]),(0,[10])] (by kernel_rfl) (by kernel_rfl) (over_of (ext_drew (ext_refl _))) ?_
 simp only [pieces,pickL,List.map_cons,List.map_nil,List.getD_cons_zero,List.getD_cons_succ]
 have HX0:=Lib.hid (ext_drew (ext_refl (w.alloc (.cells #[.int .i64 p.n,.int .i64 p.t,.int .i64 p.r,.int .i64 p.d,.int .i64 p.b,.int .i64 p.g] 23))))
 refine mix_reads ?_
 repeat (go_big_quiet_step (fail))
 refine wpQuiet_nil (mix_acts ?_)
 go_wp2_with (go_at_call 160;refine (pcount_any p x _).mono ?_;rintro e w1 ⟨rfl,hx⟩;have HX1:=Lib.hid (ext_trans HX0.out hx);clear hx)
 refine mixQ_mk (over_of HX1.out) (mix_acts ?_)
 go_wp2_with (go_at_call 79;refine (one_any x p.t _).mono ?_;rintro e w2 ⟨rfl,hx⟩;have HX2:=Lib.hid (ext_trans HX1.out hx);clear hx)
 refine mixQ_mk (over_of HX2.out) (mix_acts ?_)
 go_wp2
 have HX3:=Lib.hid (ext_alloc (.cells #[.int .i64 x,.int .i64 0,.int .i64 (wrap64 (p.t - 1))] 165) HX2.out)
 refine mixQ_mk (over_of HX3.out) (mix_acts ?_)
 go_wp2_with (go_at_call 77;refine (place_any p (p.cntW x) [⟨x,0,wrap64 (p.t - 1)⟩] _ _ (p.cntF x) (Lib.hid (cnt_spec p x)) (ts_new _ _ _ _ _ _ rfl rfl rfl) (Nat.le_of_ble_eq_true rfl)).mono ?_;rintro e w4 ⟨rfl,hx⟩;have HX4:=Lib.hid (ext_trans HX3.out hx);clear hx)
 refine mixQ_mk (over_of HX4.out) (mix_reads ?_)
 repeat (go_big_quiet_step (fail))
 refine wpQuiet_nil (mix_end ?_)
 go_wp2
 go_ret
 exact Ret.mk (ext_trans (ext_alloc _ (ext_refl w)) HX4.out)
theorem retired_spec (p:Pl) (x i:Int):PlaceSpec p (wrap64 (wrap64 (p.cntW x+1)+i)) [⟨x,0,wrap64 (p.t - 1)⟩,⟨i,0,wrap64 (p.r - 1)⟩] (p.retF x i):=by
 refine PlaceSpec.mk (by unfold Pl.retF;rfl) (fun hk => ?_) (fun hk hq => ?_)
 ·have hl:=Pl.lim hk
  simp only [bd_cons,bd_nil,and_true]
  exact and_congr (most_of hl.2.1.1 hl.2.1.2) (most_of hl.2.2.1.1 hl.2.2.1.2)
 ·have hb:=Pl.cnt_in hk (x:=x) (by omega) (by omega);have hl:=Pl.lim hk;rw [Pl.cntW_eq hk (by omega) (by omega),IntWalk.wrap64_in (p.cnt x+1) (by omega),IntWalk.wrap64_in _ (by omega)]
theorem retired_any (p:Pl) (x i:Int) (w:World):Calls Tryz.prog 98 #[plV p,.int .i64 x,.int .i64 i] w (Ret (.int .i64 (p.retF x i)) w):=by
 go_enter Tryz.func98,Tryz.ntmps98
 go_wp2
 refine wp_region_mix (fun w' => ∃ s,w' = over (w.alloc (.cells #[.int .i64 p.n,.int .i64 p.t,.int .i64 p.r,.int .i64 p.d,.int .i64 p.b,.int .i64 p.g] 23)) s) [(0,[0,1,2,5,7,8,9,11,12,13]),(1,[3]),(0,[4,6]),(1,[10]),(1,[14]),(1,[15]),(1,[16]),(0,[17])] (by kernel_rfl) (by kernel_rfl) (over_of (ext_drew (ext_refl _))) ?_
 simp only [pieces,pickL,List.map_cons,List.map_nil,List.getD_cons_zero,List.getD_cons_succ]
 have HX0:=Lib.hid (ext_drew (ext_refl (w.alloc (.cells #[.int .i64 p.n,.int .i64 p.t,.int .i64 p.r,.int .i64 p.d,.int .i64 p.b,.int .i64 p.g] 23))))
 refine mix_reads ?_
 repeat (go_big_quiet_step (fail))
 refine wpQuiet_nil (mix_acts ?_)
 go_wp2_with (go_at_call 160;refine (pcount_any p x _).mono ?_;rintro e w1 ⟨rfl,hx⟩;have HX1:=Lib.hid (ext_trans HX0.out hx);clear hx)
 refine mixQ_mk (over_of HX1.out) (mix_reads ?_)
 repeat (go_big_quiet_step (fail))
 refine wpQuiet_nil (mix_acts ?_)
 go_wp2_with (go_at_call 79;refine (one_any x p.t _).mono ?_;rintro e w2 ⟨rfl,hx⟩;have HX2:=Lib.hid (ext_trans HX1.out hx);clear hx)
 refine mixQ_mk (over_of HX2.out) (mix_acts ?_)
 go_wp2_with (go_at_call 79;refine (one_any i p.r _).mono ?_;rintro e w3 ⟨rfl,hx⟩;have HX3:=Lib.hid (ext_trans HX2.out hx);clear hx)
 refine mixQ_mk (over_of HX3.out) (mix_acts ?_)
 go_wp2
 have HX4:=Lib.hid (ext_alloc (.cells #[.int .i64 x,.int .i64 0,.int .i64 (wrap64 (p.t - 1)),.int .i64 i,.int .i64 0,.int .i64 (wrap64 (p.r - 1))] 165) HX3.out)
 refine mixQ_mk (over_of HX4.out) (mix_acts ?_)
 go_wp2_with (go_at_call 77;refine (place_any p (wrap64 (wrap64 (p.cntW x+1)+i)) [⟨x,0,wrap64 (p.t - 1)⟩,⟨i,0,wrap64 (p.r - 1)⟩] _ _ (p.retF x i) (Lib.hid (retired_spec p x i)) (ts_new _ _ _ _ _ _ rfl rfl rfl) (Nat.le_of_ble_eq_true rfl)).mono ?_;rintro e w5 ⟨rfl,hx⟩;have HX5:=Lib.hid (ext_trans HX4.out hx);clear hx)
 refine mixQ_mk (over_of HX5.out) (mix_reads ?_)
 repeat (go_big_quiet_step (fail))
 refine wpQuiet_nil (mix_end ?_)
 go_wp2
 go_ret
 exact Ret.mk (ext_trans (ext_alloc _ (ext_refl w)) HX5.out)
theorem state_spec (p:Pl) (x:Int):PlaceSpec p (wrap64 (p.nodW x)) [⟨x,0,wrap64 (p.n - 1)⟩] (p.stF x):=by
 refine PlaceSpec.mk (by unfold Pl.stF;rfl) (fun hk => ?_) (fun hk hq => ?_)
 ·have hl:=Pl.lim hk
  simp only [bd_cons,bd_nil,and_true]
  exact most_of hl.1.1 hl.1.2
 ·have hb:=Pl.nod_in hk (x:=x) (by omega) (by omega);rw [Pl.nodW_eq hk (by omega) (by omega),IntWalk.wrap64_in _ (by omega)]
theorem state_any (p:Pl) (x:Int) (w:World):Calls Tryz.prog 21 #[plV p,.int .i64 x] w (Ret (.int .i64 (p.stF x)) w):=by
 go_enter Tryz.func21,Tryz.ntmps21
 go_wp2
 refine wp_region_mix (fun w' => ∃ s,w' = over (w.alloc (.cells #[.int .i64 p.n,.int .i64 p.t,.int .i64 p.r,.int .i64 p.d,.int .i64 p.b,.int .i64 p.g] 23)) s) [(0,[0,1,2,5,6,7]),(1,[3]),(0,[4]),(1,[8]),(1,[9]),(1,[10]),(0,[11])] (by kernel_rfl) (by kernel_rfl) (over_of (ext_drew (ext_refl _))) ?_
 simp only [pieces,pickL,List.map_cons,List.map_nil,List.getD_cons_zero,List.getD_cons_succ]
 have HX0:=Lib.hid (ext_drew (ext_refl (w.alloc (.cells #[.int .i64 p.n,.int .i64 p.t,.int .i64 p.r,.int .i64 p.d,.int .i64 p.b,.int .i64 p.g] 23))))
 refine mix_reads ?_
 repeat (go_big_quiet_step (fail))
 refine wpQuiet_nil (mix_acts ?_)
 go_wp2_with (go_at_call 78;refine (node_any p x _).mono ?_;rintro e w1 ⟨rfl,hx⟩;have HX1:=Lib.hid (ext_trans HX0.out hx);clear hx)
 refine mixQ_mk (over_of HX1.out) (mix_reads ?_)
 repeat (go_big_quiet_step (fail))
 refine wpQuiet_nil (mix_acts ?_)
 go_wp2_with (go_at_call 79;refine (one_any x p.n _).mono ?_;rintro e w2 ⟨rfl,hx⟩;have HX2:=Lib.hid (ext_trans HX1.out hx);clear hx)
 refine mixQ_mk (over_of HX2.out) (mix_acts ?_)
 go_wp2
 have HX3:=Lib.hid (ext_alloc (.cells #[.int .i64 x,.int .i64 0,.int .i64 (wrap64 (p.n - 1))] 165) HX2.out)
 refine mixQ_mk (over_of HX3.out) (mix_acts ?_)
 go_wp2_with (go_at_call 77;refine (place_any p (wrap64 (p.nodW x)) [⟨x,0,wrap64 (p.n - 1)⟩] _ _ (p.stF x) (Lib.hid (state_spec p x)) (ts_new _ _ _ _ _ _ rfl rfl rfl) (Nat.le_of_ble_eq_true rfl)).mono ?_;rintro e w4 ⟨rfl,hx⟩;have HX4:=Lib.hid (ext_trans HX3.out hx);clear hx)
 refine mixQ_mk (over_of HX4.out) (mix_reads ?_)
 repeat (go_big_quiet_step (fail))
 refine wpQuiet_nil (mix_end ?_)
 go_wp2
 go_ret
 exact Ret.mk (ext_trans (ext_alloc _ (ext_refl w)) HX4.out)
theorem next_spec (p:Pl) (x:Int):PlaceSpec p (wrap64 (p.nodW x+1)) [⟨x,0,wrap64 (p.n - 1)⟩] (p.nxF x):=by
 refine PlaceSpec.mk (by unfold Pl.nxF;rfl) (fun hk => ?_) (fun hk hq => ?_)
 ·have hl:=Pl.lim hk
  simp only [bd_cons,bd_nil,and_true]
  exact most_of hl.1.1 hl.1.2
 ·have hb:=Pl.nod_in hk (x:=x) (by omega) (by omega);rw [Pl.nodW_eq hk (by omega) (by omega),IntWalk.wrap64_in _ (by omega)]
theorem next_any (p:Pl) (x:Int) (w:World):Calls Tryz.prog 94 #[plV p,.int .i64 x] w (Ret (.int .i64 (p.nxF x)) w):=by
 go_enter Tryz.func94,Tryz.ntmps94
 go_wp2
 refine wp_region_mix (fun w' => ∃ s,w' = over (w.alloc (.cells #[.int .i64 p.n,.int .i64 p.t,.int .i64 p.r,.int .i64 p.d,.int .i64 p.b,.int .i64 p.g] 23)) s) [(0,[0,1,2,5,6,7]),(1,[3]),(0,[4]),(1,[8]),(1,[9]),(1,[10]),(0,[11])] (by kernel_rfl) (by kernel_rfl) (over_of (ext_drew (ext_refl _))) ?_
 simp only [pieces,pickL,List.map_cons,List.map_nil,List.getD_cons_zero,List.getD_cons_succ]
 have HX0:=Lib.hid (ext_drew (ext_refl (w.alloc (.cells #[.int .i64 p.n,.int .i64 p.t,.int .i64 p.r,.int .i64 p.d,.int .i64 p.b,.int .i64 p.g] 23))))
 refine mix_reads ?_
 repeat (go_big_quiet_step (fail))
 refine wpQuiet_nil (mix_acts ?_)
 go_wp2_with (go_at_call 78;refine (node_any p x _).mono ?_;rintro e w1 ⟨rfl,hx⟩;have HX1:=Lib.hid (ext_trans HX0.out hx);clear hx)
 refine mixQ_mk (over_of HX1.out) (mix_reads ?_)
 repeat (go_big_quiet_step (fail))
 refine wpQuiet_nil (mix_acts ?_)
 go_wp2_with (go_at_call 79;refine (one_any x p.n _).mono ?_;rintro e w2 ⟨rfl,hx⟩;have HX2:=Lib.hid (ext_trans HX1.out hx);clear hx)
 refine mixQ_mk (over_of HX2.out) (mix_acts ?_)
 go_wp2
 have HX3:=Lib.hid (ext_alloc (.cells #[.int .i64 x,.int .i64 0,.int .i64 (wrap64 (p.n - 1))] 165) HX2.out)
 refine mixQ_mk (over_of HX3.out) (mix_acts ?_)
 go_wp2_with (go_at_call 77;refine (place_any p (wrap64 (p.nodW x+1)) [⟨x,0,wrap64 (p.n - 1)⟩] _ _ (p.nxF x) (Lib.hid (next_spec p x)) (ts_new _ _ _ _ _ _ rfl rfl rfl) (Nat.le_of_ble_eq_true rfl)).mono ?_;rintro e w4 ⟨rfl,hx⟩;have HX4:=Lib.hid (ext_trans HX3.out hx);clear hx)
 refine mixQ_mk (over_of HX4.out) (mix_reads ?_)
 repeat (go_big_quiet_step (fail))
 refine wpQuiet_nil (mix_end ?_)
 go_wp2
 go_ret
 exact Ret.mk (ext_trans (ext_alloc _ (ext_refl w)) HX4.out)
theorem field_spec (p:Pl) (x i:Int):PlaceSpec p (wrap64 (wrap64 (p.nodW x+2)+i)) [⟨x,0,wrap64 (p.n - 1)⟩,⟨i,0,wrap64 2⟩] (p.fdF x i):=by
 refine PlaceSpec.mk (by unfold Pl.fdF;rfl) (fun hk => ?_) (fun hk hq => ?_)
 ·have hl:=Pl.lim hk
  simp only [bd_cons,bd_nil,and_true]
  exact and_congr (most_of hl.1.1 hl.1.2) ((show (0 ≤ i ∧ i ≤ wrap64 2) ↔ (0 ≤ i ∧ i < 3) by rw [IntWalk.wrap64_in 2 (by omega)];omega))
 ·have hb:=Pl.nod_in hk (x:=x) (by omega) (by omega);rw [Pl.nodW_eq hk (by omega) (by omega),IntWalk.wrap64_in (p.nod x+2) (by omega),IntWalk.wrap64_in _ (by omega)]
theorem field_any (p:Pl) (x i:Int) (w:World):Calls Tryz.prog 99 #[plV p,.int .i64 x,.int .i64 i] w (Ret (.int .i64 (p.fdF x i)) w):=by
 go_enter Tryz.func99,Tryz.ntmps99
 go_wp2
 refine wp_region_mix (fun w' => ∃ s,w' = over (w.alloc (.cells #[.int .i64 p.n,.int .i64 p.t,.int .i64 p.r,.int .i64 p.d,.int .i64 p.b,.int .i64 p.g] 23)) s) [(0,[0,1,2,5,7,8,9,11]),(1,[3]),(0,[4,6]),(1,[10]),(1,[12]),(1,[13]),(1,[14]),(0,[15])] (by kernel_rfl) (by kernel_rfl) (over_of (ext_drew (ext_refl _))) ?_
 simp only [pieces,pickL,List.map_cons,List.map_nil,List.getD_cons_zero,List.getD_cons_succ]
 have HX0:=Lib.hid (ext_drew (ext_refl (w.alloc (.cells #[.int .i64 p.n,.int .i64 p.t,.int .i64 p.r,.int .i64 p.d,.int .i64 p.b,.int .i64 p.g] 23))))
 refine mix_reads ?_
 repeat (go_big_quiet_step (fail))
 refine wpQuiet_nil (mix_acts ?_)
 go_wp2_with (go_at_call 78;refine (node_any p x _).mono ?_;rintro e w1 ⟨rfl,hx⟩;have HX1:=Lib.hid (ext_trans HX0.out hx);clear hx)
 refine mixQ_mk (over_of HX1.out) (mix_reads ?_)
 repeat (go_big_quiet_step (fail))
 refine wpQuiet_nil (mix_acts ?_)
 go_wp2_with (go_at_call 79;refine (one_any x p.n _).mono ?_;rintro e w2 ⟨rfl,hx⟩;have HX2:=Lib.hid (ext_trans HX1.out hx);clear hx)
 refine mixQ_mk (over_of HX2.out) (mix_acts ?_)
 go_wp2_with (go_at_call 79;refine (one_any i 3 _).mono ?_;rintro e w3 ⟨rfl,hx⟩;have HX3:=Lib.hid (ext_trans HX2.out hx);clear hx)
 refine mixQ_mk (over_of HX3.out) (mix_acts ?_)
 go_wp2
 have HX4:=Lib.hid (ext_alloc (.cells #[.int .i64 x,.int .i64 0,.int .i64 (wrap64 (p.n - 1)),.int .i64 i,.int .i64 0,.int .i64 (wrap64 2)] 165) HX3.out)
 refine mixQ_mk (over_of HX4.out) (mix_acts ?_)
 go_wp2_with (go_at_call 77;refine (place_any p (wrap64 (wrap64 (p.nodW x+2)+i)) [⟨x,0,wrap64 (p.n - 1)⟩,⟨i,0,wrap64 2⟩] _ _ (p.fdF x i) (Lib.hid (field_spec p x i)) (ts_new _ _ _ _ _ _ rfl rfl rfl) (Nat.le_of_ble_eq_true rfl)).mono ?_;rintro e w5 ⟨rfl,hx⟩;have HX5:=Lib.hid (ext_trans HX4.out hx);clear hx)
 refine mixQ_mk (over_of HX5.out) (mix_reads ?_)
 repeat (go_big_quiet_step (fail))
 refine wpQuiet_nil (mix_end ?_)
 go_wp2
 go_ret
 exact Ret.mk (ext_trans (ext_alloc _ (ext_refl w)) HX5.out)
theorem head_any (p:Pl) (w:World):Calls Tryz.prog 91 #[plV p] w (Ret (.int .i64 p.headF) w):=by
 have HS:Hid (PlaceSpec p 0 [] p.headF):=Lib.hid ⟨fun h _ => by unfold Pl.headF;rw [if_pos h],fun h => by unfold Pl.headF;rw [if_neg fun hk => h ⟨hk,bd_nil⟩]⟩
 go_enter Tryz.func91,Tryz.ntmps91
 go_wp2_with (go_at_call 77;refine (place_any p 0 [] _ _ p.headF HS (ts_nil _) (by decide)).mono ?_;rintro e w' hr;obtain ⟨rfl,s,rfl⟩:=hr.over;clear hr)
 go_ret
 exact Ret.mk (by repeat (first | exact ext_refl _ | apply ext_over | apply ext_alloc))
theorem size_any (p:Pl) (w:World):Calls Tryz.prog 57 #[plV p] w (Ret (.int .i64 p.sizeF) w):=by
 by_cases hk:p.ok
 ·have E:Hid (p.nodW p.n = p.sizeF):=Lib.hid (by unfold Pl.sizeF;rw [if_pos hk];exact Pl.nodW_eq hk (by unfold Pl.ok at hk;omega) (Int.le_refl _))
  have F:=Lib.hid hk
  clear hk
  go_enter Tryz.func57,Tryz.ntmps57
  go_wp2_with (first | (go_at_call 107;refine (formed_any p _ true (hid_yes F.out)).mono ?_;rintro e w' hr;obtain ⟨rfl,s,rfl⟩:=hr.over;clear hr) | (go_at_call 78;refine (node_any p p.n _).mono ?_;rintro e w' hr;obtain ⟨rfl,s1,rfl⟩:=hr.over;clear hr))
  go_ret
  exact Ret.int E.out (by repeat (first | exact ext_refl _ | apply ext_over | apply ext_alloc))
 ·have E:Hid (0 = p.sizeF):=Lib.hid (by unfold Pl.sizeF;rw [if_neg hk])
  have F:=Lib.hid hk
  clear hk
  go_enter Tryz.func57,Tryz.ntmps57
  go_wp2_with (go_at_call 107;refine (formed_any p _ false (hid_no F.out)).mono ?_;rintro e w' hr;obtain ⟨rfl,s,rfl⟩:=hr.over;clear hr)
  go_ret
  exact Ret.int E.out (by repeat (first | exact ext_refl _ | apply ext_over | apply ext_alloc))
end Go.Proofs.YthjklbonebnekaaGreat

