/-
  What the calls of cover and of Formed (of a layout) come to. Conditions: those of each theorem.
-/
import Derived.Test.YthjklbonebnekaaGreatGaa
import Derived.Test.YthjklbonebnekaaGreatGab
import Derived.Test.YthjklbonebnekaaGreatGaf
import Derived.Test.YthjklbonebnekaaGreatGak
import Derived.Test.YthjklbonebnekaaGreatGao
set_option maxRecDepth 8000
set_option maxHeartbeats 4000000
namespace Go.Proofs.YthjklbonebnekaaGreat
open Go Go.RowKit
def CovSpec (l:List (Int × Int)) (x:BitVec 64) (r:Bool):Prop:=(LayF l → x = covTo l l.length ∧ r = true) ∧ (¬ LayF l → x = 0#64 ∧ r = false)
def CovRel (l:List (Int × Int)) (w:World) (h i:Value) (wr:World):Prop:=∃ k:Nat,k ≤ l.length ∧ LayTo l k ∧ h = .int .u64 (U (covTo l k)) ∧ i = .int .i64 k ∧ ∃ s,wr = over w s
theorem Ret.two {x y:Value} {x' y':Value} {w w':World} (e1:x' = x) (e2:y' = y) (h:Below w.heap.size w w'):Ret (.tuple #[x,y]) w (.returned (.tuple #[x',y'])) w':=⟨by rw [e1,e2],h⟩
theorem cover_any (l:List (Int × Int)) (v:Value) (w:World) (x:BitVec 64) (r:Bool) (hs:Hid (CovSpec l x r)) (hl:l.length ≤ 64) (hF:Fs w v l) :
  Calls Tryz.prog 225 #[v] w (Ret (.tuple #[.int .u64 (U x),.bool r]) w):=by
 obtain ⟨a0,cap,rfl,hc,hcell⟩:=hF
 have HC:=Lib.hid hcell
 clear hcell
 go_enter Tryz.func225,Tryz.ntmps225
 go_wp2
 go_loopw [4,9] (fun h i wr => CovRel l w h i wr) (fun _ i _ => (l.length - intOf i).toNat)
 case atStart => exact ⟨0,by omega,LayTo.zero l,by rw [covTo,U_0],rfl,over_of (Below.refl _ _)⟩
 case round =>
  obtain ⟨k,hk,hto,rfl,rfl,s,rfl⟩:=hrel
  have HT:=Lib.hid hto
  clear hto
  by_cases hlt:k < l.length
  ·obtain ⟨b,off,rfl,hb,hcells⟩:=HC.out (by omega)
   obtain ⟨c1,c2⟩:=hcells k hlt
   clear hcells HC
   by_cases hf:Fm (fA l k) (fB l k)
   ·by_cases hm:covTo l k &&& maskN (fA l k) (fB l k) = 0#64
    ·have hq:=U_eq0 _ hm
     have E:Hid (LayTo l (k+1)):=Lib.hid (LayTo.succ HT.out hf ((cov_meet l k HT.out hf).1 hm))
     clear hm HT
     go_wp2_with (first
      | (go_at_call 169;refine (formed_yes _ _ _ hf).mono ?_;rintro e w' hr';obtain ⟨rfl,s,rfl⟩:=hr'.over;clear hr')
      | (go_at_call 170;refine (mask_yes _ _ _ hf).mono ?_;rintro e w' hr';obtain ⟨rfl,s,rfl⟩:=hr'.over;clear hr'))
     exact ⟨⟨k+1,by omega,E.out,rfl,by go_num,over_of (by repeat (first | exact ext_refl _ | apply ext_over | apply ext_alloc))⟩,by simp [intOf];omega⟩
    ·have hq:=U_ne0 _ hm
     have E:Hid (Value.int .u64 0 = Value.int .u64 (U x) ∧ Value.bool false = Value.bool r):=by
      have hn:¬ LayF l:=fun h => hm ((cov_meet l k HT.out hf).2 (h k hlt).2)
      exact ⟨by rw [(hs.out.2 hn).1,U_0],by rw [(hs.out.2 hn).2]⟩
     clear hm HT
     go_wp2_with (first
      | (go_at_call 169;refine (formed_yes _ _ _ hf).mono ?_;rintro e w' hr';obtain ⟨rfl,s,rfl⟩:=hr'.over;clear hr')
      | (go_at_call 170;refine (mask_yes _ _ _ hf).mono ?_;rintro e w' hr';obtain ⟨rfl,s,rfl⟩:=hr'.over;clear hr'))
     go_ret2
     exact Ret.two E.out.1 E.out.2 (by repeat (first | exact ext_refl _ | apply ext_over | apply ext_alloc))
   ·have E:Hid (Value.int .u64 0 = Value.int .u64 (U x) ∧ Value.bool false = Value.bool r):=by
     have hn:¬ LayF l:=fun h => hf (h k hlt).1
     exact ⟨by rw [(hs.out.2 hn).1,U_0],by rw [(hs.out.2 hn).2]⟩
    clear HT
    go_wp2_with (go_at_call 169;refine (formed_no _ _ _ hf).mono ?_;rintro e w' hr';obtain ⟨rfl,s,rfl⟩:=hr'.over;clear hr')
    go_ret2
    exact Ret.two E.out.1 E.out.2 (by repeat (first | exact ext_refl _ | apply ext_over | apply ext_alloc))
  ·obtain rfl:k = l.length:=by omega
   have E:Hid (Value.int .u64 (U (covTo l l.length)) = Value.int .u64 (U x) ∧ Value.bool true = Value.bool r):=⟨by rw [(hs.out.1 HT.out).1],by rw [(hs.out.1 HT.out).2]⟩
   clear HT
   go_wp2
   go_ret2
   exact Ret.two E.out.1 E.out.2 (by repeat (first | exact ext_refl _ | apply ext_over | apply ext_alloc))
theorem covSpec_of (l:List (Int × Int)):∃ x r,CovSpec l x r ∧ (r = true ↔ LayF l):=by
 by_cases h:LayF l
 ·exact ⟨covTo l l.length,true,⟨fun _ => ⟨rfl,rfl⟩,fun hn => absurd h hn⟩,by simp [h]⟩
 ·exact ⟨0#64,false,⟨fun hn => absurd hn h,fun _ => ⟨rfl,rfl⟩⟩,by simp [h]⟩
theorem formedL_any (l:List (Int × Int)) (v:Value) (w:World) (r:Bool) (hr:Hid (r = true ↔ LayF l)) (hl:l.length ≤ 64) (hF:Fs w v l) :
  Calls Tryz.prog 161 #[v] w (Ret (.bool r) w):=by
 obtain ⟨x,r',hs,hr'⟩:=covSpec_of l
 obtain rfl:r = r':=by
  have h1:=hr.out
  rw [Bool.eq_iff_iff,h1,hr']
 have HS:=Lib.hid hs
 clear hs hr' hr
 go_enter Tryz.func161,Tryz.ntmps161
 go_wp2_with (go_at_call 225;refine (cover_any l v _ x r HS hl hF).mono ?_;rintro e w' hr';obtain ⟨rfl,s,rfl⟩:=hr'.over;clear hr')
 go_ret
 exact Ret.mk (by repeat (first | exact ext_refl _ | apply ext_over | apply ext_alloc))
def PackRel (l:List (Int × Int)) (v:List (BitVec 64)) (w:World) (x i:Value) (wr:World):Prop:=
 ∃ k:Nat,k ≤ l.length ∧ FitTo l v k ∧ x = .int .u64 (U (packTo l v k)) ∧ i = .int .i64 k ∧ ∃ s,wr = over w s
theorem pack_any (l:List (Int × Int)) (v:List (BitVec 64)) (lv vv:Value) (w:World) (x:BitVec 64) (e:Int) (hs:Hid (PackSpec l v x e)) (hl:l.length ≤ 64) (hF:Fs w lv l) (hU:Us w vv v) :
  Calls Tryz.prog 82 #[lv,vv] w (Ret (.tuple #[.int .u64 (U x),.int .i64 e]) w):=by
 by_cases hlay:LayF l
 ·by_cases hlen:l.length = v.length
  ·have HY:=Lib.hid hlay
   have HFs:=Lib.hid hF
   obtain ⟨a0,cap,rfl,hc,hcell⟩:=hF
   obtain ⟨a1,cap1,rfl,hc1,hcell1⟩:=hU
   rw [← hlen] at hc1 hcell1 ⊢
   have HL:=Lib.hid hlen
   have HC:=Lib.hid hcell
   have HC1:=Lib.hid hcell1
   clear hcell hcell1 hlen hlay
   go_enter Tryz.func82,Tryz.ntmps82
   go_wp2_with (go_at_call 161;refine (formedL_any l _ _ true (by exact Lib.hid (by simp [HY.out])) hl HFs.out).mono ?_;rintro e w' hr';obtain ⟨rfl,s,rfl⟩:=hr'.over;clear hr')
   go_loopw [6,21] (fun u i wr => PackRel l v w u i wr) (fun _ i _ => (l.length - intOf i).toNat)
   case atStart => exact ⟨0,by omega,FitTo.zero l v,by rw [packTo,U_0],rfl,over_of (over_below _ _)⟩
   case round =>
    obtain ⟨k,hk,hto,rfl,rfl,s,rfl⟩:=hrel
    have HT:=Lib.hid hto
    clear hto
    by_cases hlt:k < l.length
    ·obtain ⟨b,off,rfl,hb,hcells⟩:=HC.out (by omega)
     obtain ⟨b1,off1,rfl,hb1,hcells1⟩:=HC1.out (by omega)
     obtain ⟨c1,c2⟩:=hcells k hlt
     have c3:=hcells1 k hlt
     clear hcells hcells1 HC HC1
     have hf:Fm (fA l k) (fB l k):=(HY.out k hlt).1
     by_cases t1:U (mostN (fB l k)) < U (uN v k)
     ·have E:=hs.out.no (fun h => by have:=h.2.2 k hlt;omega)
      clear HT
      go_wp2
      first | refine wp_region_over2 (by kernel_rfl) (by kernel_rfl) ?_ | refine wp_region_over (by kernel_rfl) (by kernel_rfl) ?_
      repeat (go_big_quiet_step ((go_at_call 162;exact over_call (most_yes _ _ _ hf))))
      refine wpQuiet_nil ?_
      intro _ hw'
      obtain ⟨s1,hw''⟩:=hw'
      subst hw''
      go_wp2
      go_ret2
      exact Ret.two E.out.1 E.out.2 (by repeat (first | exact ext_refl _ | apply ext_over | apply ext_alloc))
     ·have t2:decide (U (mostN (fB l k)) < U (uN v k)) = false:=by simpa using t1
      have E:Hid (FitTo l v (k+1)):=Lib.hid (FitTo.succ HT.out (by omega))
      clear HT t1
      go_wp2
      first | refine wp_region_over2 (by kernel_rfl) (by kernel_rfl) ?_ | refine wp_region_over (by kernel_rfl) (by kernel_rfl) ?_
      repeat (go_big_quiet_step ((go_at_call 162;exact over_call (most_yes _ _ _ hf))))
      refine wpQuiet_nil ?_
      intro _ hw'
      obtain ⟨s1,hw''⟩:=hw'
      subst hw''
      go_wp2
      first | refine wp_region_over2 (by kernel_rfl) (by kernel_rfl) ?_ | refine wp_region_over (by kernel_rfl) (by kernel_rfl) ?_
      repeat (go_big_quiet_step ((go_at_call 163;exact over_call (put_yes _ _ _ _ _ hf))))
      refine wpQuiet_nil ?_
      intro _ hw'
      obtain ⟨s2,hw''⟩:=hw'
      subst hw''
      go_wp2
      exact ⟨⟨k+1,by omega,E.out,rfl,by go_num,over_of (by repeat (first | exact ext_refl _ | apply ext_over | apply ext_alloc))⟩,by simp [intOf];omega⟩
    ·obtain rfl:k = l.length:=by omega
     have E:=hs.out.yes ⟨HY.out,HL.out,HT.out⟩
     clear HT
     go_wp2
     go_ret2
     exact Ret.two E.out.1 E.out.2 (by repeat (first | exact ext_refl _ | apply ext_over | apply ext_alloc))
  ·have E:=hs.out.no (fun h => hlen h.2.1)
   have HY:=Lib.hid hlay
   have HFs:=Lib.hid hF
   obtain ⟨a0,cap,rfl,hc,hcell⟩:=hF
   obtain ⟨a1,cap1,rfl,hc1,hcell1⟩:=hU
   clear hcell hcell1
   have q1:((v.length:Int) != (l.length:Int)) = true:=by rw [bne_iff_ne];omega
   have q2:(v.length != l.length) = true:=by rw [bne_iff_ne];omega
   clear hlen hlay
   go_enter Tryz.func82,Tryz.ntmps82
   go_wp2_with (go_at_call 161;refine (formedL_any l _ _ true (by exact Lib.hid (by simp [HY.out])) hl HFs.out).mono ?_;rintro e w' hr';obtain ⟨rfl,s,rfl⟩:=hr'.over;clear hr')
   go_ret2
   exact Ret.two E.out.1 E.out.2 (by repeat (first | exact ext_refl _ | apply ext_over | apply ext_alloc))
 ·have E:=hs.out.no (fun h => hlay h.1)
  have HY:=Lib.hid hlay
  have HFs:=Lib.hid hF
  clear hlay hF hU
  go_enter Tryz.func82,Tryz.ntmps82
  go_wp2_with (go_at_call 161;refine (formedL_any l _ _ false (by exact Lib.hid (by simp [HY.out])) hl HFs.out).mono ?_;rintro e w' hr';obtain ⟨rfl,s,rfl⟩:=hr'.over;clear hr')
  go_ret2
  exact Ret.two E.out.1 E.out.2 (by repeat (first | exact ext_refl _ | apply ext_over | apply ext_alloc))
theorem Tryz.info24s:(Tryz.prog.info? 40).map (fun i => (i.zero,i.size,i.bytes)) = some (some (.int .u64 0),1,8):=by kernel_rfl
def SplRel (l:List (Int × Int)) (x:BitVec 64) (g:Nat) (w:World) (i:Value) (wr:World):Prop:=
 ∃ k:Nat,k ≤ l.length ∧ i = .int .i64 k ∧ wr.ownsRow w.heap.size 40 1 (.slice (some ⟨g,0,none⟩) l.length l.length) l.length (fillTo (splitL l x) k) ∧ Ext w wr
theorem split_any (l:List (Int × Int)) (lv:Value) (x:BitVec 64) (w:World) (r:List (BitVec 64)) (e:Int) (hs:Hid (SplitSpec l x r e)) (hl:l.length ≤ 64) (hF:Fs w lv l) :
  Calls Tryz.prog 173 #[lv,.int .u64 (U x)] w (RetSp r e w):=by
 by_cases hlay:LayF l
 ·have HV:Hid (CovSpec l (covTo l l.length) true):=⟨fun _ => ⟨rfl,rfl⟩,fun hn => absurd hlay hn⟩
  by_cases hz:x &&& ~~~ (covTo l l.length) = 0#64
  ·have E:Hid (r = splitL l x ∧ e = 0):=Lib.hid (hs.out.2.2 hlay hz)
   have q1:=U_eq0 _ hz
   have HY:=Lib.hid hlay
   obtain ⟨i24,hi24,hy0,hy1,hy2⟩:=info_parts Tryz.info24s
   have HFs:=Lib.hid hF
   obtain ⟨a0,cap,rfl,hc,hcell⟩:=hF
   clear hcell hz hlay
   go_enter Tryz.func173,Tryz.ntmps173
   go_wp2_with (first
    | (go_at_call 225;refine (cover_any l _ _ _ _ HV hl HFs.out).mono ?_;rintro e w' hr';obtain ⟨rfl,s,rfl⟩:=hr'.over;clear hr')
    | (at_make;refine wpList_make_full _ rfl (.tmp 23) (.tmp 23) 87 rfl w.heap.size 40 i24 (.int .u64 0) 1 Tryz.underlying87 hi24 hy0 hy1 .i64 .i64 l.length l.length l.length rfl rfl rfl rfl (by rw [hy2];omega) (by unfold maxLen;omega) (over_size _ _) ?_;intro w1 ho1 hg1;have HO1:=Lib.hid ho1;have HX1:=Lib.hid (ext_grown0 (over_below _ _) hg1);clear ho1 hg1))
   have hg:w.heap.size ≤ (over w s).heap.size:=over_size _ _
   generalize (over w s).heap.size = g at HO1 hg ⊢
   have HO2:Hid (w1.ownsRow w.heap.size 40 1 (.slice (some ⟨g,0,none⟩) l.length l.length) l.length (fillTo (splitL l x) 0)):=by
    have h:=HO1.out
    rw [Nat.mul_one] at h
    rw [fill_zero,splitL_len]
    have e1:(madeCells (Value.int IntKind.u64 0).cells l.length).toList = List.replicate l.length (Value.int .u64 0):=toList_madeCells_one _ _
    rw [e1] at h
    exact h
   clear HO1
   go_loopw [27] (fun i wr => SplRel l x g w i wr) (fun i _ => (l.length - intOf i).toNat)
   case atStart => exact ⟨0,by omega,rfl,HO2.out,HX1.out⟩
   case round =>
    obtain ⟨k,hk,rfl,ho,hx⟩:=hrel
    have HX:=Lib.hid hx
    have HO:=Lib.hid ho
    by_cases hlt:k < l.length
    ·obtain ⟨b,off,rfl,hb,hcells⟩:=(HFs.out.ext hx).at (by omega)
     obtain ⟨c1,c2⟩:=hcells k hlt
     have hf:Fm (fA l k) (fB l k):=(HY.out k hlt).1
     have es:=splitL_at l x k hlt
     have HE:=Lib.hid es
     clear hcells ho hx HO2 HX1 es
     go_wp2_with (go_at_call 90;refine (get_yes _ _ _ _ hf).mono ?_;rintro e w' hr';obtain ⟨rfl,hbx⟩:=hr';have HO3:=Lib.hid (own_ext (HO.out.alloc _) hbx);have HX3:=Lib.hid (ext_trans (ext_alloc _ HX.out) hbx);have fz:=HO3.out.frozenAt k;have cc:=HO3.out.cellAt k (by omega);rw [List.getElem?_eq_getElem (by rw [fill_len,splitL_len];omega)] at cc;clear hbx)
     have hst:=(HO3.out.stored k (Value.int .u64 (U (getN (fA l k) (fB l k) x)))).1
     have ew:Value.int .u64 (U (getN (fA l k) (fB l k) x)) = WU (uN (splitL l x) k):=by rw [HE.out];rfl
     have hst2:(w'.setCell ⟨g,k,none⟩ (Value.int .u64 (U (getN (fA l k) (fB l k) x)))).ownsRow w.heap.size 40 1 (.slice (some ⟨g,0,none⟩) l.length l.length) l.length (fillTo (splitL l x) (k+1)):=by
      rw [← fill_set,← ew];exact hst
     exact ⟨⟨k+1,by omega,by go_num,hst2,ext_set _ hg HX3.out⟩,by simp [intOf];omega⟩
    ·obtain rfl:k = l.length:=by omega
     have hU:Hid (Us wr (.slice (some ⟨g,0,none⟩) l.length l.length) r):=by
      refine Lib.hid (us_of_own (base:=w.heap.size) (e:=40) ?_)
      rw [E.out.1,← fill_all,splitL_len]
      exact ho
     clear ho hx HO2 HX1
     go_wp2
     go_ret2
     exact RetSp.some E.out.2.symm HX.out hU.out
  ·have E:Hid (r = [] ∧ e = 10):=Lib.hid (hs.out.2.1 hlay hz)
   have q1:=U_ne0 _ hz
   have HFs:=Lib.hid hF
   clear hF hz hlay
   go_enter Tryz.func173,Tryz.ntmps173
   go_wp2_with (go_at_call 225;refine (cover_any l _ _ _ _ HV hl HFs.out).mono ?_;rintro e w' hr';obtain ⟨rfl,s,rfl⟩:=hr'.over;clear hr')
   go_ret2
   exact RetSp.none E.out.1 E.out.2.symm (by repeat (first | exact ext_refl _ | apply ext_over | apply ext_alloc))
 ·have HV:Hid (CovSpec l 0#64 false):=⟨fun hn => absurd hn hlay,fun _ => ⟨rfl,rfl⟩⟩
  have E:Hid (r = [] ∧ e = 1):=Lib.hid (hs.out.1 hlay)
  have HFs:=Lib.hid hF
  clear hF hlay
  go_enter Tryz.func173,Tryz.ntmps173
  go_wp2_with (go_at_call 225;refine (cover_any l _ _ _ _ HV hl HFs.out).mono ?_;rintro e w' hr';obtain ⟨rfl,s,rfl⟩:=hr'.over;clear hr')
  go_ret2
  exact RetSp.none E.out.1 E.out.2.symm (by repeat (first | exact ext_refl _ | apply ext_over | apply ext_alloc))
abbrev stV (s:St):Value:=.agg #[.int .i64 s.g,.int .i64 s.m,.int .i64 s.k]
theorem upTo_any (n most:Int) (w:World):Calls Tryz.prog 138 #[.int .i64 n,.int .i64 most] w (Ret (.bool (upF n most)) w):=by
 by_cases h1:0 ≤ n
 ·by_cases h2:n ≤ most
  ·rw [upF_yes h1 h2]
   go_enter Tryz.func138,Tryz.ntmps138
   go_wp2
   go_ret
   exact Ret.mk (by repeat (first | exact ext_refl _ | apply ext_over | apply ext_alloc | (refine ext_set _ ?_ ?_;exact Nat.le_refl _)))
  ·rw [upF_no fun h => h2 h.2]
   have h3:decide (n ≤ most) = false:=by simpa using h2
   clear h2
   go_enter Tryz.func138,Tryz.ntmps138
   go_wp2
   go_ret
   exact Ret.mk (by repeat (first | exact ext_refl _ | apply ext_over | apply ext_alloc | (refine ext_set _ ?_ ?_;exact Nat.le_refl _)))
 ·rw [upF_no fun h => h1 h.1]
  go_enter Tryz.func138,Tryz.ntmps138
  go_wp2
  go_ret
  exact Ret.mk (by repeat (first | exact ext_refl _ | apply ext_over | apply ext_alloc | (refine ext_set _ ?_ ?_;exact Nat.le_refl _)))
theorem sformed_yes (s:St) (h:s.ok) (w:World):Calls Tryz.prog 63 #[stV s] w (Ret (.bool true) w):=by
 have ⟨h1,h2,h3,h4,h5,h6⟩:=h
 have e1:=upF_yes h1 h2
 have e2:=upF_yes h3 h4
 have e3:=upF_yes h5 h6
 clear h h1 h2 h3 h4 h5 h6
 go_enter Tryz.func63,Tryz.ntmps63
 go_wp2_with (go_at_call 138;refine (upTo_any _ _ _).mono ?_;rintro e w' hr;obtain ⟨rfl,s,rfl⟩:=hr.over;clear hr)
 go_ret
 exact Ret.mk (by repeat (first | exact ext_refl _ | apply ext_over | apply ext_alloc | (refine ext_set _ ?_ ?_;exact Nat.le_refl _)))
theorem sformed_no (s:St) (h:¬ s.ok) (w:World):Calls Tryz.prog 63 #[stV s] w (Ret (.bool false) w):=by
 by_cases c1:0 ≤ s.g ∧ s.g ≤ 1073741823
 ·have e1:=upF_yes c1.1 c1.2
  by_cases c2:0 ≤ s.m ∧ s.m ≤ 3
  ·have e2:=upF_yes c2.1 c2.2
   have e3:upF s.k 2 = false:=upF_no fun c3 => h ⟨c1.1,c1.2,c2.1,c2.2,c3.1,c3.2⟩
   clear h c1 c2
   go_enter Tryz.func63,Tryz.ntmps63
   go_wp2_with (go_at_call 138;refine (upTo_any _ _ _).mono ?_;rintro e w' hr;obtain ⟨rfl,s,rfl⟩:=hr.over;clear hr)
   go_ret
   exact Ret.mk (by repeat (first | exact ext_refl _ | apply ext_over | apply ext_alloc | (refine ext_set _ ?_ ?_;exact Nat.le_refl _)))
  ·have e2:=upF_no c2
   clear h c1 c2
   go_enter Tryz.func63,Tryz.ntmps63
   go_wp2_with (go_at_call 138;refine (upTo_any _ _ _).mono ?_;rintro e w' hr;obtain ⟨rfl,s,rfl⟩:=hr.over;clear hr)
   go_ret
   exact Ret.mk (by repeat (first | exact ext_refl _ | apply ext_over | apply ext_alloc | (refine ext_set _ ?_ ?_;exact Nat.le_refl _)))
 ·have e1:=upF_no c1
  clear h c1
  go_enter Tryz.func63,Tryz.ntmps63
  go_wp2_with (go_at_call 138;refine (upTo_any _ _ _).mono ?_;rintro e w' hr;obtain ⟨rfl,s,rfl⟩:=hr.over;clear hr)
  go_ret
  exact Ret.mk (by repeat (first | exact ext_refl _ | apply ext_over | apply ext_alloc | (refine ext_set _ ?_ ?_;exact Nat.le_refl _)))
theorem live_any (s:St) (kind:Int) (w:World):Calls Tryz.prog 62 #[stV s,.int .i64 kind] w (Ret (stV ⟨s.g,1,kind⟩) w):=by
 go_enter Tryz.func62,Tryz.ntmps62
 go_wp2
 refine bodyPost_ret (v:=stV ⟨s.g,1,kind⟩) (by simp [results,Tryz.results62,go_sem]) rfl (Ret.mk (by repeat (first | exact ext_refl _ | apply ext_over | apply ext_alloc | (refine ext_set _ ?_ ?_;exact Nat.le_refl _))))
theorem retire_any (s:St) (w:World):Calls Tryz.prog 86 #[stV s] w (Ret (stV ⟨s.g,2,s.k⟩) w):=by
 go_enter Tryz.func86,Tryz.ntmps86
 go_wp2
 refine bodyPost_ret (v:=stV ⟨s.g,2,s.k⟩) (by simp [results,Tryz.results86,go_sem]) rfl (Ret.mk (by repeat (first | exact ext_refl _ | apply ext_over | apply ext_alloc | (refine ext_set _ ?_ ?_;exact Nat.le_refl _))))
theorem freed_any (s:St) (most:Int) (w:World):Calls Tryz.prog 273 #[stV s,.int .i64 most] w (Ret (stV (s.freed most)) w):=by
 by_cases h:most ≤ s.g
 ·have e:s.freed most = ⟨s.g,3,0⟩:=by unfold St.freed;rw [if_pos h]
  rw [e]
  clear e
  go_enter Tryz.func273,Tryz.ntmps273
  go_wp2
  refine bodyPost_ret (v:=stV ⟨s.g,3,0⟩) (by simp [results,Tryz.results273,go_sem]) rfl (Ret.mk (by repeat (first | exact ext_refl _ | apply ext_over | apply ext_alloc | (refine ext_set _ ?_ ?_;exact Nat.le_refl _))))
 ·have e:s.freed most = ⟨wrap64 (s.g+1),0,0⟩:=by unfold St.freed;rw [if_neg h]
  rw [e]
  clear e
  go_enter Tryz.func273,Tryz.ntmps273
  go_wp2
  refine bodyPost_ret (v:=stV ⟨wrap64 (s.g+1),0,0⟩) (by simp [results,Tryz.results273,go_sem]) rfl (Ret.mk (by repeat (first | exact ext_refl _ | apply ext_over | apply ext_alloc | (refine ext_set _ ?_ ?_;exact Nat.le_refl _))))
abbrev layV:Value:=.agg #[.int .i64 0,.int .i64 30,.int .i64 30,.int .i64 2,.int .i64 32,.int .i64 2]
theorem slayout_any (w:World):Calls Tryz.prog 80 #[] w (Ret layV w):=by
 go_enter Tryz.func80,Tryz.ntmps80
 go_wp2
 refine bodyPost_ret (v:=layV) (by simp [results,Tryz.results80,go_sem]) rfl (Ret.mk (by repeat (first | exact ext_refl _ | apply ext_over | apply ext_alloc | (refine ext_set _ ?_ ?_;exact Nat.le_refl _))))
abbrev numV (s:St):Value:=.agg #[.int .u64 (U (bvI s.g)),.int .u64 (U (bvI s.m)),.int .u64 (U (bvI s.k))]
theorem numbers_any (s:St) (h:s.ok) (w:World):Calls Tryz.prog 81 #[stV s] w (Ret (numV s) w):=by
 obtain ⟨h1,h2,h3,h4,h5,h6⟩:=h
 unfold numV
 rw [U_bvI _ h1 (by omega),U_bvI _ h3 (by omega),U_bvI _ h5 (by omega)]
 go_enter Tryz.func81,Tryz.ntmps81
 go_wp2
 refine bodyPost_ret (v:=.agg #[.int .u64 s.g,.int .u64 s.m,.int .u64 s.k]) (by simp [results,Tryz.results81,go_sem]) rfl (Ret.mk (by repeat (first | exact ext_refl _ | apply ext_over | apply ext_alloc | (refine ext_set _ ?_ ?_;exact Nat.le_refl _))))
def put9 (b:Nat) (x0 x1 x2 x3 x4 x5 x6 x7 x8:Value) (w:World):World:=
 (((((((((w.setCell ⟨b,0,none⟩ x0).setCell ⟨b,1,none⟩ x1).setCell ⟨b,2,none⟩ x2).setCell ⟨b,3,none⟩ x3).setCell ⟨b,4,none⟩ x4).setCell ⟨b,5,none⟩ x5).setCell ⟨b,6,none⟩ x6).setCell ⟨b,7,none⟩ x7).setCell ⟨b,8,none⟩ x8)
theorem put9_ext {u w:World} {b:Nat} (x0 x1 x2 x3 x4 x5 x6 x7 x8:Value) (h:Ext u w) (hb:u.heap.size ≤ b):Ext u (put9 b x0 x1 x2 x3 x4 x5 x6 x7 x8 w):=
 ext_set _ hb (ext_set _ hb (ext_set _ hb (ext_set _ hb (ext_set _ hb (ext_set _ hb (ext_set _ hb (ext_set _ hb (ext_set _ hb (h)))))))))
theorem put9_block {w:World} {b:Nat} {c0 c1 c2 c3 c4 c5 c6 c7 c8:Value} {t:TypeId} {f:Nat × Nat} (x0 x1 x2 x3 x4 x5 x6 x7 x8:Value) (h:w.heap[b]? = some (.cells #[c0,c1,c2,c3,c4,c5,c6,c7,c8] t f)) :
  (put9 b x0 x1 x2 x3 x4 x5 x6 x7 x8 w).heap[b]? = some (.cells #[x0,x1,x2,x3,x4,x5,x6,x7,x8] t f):=by
 have h0:=set_same (o:=0) x0 h
 have h1:=set_same (o:=1) x1 h0
 have h2:=set_same (o:=2) x2 h1
 have h3:=set_same (o:=3) x3 h2
 have h4:=set_same (o:=4) x4 h3
 have h5:=set_same (o:=5) x5 h4
 have h6:=set_same (o:=6) x6 h5
 have h7:=set_same (o:=7) x7 h6
 have h8:=set_same (o:=8) x8 h7
 unfold put9
 rw [h8]
 simp only [List.setIfInBounds_toArray,List.set_cons_zero,List.set_cons_succ]
theorem put9_other {w:World} {b k:Nat} (x0 x1 x2 x3 x4 x5 x6 x7 x8:Value) (h:k ≠ b):(put9 b x0 x1 x2 x3 x4 x5 x6 x7 x8 w).heap[k]? = w.heap[k]?:=by
 unfold put9
 rw [set_other _ h,set_other _ h,set_other _ h,set_other _ h,set_other _ h,set_other _ h,set_other _ h,set_other _ h,set_other _ h]
theorem put9_size {w:World} {b:Nat} (x0 x1 x2 x3 x4 x5 x6 x7 x8:Value):(put9 b x0 x1 x2 x3 x4 x5 x6 x7 x8 w).heap.size = w.heap.size:=by
 unfold put9
 rw [set_size,set_size,set_size,set_size,set_size,set_size,set_size,set_size,set_size]
structure Nin (b:Nat) (x0 x1 x2 x3 x4 x5 x6 x7 x8:Value) (w:World):Prop where
 c0:w.cell? ⟨b,0,none⟩ = some x0
 c1:w.cell? ⟨b,1,none⟩ = some x1
 c2:w.cell? ⟨b,2,none⟩ = some x2
 c3:w.cell? ⟨b,3,none⟩ = some x3
 c4:w.cell? ⟨b,4,none⟩ = some x4
 c5:w.cell? ⟨b,5,none⟩ = some x5
 c6:w.cell? ⟨b,6,none⟩ = some x6
 c7:w.cell? ⟨b,7,none⟩ = some x7
 c8:w.cell? ⟨b,8,none⟩ = some x8
 cz:∀ o,w.frozen? ⟨b,o,none⟩ = false
 lt:b < w.heap.size
theorem nin_of {w:World} {b:Nat} {x0 x1 x2 x3 x4 x5 x6 x7 x8:Value} {t:TypeId} (h:w.heap[b]? = some (.cells #[x0,x1,x2,x3,x4,x5,x6,x7,x8] t (0,0))):Nin b x0 x1 x2 x3 x4 x5 x6 x7 x8 w:=
 ⟨cell_at h rfl,cell_at h rfl,cell_at h rfl,cell_at h rfl,cell_at h rfl,cell_at h rfl,cell_at h rfl,cell_at h rfl,cell_at h rfl,fun _ => free_at h,(Array.getElem?_eq_some_iff.1 h).1⟩
theorem Agr.of_put9 {F:Nat → Prop} {w:World} {b:Nat} (x0 x1 x2 x3 x4 x5 x6 x7 x8:Value) (hn:¬ F b):Agr F w (put9 b x0 x1 x2 x3 x4 x5 x6 x7 x8 w):=fun _ hj => put9_other _ _ _ _ _ _ _ _ _ fun e => hn (e ▸ hj)
def put3 (b:Nat) (y0 y1 y2:Value) (w:World):World:=((w.setCell ⟨b,0,none⟩ y0).setCell ⟨b,1,none⟩ y1).setCell ⟨b,2,none⟩ y2
theorem put3_ext {u w:World} {b:Nat} (y0 y1 y2:Value) (h:Ext u w) (hb:u.heap.size ≤ b):Ext u (put3 b y0 y1 y2 w):=ext_set y2 hb (ext_set y1 hb (ext_set y0 hb h))
theorem put3_block {w:World} {b:Nat} {x0 x1 x2:Value} {t:TypeId} {f:Nat × Nat} (y0 y1 y2:Value) (h:w.heap[b]? = some (.cells #[x0,x1,x2] t f)):(put3 b y0 y1 y2 w).heap[b]? = some (.cells #[y0,y1,y2] t f):=by
 have h1:=set_same (o:=0) y0 h
 have h2:=set_same (o:=1) y1 h1
 have h3:=set_same (o:=2) y2 h2
 unfold put3
 rw [h3]
 simp only [List.setIfInBounds_toArray,List.set_cons_zero,List.set_cons_succ]
theorem put3_other {w:World} {b k:Nat} (y0 y1 y2:Value) (h:k ≠ b):(put3 b y0 y1 y2 w).heap[k]? = w.heap[k]?:=by
 unfold put3
 rw [set_other _ h,set_other _ h,set_other _ h]
structure Gr where
 n:Int
 g:Int
 e:Int
abbrev grV (r:Gr):Value:=.agg #[.int .i64 r.n,.int .i64 r.g,.int .i64 r.e]
def at3 (i:Nat):Value → Value
 | .agg xs => xs.getD i .nilFunc
 | v => v
def vS3 (r:Value) (a:Acc) (fn:Value):Value:=.agg #[at3 0 r,at3 1 r,at3 2 r,.int .i64 a.op,.int .i64 a.at_,.int .u64 (U a.a),.int .u64 (U a.b),fn,.pointer none]
def kS:Kd St:=⟨vS3,.agg #[.int .i64 0,.int .i64 0,.int .i64 0],stV⟩
def kG:Kd Gr:=⟨vS3,.agg #[.int .i64 0,.int .i64 0,.int .i64 0],grV⟩
def tw1T (p:Pl) (t:Int) (N:Nat) (tr:Tr Int) (r:Int):Tr Int:=if r = -1 then (scanT p t N).bind fun _ => tr else .done r
def twcT (p:Pl) (t:Int) (N:Nat) (tr:Tr Int):Tr Int:=tr.bind (tw1T p t N tr)
def bec1T (p:Pl) (n:Int) (f:St → St) (x:BitVec 64):Tr St:=(setT (p.stF n) (f (ofS x)).word).bind fun _ => .done (f (ofS x))
def becT (p:Pl) (n:Int) (f:St → St):Tr St:=(getT (p.stF n)).bind (bec1T p n f)
def liveF (k:Int) (s:St):St:=⟨s.g,1,k⟩
def new1T (p:Pl) (k n:Int):Tr Gr:=if n = -1 then .done ⟨-1,0,4⟩ else (becT p n (liveF k)).bind fun s => .done ⟨n,s.g,0⟩
def newT (p:Pl) (t k:Int) (N:Nat):Tr Gr:=(twcT p t N (popT p N)).bind (new1T p k)
def stash1T (n r:Int):Tr Int:=if r = -1 then .done (-1) else .done n
def stashT (p:Pl) (t n:Int) (N:Nat):Tr Int:=(twcT p t N (putT p t n)).bind (stash1T n)
def FS (f:St → St) (F:Nat → Prop) (fn:Value) (w:World):Prop:=
 ∃ g caps,fn = .func (.func g) #[] caps ∧ Enters g ∧ ∀ (s:St) (w':World),Agr F w w' → Calls Tryz.prog g (#[stV s] ++ caps) w' (Ret (stV (f s)) w')
theorem FS.agr {f:St → St} {F:Nat → Prop} {fn:Value} {w w':World} (h:FS f F fn w) (ha:Agr F w w'):FS f F fn w':=by
 obtain ⟨g,caps,e,he,hc⟩:=h
 exact ⟨g,caps,e,he,fun s u hu => hc s u (ha.trans hu)⟩
end Go.Proofs.YthjklbonebnekaaGreat

