/-
  A region that draws its order: what only reads, in every world of a class, comes first; what writes, makes or calls comes behind it, one by one; behind one that waits for all that reads, the class may be another. One walk for every order. Conditions: those of each theorem.
-/
import Derived.Test.YthjklbonebnekaaGreatGaa
import Derived.Test.YthjklbonebnekaaGreatRows
import Derived.WalkKit
import Derived.WalkSpells
import Derived.WalkLawsBesides
import Derived.Deep.QuietTactic
import Derived.BigQuiet
import Derived.OrdersHeld
import Derived.Lib.Hide
import Derived.Deep.RegionWith
set_option maxRecDepth 8000
set_option maxHeartbeats 4000000
namespace Go.Proofs.YthjklbonebnekaaGreat
open Go Go.RowKit
def moverB (o:Oper):Bool:=match o.op with
 | .move _ | .assign _ | .pick _ _ _ | .build _ _ | .load _ _ | .nilCheck _ | .binOp _ _ _ _ _ | .unOp _ _ _ | .convert _ _ _ | .fieldAddr _ _ _ | .field _ _ _ | .indexAddr _ _ _ | .index _ _ _ | .extract _ _ | .slice _ _ _ _ _ | .makeFunc _ _ _ => true
 | .call c => match c.callee with | .builtin .len => true | _ => false
 | _ => false
theorem val_of {α:Type} (P:Program) (w w':World) (n:Next) (s:Sem α) (f:α → Value) (h:(do pure (Next.value (f (← s))):Sem Next).run P w = .ok n w'):∃ v,n = .value v:=by
 cases hs:s.run P w with
 | ok x w1 => simp [hs] at h;exact ⟨_,h.1.symm⟩
 | halt x w1 => simp [hs] at h
theorem val_len (P:Program) (w w':World) (n:Next) (ρ:Operand → Value) (c:Call) (t:TypeId) (hc:c.callee = .builtin .len) (h:(do let d ← resolve ρ c t;invoke d.target d.args).run P w = .ok n w'):∃ v,n = .value v:=by
 unfold resolve at h
 rw [hc] at h
 simp only [Sem.run_bind,Sem.run_pure] at h
 exact val_of _ _ _ _ _ id h
theorem val_nil (P:Program) (w w':World) (n:Next) (o:Oper) (ρ:Operand → Value) (x:Operand) (ho:o.op = .nilCheck x) (h:(execOp ρ o).run P w = .ok n w'):∃ v,n = .value v:=by
 unfold execOp at h
 rw [ho] at h
 simp only at h
 generalize ρ x = y at h
 cases y with
 | func a b c =>
  cases a with
  | method name =>
   simp only at h
   split at h
   ·simp [go_sem] at h
   ·simp at h
    rename_i t z _
    cases hs:(nilAhead (P.types.size+Made.depth) t z name).run P w with
    | ok x w1 =>
     rw [hs] at h
     simp only [Result.andThen] at h
     split at h
     ·simp at h;exact ⟨_,h.1.symm⟩
     ·cases h
    | halt x w1 => rw [hs] at h;simp at h
   ·simp at h;exact ⟨_,h.1.symm⟩
  | _ => simp at h;exact ⟨_,h.1.symm⟩
 | pointer a => cases a <;> simp [go_sem] at h;exact ⟨_,h.1.symm⟩
 | _ => first | (simp [go_sem] at h;done) | (simp at h;exact ⟨_,h.1.symm⟩)
theorem value_of_mover {o:Oper} (h:moverB o = true) {ρ:Operand → Value} {P:Program} {w w':World} {n:Next} (hr:(execOp ρ o).run P w = .ok n w'):∃ v,n = .value v:=by
 have hr0:=hr
 unfold execOp at hr
 unfold moverB at h
 split at hr <;> rename_i ho <;> rw [ho] at h <;> first | exact val_of _ _ _ _ _ id hr | (exact val_of _ _ _ _ _ _ hr) | (exact val_nil _ _ _ _ _ _ _ ho hr0) | (simp at h;done) | (simp at hr;exact ⟨_,hr.1.symm⟩) | skip
 rename_i c
 refine val_len _ _ _ _ _ c _ ?_ hr
 simp only at h
 split at h
 ·assumption
 ·cases h
section
variable {P:Program} {ops:Array Oper} {S:World → Prop}
theorem yieldsIf_of_quiet {o:Oper} {a:Act} {v:Value} (hm:moverB o = true) (h:∀ w,S w → o.quietAt P a S w v) (hw:Region.wanted o (yielded ops a.tmps) = true):YieldsIf P ops S o v a:=by
 refine .inl ⟨hw,fun w hS => ?_⟩
 have h1:=h w hS
 unfold Oper.quietAt at h1
 cases hr:(execOp a.eval o).run P w with
 | ok n w' =>
  rw [hr] at h1
  obtain ⟨u,rfl⟩:=value_of_mover hm hr
  obtain ⟨rfl,rfl⟩:=h1
  rfl
 | halt x w' => rw [hr] at h1;exact h1.elim
def wpAnyX (P:Program) (ops:Array Oper) (Q:Exit → Act → World → Prop) (late:List Nat):Nat → (World → Prop) → Array Bool → Act → World → Prop
 | 0,_,listed,a,w => Region.ready .any ops listed = [] ∧ Q .normal a w
 | fuel+1,S,listed,a,w => (Region.ready .any ops listed = [] → Q .normal a w) ∧
  ∀ i ∈ Region.ready .any ops listed,wpOp P ops Q i (fun a' w' => if late.contains i = true then ∃ S':World → Prop,S' w' ∧ wpAnyX P ops Q late fuel S' (listed.setIfInBounds i true) a' w'
   else S w' ∧ wpAnyX P ops Q late fuel S (listed.setIfInBounds i true) a' w') a w
theorem any_of_x {Q:Exit → Act → World → Prop} {late:List Nat}:∀ (fuel:Nat) (S:World → Prop) (listed:Array Bool) (a:Act) (w:World),wpAnyX P ops Q late fuel S listed a w → wpAny P .any ops Q fuel listed a w
 | 0,_,_,_,_,h => h
 | fuel+1,S,listed,_,_,h => ⟨h.1,fun i hi => wpOp_mono (fun a' w' h' => by
   by_cases hl:late.contains i = true
   ·rw [if_pos hl] at h'
    obtain ⟨S',_,h2⟩:=h'
    exact any_of_x fuel S' _ a' w' h2
   ·rw [if_neg hl] at h'
    exact any_of_x fuel S _ a' w' h'.2) (h.2 i hi)⟩
theorem x_done {Q:Exit → Act → World → Prop} {late:List Nat} {S:World → Prop} {listed:Array Bool} {a:Act} {w:World} (hr:Region.ready .any ops listed = []) (h:Q .normal a w):∀ fuel,wpAnyX P ops Q late fuel S listed a w
 | 0 => ⟨hr,h⟩
 | _+1 => ⟨fun _ => h,by rw [hr];simp⟩
def Closed (ops:Array Oper) (listed:Array Bool):Prop:=∀ j oj,ops[j]? = some oj → listed.getD j false = true → ∀ e ∈ oj.after,Region.binds .any e = true → listed.getD e.on false = true
theorem Closed.set {listed:Array Bool} {i:Nat} (h:Closed ops listed) (hi:i ∈ Region.ready .any ops listed):Closed ops (listed.setIfInBounds i true):=by
 intro j oj hj hl e he hb
 obtain ⟨_,oi,hoi,hall⟩:=mem_ready.1 hi
 by_cases hij:i = j
 ·subst hij
  obtain rfl:oj = oi:=Option.some.inj (hj.symm.trans hoi)
  exact getD_set_true (hall e he hb)
 ·rw [getD_set_ne false hij] at hl
  exact getD_set_true (h j oj hj hl e he hb)
theorem Closed.none (n:Nat):Closed ops (Array.replicate n false):=by
 intro j oj _ hl
 have:(Array.replicate n false).getD j false = false:=by
  rcases Nat.lt_or_ge j n with h | h
  ·simp [h]
  ·simp [h]
 rw [this] at hl
 cases hl
def waitT (ops:Array Oper) (i:Nat):Nat → Nat → Bool
 | 0,_ => false
 | f+1,z => match ops[z]? with
  | some oz => (oz.after.any fun e => Region.binds .any e && e.on == i) || (oz.after.any fun e => Region.binds .any e && waitT ops i f e.on)
  | none => false
theorem waitT_listed {listed:Array Bool} (hc:Closed ops listed) {i:Nat}:∀ (f z:Nat),waitT ops i f z = true → (∀ oz,ops[z]? = some oz → ∀ e ∈ oz.after,Region.binds .any e = true → listed.getD e.on false = true) → listed.getD i false = true
 | 0,_,h,_ => by cases h
 | f+1,z,h,hall => by
  unfold waitT at h
  cases hz:ops[z]? with
  | none => rw [hz] at h;cases h
  | some oz =>
   rw [hz] at h
   simp only [Bool.or_eq_true] at h
   rcases h with h | h
   ·obtain ⟨e,he,hb⟩:=Array.any_eq_true'.1 h
    simp only [Bool.and_eq_true,beq_iff_eq] at hb
    rw [← hb.2]
    exact hall oz hz e he hb.1
   ·obtain ⟨e,he,hb⟩:=Array.any_eq_true'.1 h
    simp only [Bool.and_eq_true] at hb
    have hl:=hall oz hz e he hb.1
    exact waitT_listed hc f e.on hb.2 fun oz' hz' e' he' hb' => hc e.on oz' hz' hl e' he' hb'
def waitB (ops:Array Oper) (late:List Nat) (listed:Array Bool) (i:Nat):Bool:=
 late.all fun z => z == i || listed.getD z true || waitT ops i 4 z
theorem unlisted {listed:Array Bool} {i:Nat} (h:listed.getD i true = false):listed.getD i false = false:=by
 rcases Nat.lt_or_ge i listed.size with h' | h'
 ·simp [h'] at h ⊢;exact h
 ·simp [Array.getElem?_eq_none h'] at h
theorem x_first {Q:Exit → Act → World → Prop} {late:List Nat} {S:World → Prop} {i:Nat} {oi:Oper} {v:Value} (hi:ops[i]? = some oi) (hsel:Region.noSelect ops = true) (hlate:late.contains i = false)
  (hQ:∀ c a w,Q (.panic c) (a.put oi.dst v) w → Q (.panic c) a w) :
  ∀ (fuel:Nat) (listed:Array Bool) (a:Act) (w:World),
   (∀ j oj,ops[j]? = some oj → j ≠ i → listed.getD j true = false → (∀ e ∈ oj.after,Region.binds .any e = true → e.on ≠ i) → oi.apart ops oj = true) →
   (∀ z,late.contains z = true → z ≠ i → ∀ l':Array Bool,Closed ops l' → l'.getD i false = false → (listed.getD z true = true → l'.getD z true = true) → z ∉ Region.ready .any ops l') → Closed ops listed →
   i ∈ Region.ready .any ops listed → YieldsIf P ops S oi v a → S w →
   wpAnyX P ops Q late fuel S (listed.setIfInBounds i true) (a.put oi.dst v) w → wpAnyX P ops Q late (fuel+1) S listed a w:=by
 have hput:∀ {K:Act → World → Prop} {a:Act} {w:World},YieldsIf P ops S oi v a → S w → K (a.put oi.dst v) w → wpOp P ops Q i K a w:=fun hy hS h => hy.wpOp hi hS h
 intro fuel
 induction fuel with
 | zero =>
  intro listed a w _ hwt hcl hr hy hS H
  refine ⟨fun h => (by rw [h] at hr;cases hr),fun j hj => ?_⟩
  by_cases hji:j = i
  ·subst hji;exact hput hy hS (by rw [if_neg (by rw [hlate];decide)];exact ⟨hS,H⟩)
  ·have:=ready_mono hj hji
   rw [H.1] at this
   cases this
 | succ fuel ih =>
  intro listed a w hfree hwt hcl hr hy hS H
  refine ⟨fun h => (by rw [h] at hr;cases hr),fun j hj => ?_⟩
  by_cases hji:j = i
  ·subst hji;exact hput hy hS (by rw [if_neg (by rw [hlate];decide)];exact ⟨hS,H⟩)
  ·have hun:=unlisted (mem_ready.1 hr).1
   have hjl:¬ late.contains j = true:=fun hl => hwt j hl hji listed hcl hun (fun h => h) hj
   have h1:=H.2 j (ready_mono hj hji)
   obtain ⟨hjun,oj,hoj,hall⟩:=mem_ready.1 hj
   have hnot:∀ e ∈ oj.after,Region.binds .any e = true → e.on ≠ i:=fun e he hb heq => by
    have h2:=hall e he hb
    rw [heq,hun] at h2
    cases h2
   have h2:=wpOp_putIf hoj (hfree j oj hoj hji hjun hnot) (fun cs b => Region.noSelect_spec hsel i oi cs b hi) (fun cs b => Region.noSelect_spec hsel j oj cs b hoj) hQ hy h1
   refine wpOp_mono (fun a' w' h3 => ?_) h2
   rw [if_neg hjl] at h3 ⊢
   refine ⟨h3.2.1,ih (listed.setIfInBounds j true) a' w' ?_ ?_ (hcl.set hj) (ready_mono hr (Ne.symm hji)) h3.1 h3.2.1 ?_⟩
   ·intro k ok hk hki hkun hno
    refine hfree k ok hk hki ?_ hno
    by_cases hjk:j = k
    ·subst hjk;exact hjun
    ·rw [getD_set_ne true hjk] at hkun;exact hkun
   ·intro z hz hzi l' hcl' hl' hmono
    refine hwt z hz hzi l' hcl' hl' (fun h => hmono ?_)
    by_cases hjz:j = z
    ·subst hjz;exact absurd hz hjl
    ·rw [getD_set_ne true hjz];exact h
   ·rw [Array.setIfInBounds_comm _ _ hji]
    exact h3.2.2
def mixQ (Q:Exit → Act → World → Prop) (S:World → Prop) (K:Act → World → Prop):Exit → Act → World → Prop
 | .normal,a,w => S w ∧ K a w
 | e,a,w => Q e a w
def lateQ (Q:Exit → Act → World → Prop) (K:(World → Prop) → Act → World → Prop):Exit → Act → World → Prop
 | .normal,a,w => ∃ S:World → Prop,S w ∧ K S a w
 | e,a,w => Q e a w
def wpMix (P:Program) (ops:Array Oper) (Q:Exit → Act → World → Prop):List (Nat × List Oper) → (World → Prop) → Act → World → Prop
 | [],_,a,w => Q .normal a w
 | (0,ms) :: rest,S,a,w => wpQuiet P ops S (fun a' => wpMix P ops Q rest S a' w) ms a
 | (1,ws) :: rest,S,a,w => wpList P ops (mixQ Q S (wpMix P ops Q rest S)) ws a w
 | (_,ws) :: rest,_,a,w => wpList P ops (lateQ Q (wpMix P ops Q rest)) ws a w
def takeB (ops:Array Oper) (late:List Nat):List Nat → Array Bool → Option (Array Bool)
 | [],listed => some listed
 | i :: is,listed => if (match ops[i]? with | some o => moverB o | none => false) && !late.contains i && (Region.ready .any ops listed).contains i && Region.free .any ops listed i && waitB ops late listed i then takeB ops late is (listed.setIfInBounds i true) else none
def mixB (ops:Array Oper) (late:List Nat):List (Nat × List Nat) → Array Bool → Bool
 | [],listed => (Region.ready .any ops listed).isEmpty
 | (0,is) :: rest,listed => match takeB ops late is listed with | some listed' => mixB ops late rest listed' | none => false
 | (k+1,is) :: rest,listed => match is with | [i] => decide (Region.ready .any ops listed = [i]) && (ops[i]?).isSome && (late.contains i == decide (0 < k)) && mixB ops late rest (listed.setIfInBounds i true) | _ => false
def pickL (l:List Oper) (is:List Nat):List Oper:=is.map fun i => l.getD i default
def pieces (ops:Array Oper) (l:List (Nat × List Nat)):List (Nat × List Oper):=l.map fun x => (x.1,pickL ops.toList x.2)
def lates (l:List (Nat × List Nat)):List Nat:=l.flatMap fun x => if 2 ≤ x.1 then x.2 else []
theorem pick_at {ops:Array Oper} {i:Nat} {o:Oper} (h:ops[i]? = some o) (is:List Nat):pickL ops.toList (i :: is) = o :: pickL ops.toList is:=by
 unfold pickL
 rw [List.map_cons,List.getD_eq_getElem?_getD,Array.getElem?_toList,h]
 rfl
def count (l:List (Nat × List Nat)):Nat:=(l.map fun x => x.2.length).sum
theorem x_take {Q:Exit → Act → World → Prop} {late:List Nat} (hs:Region.noSelect ops = true) (hQ:∀ d v c a w,Q (.panic c) (Act.put a d v) w → Q (.panic c) a w) {K:Act → Prop} {w:World} (hS:S w) (f:Nat) (listed':Array Bool)
  (hK:∀ a,Closed ops listed' → K a → wpAnyX P ops Q late f S listed' a w):∀ (is:List Nat) (listed:Array Bool) (a:Act),Closed ops listed → takeB ops late is listed = some listed' →
  wpQuiet P ops S K (pickL ops.toList is) a → wpAnyX P ops Q late (is.length+f) S listed a w
 | [],listed,a,hcl,hB,h => by
  obtain rfl:listed = listed':=by simpa [takeB] using hB
  simpa using hK a hcl h
 | i :: is,listed,a,hcl,hB,h => by
  unfold takeB at hB
  cases ho:ops[i]? with
  | none => simp [ho] at hB
  | some o =>
   simp only [ho] at hB
   split at hB
   ·rename_i hc
    obtain ⟨h1234,h5⟩:=Bool.and_eq_true_iff.1 hc
    obtain ⟨h123,h3⟩:=Bool.and_eq_true_iff.1 h1234
    obtain ⟨h12,h2⟩:=Bool.and_eq_true_iff.1 h123
    obtain ⟨h1,h4⟩:=Bool.and_eq_true_iff.1 h12
    have h4':late.contains i = false:=by simpa using h4
    rw [pick_at ho] at h
    simp only [wpQuiet] at h
    rw [show (i :: is).length+f = (is.length+f)+1 by simp;omega]
    have hri:i ∈ Region.ready .any ops listed:=by simpa using h2
    have hw5:∀ z,late.contains z = true → z ≠ i → ∀ l':Array Bool,Closed ops l' → l'.getD i false = false → (listed.getD z true = true → l'.getD z true = true) → z ∉ Region.ready .any ops l':=by
     intro z hz hzi l' hcl' hl' hm hr
     obtain ⟨hun,oz,hoz,hall⟩:=mem_ready.1 hr
     have h6:=List.all_eq_true.1 h5 z (by simpa using hz)
     have hnl:listed.getD z true = false:=by
      cases hh:listed.getD z true with
      | false => rfl
      | true => rw [hm hh] at hun;cases hun
     simp only [Bool.or_eq_true,beq_iff_eq,hzi,hnl,false_or,Bool.false_eq_true] at h6
     have h7:=waitT_listed hcl' 4 z h6 fun oz' hz' e he hb => by
      obtain rfl:oz' = oz:=Option.some.inj (hz'.symm.trans hoz)
      exact hall e he hb
     rw [hl'] at h7
     cases h7
    by_cases hw:Region.wanted o (yielded ops a.tmps) = true
    ·rw [if_pos hw] at h
     obtain ⟨v,hv,hn⟩:=h
     exact x_first ho hs h4' (hQ _ _) _ listed a w (Region.free_spec ho h3) hw5 hcl hri (yieldsIf_of_quiet h1 hv hw) hS (x_take hs hQ hS f listed' hK is _ _ (hcl.set hri) hB hn)
    ·rw [if_neg hw] at h
     exact x_first ho hs h4' (hQ _ _) _ listed a w (Region.free_spec ho h3) hw5 hcl hri (v:=undef) (.inr ⟨by simpa using hw,rfl⟩) hS (x_take hs hQ hS f listed' hK is _ _ (hcl.set hri) hB h)
   ·cases hB
theorem op_mix {Q Q':Exit → Act → World → Prop} (hq:∀ e a w,e ≠ .normal → Q' e a w → Q e a w) {K K':Act → World → Prop} {o:Oper} {a:Act} {w:World} (hk:∀ a w,K a w → K' a w) (h:o.wp P a w K Q'):o.wp P a w K' Q:=by
 unfold Oper.wp at h ⊢
 revert h
 generalize (execOp a.eval o).run P w = r
 intro h
 cases r with
 | ok n w' =>
  cases n <;> simp only [Oper.upon] at h ⊢ <;> first | exact hk _ _ h | exact h | exact hq _ _ _ (by simp) h | skip
  case enter f args =>
   refine Calls.mono h fun e w'' he => ?_
   cases e with
   | returned v => exact hk _ _ he
   | panicked c => exact hq (.panic c) _ _ (by simp) he
   | outgrown =>
    obtain ⟨a6,w6,h7⟩:=(he:LetsOut Q')
    exact ⟨a6,w6,hq .outgrown _ _ (by simp) h7⟩
  case row row args => exact Rows.mono h fun u w'' he => hk _ _ he
 | halt x w' => cases x <;> simp only [Oper.upon] at h ⊢ <;> first | exact hq _ _ _ (by simp) h | exact h
theorem x_of_mix {Q:Exit → Act → World → Prop} {late:List Nat} (hs:Region.noSelect ops = true) (hQ:∀ d v c a w,Q (.panic c) (Act.put a d v) w → Q (.panic c) a w):∀ (l:List (Nat × List Nat)) (S:World → Prop) (listed:Array Bool) (a:Act) (w:World),
  Closed ops listed → mixB ops late l listed = true → S w → wpMix P ops Q (pieces ops l) S a w → wpAnyX P ops Q late (count l) S listed a w
 | [],S,listed,a,w,hcl,hB,hS,h => by
  unfold mixB at hB
  exact x_done (by simpa using hB) h _
 | (0,is) :: rest,S,listed,a,w,hcl,hB,hS,h => by
  unfold mixB at hB
  split at hB
  ·rename_i listed' ht
   have e:count ((0,is) :: rest) = is.length+count rest:=by simp [count]
   rw [e]
   exact x_take hs hQ hS _ listed' (fun a' hcl' ha => x_of_mix hs hQ rest S listed' a' w hcl' hB hS ha) is listed a hcl ht h
  ·cases hB
 | (k+1,is) :: rest,S,listed,a,w,hcl,hB,hS,h => by
  unfold mixB at hB
  split at hB
  ·rename_i i
   simp only [Bool.and_eq_true,decide_eq_true_eq,beq_iff_eq] at hB
   obtain ⟨⟨⟨h1,h2⟩,h5⟩,h3⟩:=hB
   obtain ⟨o,ho⟩:=Option.isSome_iff_exists.1 h2
   have e:count ((k+1,[i]) :: rest) = count rest+1:=by simp [count];omega
   rw [e]
   have ep:pieces ops ((k+1,[i]) :: rest) = (k+1,[o]) :: pieces ops rest:=by
    unfold pieces
    rw [List.map_cons,pick_at ho]
    rfl
   rw [ep] at h
   refine ⟨fun h0 => (by rw [h1] at h0;cases h0),fun j hj => ?_⟩
   have hcl':=hcl.set hj
   rw [h1] at hj
   obtain rfl:j = i:=by simpa using hj
   have main:∀ (Q':Exit → Act → World → Prop),(∀ e a w,e ≠ .normal → Q' e a w → Q e a w) → (∀ a' w',Q' .normal a' w' → (if late.contains j = true then ∃ S':World → Prop,S' w' ∧ wpAnyX P ops Q late (count rest) S' (listed.setIfInBounds j true) a' w'
     else S w' ∧ wpAnyX P ops Q late (count rest) S (listed.setIfInBounds j true) a' w')) → wpList P ops Q' [o] a w → wpOp P ops Q j (fun a' w' => if late.contains j = true then ∃ S':World → Prop,S' w' ∧ wpAnyX P ops Q late (count rest) S' (listed.setIfInBounds j true) a' w'
     else S w' ∧ wpAnyX P ops Q late (count rest) S (listed.setIfInBounds j true) a' w') a w:=by
    intro Q' hq key hl
    simp only [wpList] at hl
    unfold wpOp
    simp only [ho]
    split
    ·rename_i hw
     rw [if_pos hw] at hl
     rcases hl with hl | ⟨h5,h6⟩
     ·exact .inl (op_mix hq key hl)
     ·obtain ⟨a6,w6,h7⟩:=h6
      exact .inr ⟨h5,a6,w6,hq _ _ _ (by simp) h7⟩
    ·rename_i hw
     rw [if_neg hw] at hl
     exact key _ _ hl
   cases k with
   | zero =>
    refine main (mixQ Q S (wpMix P ops Q (pieces ops rest) S)) (fun e a w he hh => by cases e <;> first | exact hh | exact absurd rfl he) (fun a' w' hk => ?_) h
    rw [if_neg (by rw [h5];decide)]
    exact ⟨hk.1,x_of_mix hs hQ rest S _ a' w' hcl' h3 hk.1 hk.2⟩
   | succ k =>
    refine main (lateQ Q (wpMix P ops Q (pieces ops rest))) (fun e a w he hh => by cases e <;> first | exact hh | exact absurd rfl he) (fun a' w' hk => ?_) h
    rw [if_pos (by rw [h5];simp)]
    obtain ⟨S',hS',hk'⟩:=hk
    exact ⟨S',hS',x_of_mix hs hQ rest S' _ a' w' hcl' h3 hS' hk'⟩
  ·cases hB
def calm (Q:Exit → Act → World → Prop):Exit → Act → World → Prop
 | .panic _,_,_ => False
 | e,a,w => Q e a w
theorem calm_out {Q:Exit → Act → World → Prop} (e:Exit) (a:Act) (w:World) (h:calm Q e a w):Q e a w:=by
 cases e <;> first | exact h | exact (h:False).elim
theorem mixQ_mk {Q:Exit → Act → World → Prop} {S:World → Prop} {K:Act → World → Prop} {a:Act} {w:World} (hS:S w) (h:K a w):mixQ Q S K .normal a w:=⟨hS,h⟩
theorem lateQ_mk {Q:Exit → Act → World → Prop} (S:World → Prop) {K:(World → Prop) → Act → World → Prop} {a:Act} {w:World} (hS:S w) (h:K S a w):lateQ Q K .normal a w:=⟨S,hS,h⟩
theorem mix_reads {Q:Exit → Act → World → Prop} {ms:List Oper} {rest:List (Nat × List Oper)} {a:Act} {w:World} (h:wpQuiet P ops S (fun a' => wpMix P ops Q rest S a' w) ms a):wpMix P ops Q ((0,ms) :: rest) S a w:=h
theorem mix_acts {Q:Exit → Act → World → Prop} {ws:List Oper} {rest:List (Nat × List Oper)} {a:Act} {w:World} (h:wpList P ops (mixQ Q S (wpMix P ops Q rest S)) ws a w):wpMix P ops Q ((1,ws) :: rest) S a w:=h
theorem mix_late {Q:Exit → Act → World → Prop} {ws:List Oper} {rest:List (Nat × List Oper)} {a:Act} {w:World} (h:wpList P ops (lateQ Q (wpMix P ops Q rest)) ws a w):wpMix P ops Q ((2,ws) :: rest) S a w:=h
theorem mix_end {Q:Exit → Act → World → Prop} {a:Act} {w:World} (h:Q .normal a w):wpMix P ops (calm Q) [] S a w:=h
theorem wp_region_mix {id:Nat} {Q:Exit → Act → World → Prop} {a:Act} {w:World} {l:List Oper} (S:World → Prop) (is:List (Nat × List Nat)) (hm:P.follows .mixedOrders = true)
  (hB:(Region.noSelect l.toArray && decide (count is = l.toArray.size) && mixB l.toArray (lates is) is (Array.replicate l.toArray.size false)) = true)
  (hS:S w.drew) (h:wpMix P l.toArray (calm Q) (pieces l.toArray is) S a w.drew):(Code.region id l.toArray true).wp P Q a w:=by
 simp only [Bool.and_eq_true,decide_eq_true_eq] at hB
 obtain ⟨⟨h1,h2⟩,h3⟩:=hB
 refine Code.wp_mono calm_out (wp_region_any hm (any_of_x (late:=lates is) _ S _ _ _ ?_))
 have:=x_of_mix (P:=P) (Q:=calm Q) h1 (fun _ _ _ _ _ h => h) is S _ a w.drew (Closed.none _) h3 hS h
 rw [h2] at this
 exact this
end
section
variable {lo hi:Nat} {L:Lay} {M:MS} {w:World}
theorem find_yes (h:MemIn lo hi L M w) (i:Nat) (hi':i < M.n) :
  Calls Tryz.prog 74 #[.pointer (some ⟨L.bm,0,none⟩),.int .i64 (i:Int)] w fun e w' => e = .returned (.pointer (some ⟨L.rb i,0,none⟩)) ∧ w = w':=by
 have c0:=h.m0
 have c1:=h.p hi'
 have hr:=(h.r (by omega)).1
 have h65:=h.few
 rw [hr] at c0
 clear hr h
 go_enter Tryz.func74,Tryz.ntmps74
 go_wp2
 go_ret
 exact ⟨rfl,rfl⟩
theorem find_no (h:MemIn lo hi L M w) (i:Int) (hi':¬ (0 ≤ i ∧ i < M.n)) :
  Calls Tryz.prog 74 #[.pointer (some ⟨L.bm,0,none⟩),.int .i64 i] w fun e w' => e = .returned (.pointer none) ∧ w = w':=by
 have c0:=h.m0
 have h65:=h.few
 clear h
 by_cases h0:0 ≤ i
 ·have h1:(M.n:Int) ≤ i:=by omega
  clear hi'
  go_enter Tryz.func74,Tryz.ntmps74
  go_wp2
  go_ret
  exact ⟨rfl,rfl⟩
 ·have h1:i < 0:=by omega
  clear hi' h0
  go_enter Tryz.func74,Tryz.ntmps74
  go_wp2
  go_ret
  exact ⟨rfl,rfl⟩
theorem has_yes (h:MemIn lo hi L M w) (i:Nat) (hi':i < M.n) (j:Nat) (hj:j < M.sz i) :
  Calls Tryz.prog 76 #[.pointer (some ⟨L.rb i,0,none⟩),.int .i64 (j:Int)] w fun e w' => e = .returned (.bool true) ∧ w = w':=by
 have c0:=h.r0 hi'
 have hs:=h.small i hi'
 clear h
 go_enter Tryz.func76,Tryz.ntmps76
 go_wp2
 go_ret
 exact ⟨rfl,rfl⟩
theorem has_no (h:MemIn lo hi L M w) (i:Nat) (hi':i < M.n) (j:Int) (hj:¬ (0 ≤ j ∧ j < M.sz i)) :
  Calls Tryz.prog 76 #[.pointer (some ⟨L.rb i,0,none⟩),.int .i64 j] w fun e w' => e = .returned (.bool false) ∧ w = w':=by
 have c0:=h.r0 hi'
 have hs:=h.small i hi'
 clear h
 by_cases h0:0 ≤ j
 ·have h1:decide (j < (M.sz i:Int)) = false:=by simp;omega
  clear hj
  go_enter Tryz.func76,Tryz.ntmps76
  go_wp2
  go_ret
  exact ⟨rfl,rfl⟩
 ·have h1:j < 0:=by omega
  clear hj h0
  go_enter Tryz.func76,Tryz.ntmps76
  go_wp2
  go_ret
  exact ⟨rfl,rfl⟩
theorem U_add (x y:BitVec 64):IntKind.u64.wrap (U x+U y) = U (x+y):=by
 rw [IntKind.wrap_u64,U_toNat,U_toNat,U_toNat,BitVec.toNat_add]
 omega
theorem behind_any (op at_:Int) (was a b:BitVec 64) (w:World) :
  Calls Tryz.prog 172 #[.int .u64 (U was),.agg #[.int .i64 op,.int .i64 at_,.int .u64 (U a),.int .u64 (U b)]] w (Ret (.int .u64 (U (nextW op was a b))) w):=by
 by_cases h1:op = 1
 ·subst h1
  have e:nextW 1 was a b = a:=by simp [nextW]
  rw [e];clear e
  go_enter Tryz.func172,Tryz.ntmps172
  go_wp2
  go_ret
  exact Ret.mk (by repeat (first | exact ext_refl _ | apply ext_over | apply ext_alloc))
 ·by_cases h2:op = 2
  ·subst h2
   clear h1
   by_cases h3:was = a
   ·subst h3
    have e:nextW 2 was was b = b:=by simp [nextW]
    rw [e];clear e
    go_enter Tryz.func172,Tryz.ntmps172
    go_wp2
    go_ret
    exact Ret.mk (by repeat (first | exact ext_refl _ | apply ext_over | apply ext_alloc))
   ·have e:nextW 2 was a b = was:=by simp [nextW,h3]
    rw [e];clear e
    have q:(U was == U a) = false:=by rw [beq_eq_false_iff_ne];intro hh;exact h3 (U_inj hh)
    clear h3
    go_enter Tryz.func172,Tryz.ntmps172
    go_wp2
    go_ret
    exact Ret.mk (by repeat (first | exact ext_refl _ | apply ext_over | apply ext_alloc))
  ·by_cases h3:op = 3
   ·subst h3
    clear h1 h2
    have e:nextW 3 was a b = was+a:=by simp [nextW]
    rw [e];clear e
    go_enter Tryz.func172,Tryz.ntmps172
    go_wp2
    go_ret
    exact Ret.int (by first | rfl | exact U_add _ _ | simp [U_add]) (by repeat (first | exact ext_refl _ | apply ext_over | apply ext_alloc))
   ·have e:nextW op was a b = was:=by simp [nextW,h1,h2,h3]
    rw [e];clear e
    have q1:(op == 1) = false:=by simpa using h1
    have q2:(op == 2) = false:=by simpa using h2
    have q3:(op == 3) = false:=by simpa using h3
    clear h1 h2 h3
    go_enter Tryz.func172,Tryz.ntmps172
    go_wp2
    go_ret
    exact Ret.mk (by repeat (first | exact ext_refl _ | apply ext_over | apply ext_alloc))
end
section
variable {lo hi:Nat} {L:Lay} {M:MS} {w:World}
theorem good_yes (h:MemIn lo hi L M w) (r:Nat) (e:BitVec 64) (hr:r < M.n) (he:Hid (M.ep r = e)) :
  Calls Tryz.prog 171 #[.pointer (some ⟨L.bm,0,none⟩),.agg #[.int .i64 (r:Int),.int .u64 (U e)]] w (Ret (.bool true) w):=by
 have c0:=h.r1 hr
 have hlt:=h.lt (h.reg r hr).2.1
 rw [he.out] at c0
 have H:=Lib.hid h
 clear h he
 go_enter Tryz.func171,Tryz.ntmps171
 go_wp2_with (go_at_call 74;refine (find_yes (H.out.alloc _) r hr).mono ?_;rintro e w' ⟨rfl,rfl⟩)
 refine wp_region_over (by kernel_rfl) (by kernel_rfl) ?_
 repeat (go_big_quiet_step (fail))
 refine wpQuiet_nil ?_
 intro _ hw'
 obtain ⟨s,hw''⟩:=hw'
 subst hw''
 go_wp2
 go_ret
 exact Ret.mk (by repeat (first | exact ext_refl _ | apply ext_over | apply ext_alloc))
theorem good_no (h:MemIn lo hi L M w) (r:Int) (e:BitVec 64) (hn:¬ Good M r e) :
  Calls Tryz.prog 171 #[.pointer (some ⟨L.bm,0,none⟩),.agg #[.int .i64 r,.int .u64 (U e)]] w (Ret (.bool false) w):=by
 by_cases hr:0 ≤ r ∧ r < M.n
 ·obtain ⟨q,rfl⟩:=Int.eq_ofNat_of_zero_le hr.1
  have hr':q < M.n:=by omega
  have c0:=h.r1 hr'
  have hlt:=h.lt (h.reg q hr').2.1
  have H:=Lib.hid h
  have q1:(U (M.ep q) == U e) = false:=by
   rw [beq_eq_false_iff_ne];intro hh
   exact hn ⟨hr.1,hr.2,by rw [show ((q:Nat):Int).toNat = q by omega];exact U_inj hh⟩
  clear h hn hr
  go_enter Tryz.func171,Tryz.ntmps171
  go_wp2_with (go_at_call 74;refine (find_yes (H.out.alloc _) q hr').mono ?_;rintro e w' ⟨rfl,rfl⟩)
  refine wp_region_over (by kernel_rfl) (by kernel_rfl) ?_
  repeat (go_big_quiet_step (fail))
  refine wpQuiet_nil ?_
  intro _ hw'
  obtain ⟨s,hw''⟩:=hw'
  subst hw''
  go_wp2
  go_ret
  exact Ret.mk (by repeat (first | exact ext_refl _ | apply ext_over | apply ext_alloc))
 ·have H:=Lib.hid h
  have HR:=Lib.hid hr
  clear h hn hr
  go_enter Tryz.func171,Tryz.ntmps171
  go_wp2_with (go_at_call 74;refine (find_no (H.out.alloc _) r HR.out).mono ?_;rintro e w' ⟨rfl,rfl⟩)
  refine wp_region_over (by kernel_rfl) (by kernel_rfl) ?_
  repeat (go_big_quiet_step (fail))
  refine wpQuiet_nil ?_
  intro _ hw'
  obtain ⟨s,hw''⟩:=hw'
  subst hw''
  go_wp2
  go_ret
  exact Ret.mk (by repeat (first | exact ext_refl _ | apply ext_over | apply ext_alloc))
theorem cap_yes (h:MemIn lo hi L M w) (r:Nat) (hr:r < M.n) :
  Calls Tryz.prog 18 #[.pointer (some ⟨L.bm,0,none⟩),.int .i64 (r:Int)] w (Ret (.agg #[.int .i64 (r:Int),.int .u64 (U (M.ep r))]) w):=by
 have c0:=h.r1 hr
 have hlt:=h.lt (h.reg r hr).2.1
 have H:=Lib.hid h
 clear h
 go_enter Tryz.func18,Tryz.ntmps18
 go_wp2_with (go_at_call 74;refine (find_yes (H.out.alloc _) r hr).mono ?_;rintro e w' ⟨rfl,rfl⟩)
 exact bodyPost_ret (v:=.agg #[.int .i64 (r:Int),.int .u64 (U (M.ep r))]) (by simp [results,Tryz.results18,go_sem]) rfl (Ret.mk (by repeat (first | exact ext_refl _ | apply ext_over | apply ext_alloc | (refine ext_set _ ?_ ?_;exact Nat.le_refl _))))
theorem peek_yes (h:MemIn lo hi L M w) (r j:Nat) (hr:r < M.n) (hj:j < M.sz r) :
  Calls Tryz.prog 20 #[.pointer (some ⟨L.bm,0,none⟩),.int .i64 (r:Int),.int .i64 (j:Int)] w (Ret (.int .u64 (U (M.wd r j))) w):=by
 have c0:=h.r0 hr
 have c1:=h.x hr hj
 have hs:=h.small r hr
 have H:=Lib.hid h
 clear h
 go_enter Tryz.func20,Tryz.ntmps20
 go_wp2_with (first
  | (go_at_call 74;refine (find_yes H.out r hr).mono ?_;rintro e w' ⟨rfl,rfl⟩)
  | (go_at_call 76;refine (has_yes H.out r hr j hj).mono ?_;rintro e w' ⟨rfl,rfl⟩))
 go_ret
 exact Ret.mk (ext_refl _)
end
section
variable {lo hi:Nat} {L:Lay} {M:MS} {w:World}
theorem U_inc (x:BitVec 64):IntKind.u64.wrap (U x+1) = U (x+1#64):=by
 have h:=U_add x 1#64
 rw [show U 1#64 = 1 from U_of _ _ (by decide)] at h
 exact h
attribute [go_sem] U_inc U_add
theorem do_no (h:MemIn lo hi L M w) (r op at_:Int) (e a b:BitVec 64) (hn:¬ DoOk M r e op at_) :
  Calls Tryz.prog 100 #[.pointer (some ⟨L.bm,0,none⟩),.agg #[.int .i64 r,.int .u64 (U e)],.agg #[.int .i64 op,.int .i64 at_,.int .u64 (U a),.int .u64 (U b)]] w (Ret (.tuple #[.int .u64 0,.bool false]) w):=by
 have H:=Lib.hid h
 clear h
 by_cases hg:Good M r e
 ·obtain ⟨hg0,hg1,hg2⟩:=hg
  obtain ⟨q,rfl⟩:=Int.eq_ofNat_of_zero_le hg0
  have hr':q < M.n:=by omega
  rw [show ((q:Nat):Int).toNat = q by omega] at hg2
  have HE:Hid (M.ep q = e):=Lib.hid hg2
  have hn':¬ (0 ≤ at_ ∧ at_ < M.sz q ∧ 0 ≤ op ∧ op ≤ 3):=fun hh => hn ⟨⟨hg0,hg1,by rw [show ((q:Nat):Int).toNat = q by omega];exact hg2⟩,hh.1,by rw [show ((q:Nat):Int).toNat = q by omega];exact hh.2.1,hh.2.2.1,hh.2.2.2⟩
  clear hg2 hn hg0 hg1
  by_cases hj:0 ≤ at_ ∧ at_ < M.sz q
  ·obtain ⟨j,rfl⟩:=Int.eq_ofNat_of_zero_le hj.1
   have hj':j < M.sz q:=by omega
   by_cases ho:0 ≤ op
   ·have h3:3 < op:=by omega
    clear hn' hj
    go_enter Tryz.func100,Tryz.ntmps100
    go_wp2_with (first
     | (go_at_call 171;refine (good_yes ((H.out.alloc _).alloc _) q e hr' HE).mono ?_;rintro e w' hr';obtain ⟨rfl,s,rfl⟩:=hr'.over;clear hr')
     | (go_at_call 74;refine (find_yes (((H.out.alloc _).alloc _).over s) q hr').mono ?_;rintro e w' ⟨rfl,rfl⟩)
     | (go_at_call 76;refine (has_yes (((H.out.alloc _).alloc _).over s) q hr' j hj').mono ?_;rintro e w' ⟨rfl,rfl⟩))
    go_ret2
    exact Ret.mk (by repeat (first | exact ext_refl _ | apply ext_over | apply ext_alloc))
   ·have h3:op < 0:=by omega
    clear hn' hj ho
    go_enter Tryz.func100,Tryz.ntmps100
    go_wp2_with (first
     | (go_at_call 171;refine (good_yes ((H.out.alloc _).alloc _) q e hr' HE).mono ?_;rintro e w' hr';obtain ⟨rfl,s,rfl⟩:=hr'.over;clear hr')
     | (go_at_call 74;refine (find_yes (((H.out.alloc _).alloc _).over s) q hr').mono ?_;rintro e w' ⟨rfl,rfl⟩)
     | (go_at_call 76;refine (has_yes (((H.out.alloc _).alloc _).over s) q hr' j hj').mono ?_;rintro e w' ⟨rfl,rfl⟩))
    go_ret2
    exact Ret.mk (by repeat (first | exact ext_refl _ | apply ext_over | apply ext_alloc))
  ·have HJ:=Lib.hid hj
   clear hn' hj
   go_enter Tryz.func100,Tryz.ntmps100
   go_wp2_with (first
    | (go_at_call 171;refine (good_yes ((H.out.alloc _).alloc _) q e hr' HE).mono ?_;rintro e w' hr';obtain ⟨rfl,s,rfl⟩:=hr'.over;clear hr')
    | (go_at_call 74;refine (find_yes (((H.out.alloc _).alloc _).over s) q hr').mono ?_;rintro e w' ⟨rfl,rfl⟩)
    | (go_at_call 76;refine (has_no (((H.out.alloc _).alloc _).over s) q hr' _ HJ.out).mono ?_;rintro e w' ⟨rfl,rfl⟩))
   go_ret2
   exact Ret.mk (by repeat (first | exact ext_refl _ | apply ext_over | apply ext_alloc))
 ·have HG:=Lib.hid hg
  clear hg hn
  go_enter Tryz.func100,Tryz.ntmps100
  go_wp2_with (go_at_call 171;refine (good_no ((H.out.alloc _).alloc _) r e HG.out).mono ?_;rintro e w' hr';obtain ⟨rfl,s,rfl⟩:=hr'.over;clear hr')
  go_ret2
  exact Ret.mk (by repeat (first | exact ext_refl _ | apply ext_over | apply ext_alloc))
end
end Go.Proofs.YthjklbonebnekaaGreat

